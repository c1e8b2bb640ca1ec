import PyProof.Rows.All
import Wide.All
import OpenK.AllK
import Wide.FinOn
import Lean
import PyProof.EqAt
import PyProof.EqKinds
import PyProof.TupleCall
import PyProof.NeKinds
import PyProof.ListMulRoad
import PyProof.FactsAll.tuple
import PyProof.SetKind
import PyProof.DictKinds
import PyProof.Rows.SetFrom
import PyProof.Rows.SortStr
import PyProof.FactsAll.set
import KE.KDictOf
import PyProof.AttrMissHeap
import PyProof.WalksMore
import PyProof.ListRange
import PyProof.TupleOfSeq
import PyProof.Rows.TupDisplay
import PyProof.DictItems
import KE.KMinBuiltin
import KE.KTupSum
import PyProof.DictWalks
import KE.KSortTup
import PySem.Challenge.RW_routeboard_k11_whole_best
set_option Elab.async false
set_option linter.all false
set_option maxRecDepth 100000
set_option maxHeartbeats 0
noncomputable section
namespace L2
open PySem PySem.Spec PyProof.Rows
abbrev Key:=Sum Int Str
def keyIs:Key -> Value -> Bool
 | .inl k,v=>Value.isInt k v
 | .inr x,v=>Value.isStrOf x v
def keyH (w:World):Key -> Int
 | .inl k=>hashInt k
 | .inr x=>hashStr w x
theorem Jf:∀ {k:Key} {v:Value},keyIs k v = true -> (∃ i t,k = Sum.inl i /\ v = Value.int i t) \/ (∃ x t,k = Sum.inr x /\ v = Value.str x t)
 | .inl i,v,h=>by
  obtain ⟨t,e⟩:=Value.isInt_shape (k:=i) (v:=v) h
  exact .inl ⟨i,t,rfl,e⟩
 | .inr x,v,h=>by
  obtain ⟨t,e⟩:=Value.isStrOf_shape (x:=x) (v:=v) h
  exact .inr ⟨x,t,rfl,e⟩
theorem Jgx (i:Int) (t:Tok):keyIs (.inl i) (.int i t) = true:=by simp [keyIs,Value.isInt]
theorem Jgz (x:Str) (t:Tok):keyIs (.inr x) (.str x t) = true:=by simp [keyIs,Value.isStrOf]
theorem JkW (a b:Int):decide ((Sum.inl a:Key) = Sum.inl b) = (a == b):=by
 by_cases e:a = b
 ·subst e; simp
 ·have h:¬ (Sum.inl a:Key) = Sum.inl b:=fun q=>e (Sum.inl.inj q)
  rw [decide_eq_false h]
  exact (beq_eq_false_iff_ne.mpr e).symm
theorem JlT (a b:Str):decide ((Sum.inr a:Key) = Sum.inr b) = decide (a = b):=by
 by_cases e:a = b
 ·subst e; simp
 ·have h:¬ (Sum.inr a:Key) = Sum.inr b:=fun q=>e (Sum.inr.inj q)
  rw [decide_eq_false h,decide_eq_false e]
theorem JlL (a:Int) (b:Str):decide ((Sum.inl a:Key) = Sum.inr b) = false:=decide_eq_false (fun q=>nomatch q)
theorem JlH (a:Str) (b:Int):decide ((Sum.inr a:Key) = Sum.inl b) = false:=decide_eq_false (fun q=>nomatch q)
def mixKind (prog:Program) (w:World):PySem.KeyKind prog w Key where
 is:=keyIs
 hash:=keyH w
 inj:=fun v a b ha hb=>by
  rcases Jf ha with ⟨i,t,rfl,rfl⟩ | ⟨x,t,rfl,rfl⟩
  ·rcases Jf hb with ⟨j,u,rfl,e⟩ | ⟨y,u,rfl,e⟩
   ·injection e with e1 _; rw [e1]
   ·exact nomatch e
  ·rcases Jf hb with ⟨j,u,rfl,e⟩ | ⟨y,u,rfl,e⟩
   ·exact nomatch e
   ·injection e with e1 _; rw [e1]
 byValue:=fun k v h=>by
  rcases Jf h with ⟨i,t,rfl,rfl⟩ | ⟨x,t,rfl,rfl⟩ <;> rfl
 pyHash:=fun hv h=>by
  rcases Jf hv with ⟨i,t,rfl,rfl⟩ | ⟨x,t,rfl,rfl⟩
  ·exact wpAny_pyHash_int h
  ·exact wpAny_pyHash_str h
 eqBool:=fun hu hv h=>by
  rcases Jf hu with ⟨i,t,rfl,rfl⟩ | ⟨x,t,rfl,rfl⟩
  ·rcases Jf hv with ⟨j,u,rfl,rfl⟩ | ⟨y,u,rfl,rfl⟩
   ·rw [JkW] at h; exact wpAny_eqBool_int h
   ·rw [JlL] at h; exact SeqAt.EqAt.int_str i t y u _ _ _ _ h
  ·rcases Jf hv with ⟨j,u,rfl,rfl⟩ | ⟨y,u,rfl,rfl⟩
   ·rw [JlH] at h; exact SeqAt.EqAt.str_int x t j u _ _ _ _ h
   ·rw [JlT] at h; exact wpAny_eqBool_str h
 «strs»:=fun k x t v h=>by
  rcases Jf h with ⟨i,u,rfl,e⟩ | ⟨y,u,rfl,e⟩
  ·exact nomatch e
  ·injection e with e1 _
   subst e1
   cases v <;> rfl
theorem Jdp (prog:Program) (w:World) (i:Int) (t:Tok):(mixKind prog w).is (.inl i) (.int i t) = true:=Jgx i t
theorem Jdk (prog:Program) (w:World) (x:Str) (t:Tok):(mixKind prog w).is (.inr x) (.str x t) = true:=Jgz x t
end L2
namespace L2
open PySem PySem.Spec PyProof.Rows
inductive V where
 | non | bl (b:Bool) | int (i:Int) | str (x:Str) | byt (b:Array UInt8) | flt (b:UInt64) | ref (a:Addr) | ty (n:String)
 deriving DecidableEq
def RelV:V -> Value -> Prop
 | .non,u=>u = Value.none
 | .bl b,u=>u = Value.bool b
 | .int i,u=>∃ t,u = Value.int i t
 | .str x,u=>∃ t,u = Value.str x t
 | .byt b,u=>∃ t,u = Value.bytes b t
 | .flt b,u=>∃ t,u = Value.float b t
 | .ref a,u=>u = Value.ref a
 | .ty n,u=>u = Value.type n
abbrev Vals:List V -> List Value -> Prop:=Paired RelV
theorem Vals.length {xs:List V} {us:List Value} (r:Vals xs us):xs.length = us.length:=Paired.length r
theorem Vals.get:∀ {xs:List V} {us:List Value} {i:Nat} {x:V},Vals xs us -> xs[i]? = some x -> ∃ u,us[i]? = some u /\ RelV x u
 | _,_,_,_,.nil,e=>by simp at e
 | _,_,0,_,.cons r _,e=>by simp at e; subst e; exact ⟨_,rfl,r⟩
 | _,_,i + 1,x,.cons _ t,e=>by
  obtain ⟨u,h1,h2⟩:=Vals.get (i:=i) (x:=x) t (by simpa using e)
  exact ⟨u,by simpa using h1,h2⟩
theorem Vals.set {x:V} {u:Value} (r:RelV x u):∀ {xs:List V} {us:List Value} (i:Nat),Vals xs us -> Vals (xs.set i x) (us.set i u)
 | _,_,_,.nil=>.nil
 | _,_,0,.cons _ t=>.cons r t
 | _,_,i + 1,.cons q t=>.cons q (Vals.set r i t)
theorem Vals.append:∀ {xs ys:List V} {us ws:List Value},Vals xs us -> Vals ys ws -> Vals (xs ++ ys) (us ++ ws)
 | _,_,_,_,.nil,s=>s
 | _,_,_,_,.cons r t,s=>.cons r (Vals.append t s)
theorem Vals.take:∀ {xs:List V} {us:List Value} (n:Nat),Vals xs us -> Vals (xs.take n) (us.take n)
 | _,_,0,_=>.nil
 | _,_,_ + 1,.nil=>.nil
 | _,_,n + 1,.cons r t=>.cons r (Vals.take n t)
theorem Vals.drop:∀ {xs:List V} {us:List Value} (n:Nat),Vals xs us -> Vals (xs.drop n) (us.drop n)
 | _,_,0,r=>r
 | _,_,_ + 1,.nil=>.nil
 | _,_,n + 1,.cons _ t=>Vals.drop n t
theorem Vals.none_of:∀ {xs:List V} {us:List Value} {i:Nat},Vals xs us -> xs[i]? = none -> us[i]? = none:=fun {xs us i} r e=>by
 have h1:=r.length
 have h2:xs.length <= i:=List.getElem?_eq_none_iff.mp e
 exact List.getElem?_eq_none_iff.mpr (by omega)
def RelO:Option V -> Option Value -> Prop
 | some v,some u=>RelV v u
 | none,none=>True
 | _,_=>False
def KV {κ:Type}:List (κ × V) -> List (κ × Value) -> Prop:=Paired fun (p:κ × V) (q:κ × Value)=>p.1 = q.1 /\ RelV p.2 q.2
def kV:Key -> V
 | .inl i=>.int i
 | .inr x=>.str x
inductive HO where
 /-- a list -/
 | lst (xs:List V)
 /-- a tuple (never changes) -/
 | tup (xs:List V)
 /-- a dict whose keys are ints and texts; one whose keys are tuples of ints and texts (the empty one is both) -/
 | dK (kvs:List (Key × V)) | dT (kvs:List (List Key × V))
 /-- a set of ints: its members,its size -/
 | set (S:Int -> Bool) (n:Nat)
 /-- an instance of the class at C,its dict at dx,its attributes -/
 | ins (C dx:Addr) (fs:List (Str × V))
 /-- the dict of the instance at x -/
 | own (x:Addr)
 /-- the dict of an exception -/
 | xd (fs:List (Str × V))
 /-- a bound method,f of x -/
 | met (f x:Addr)
 /-- a range object lo,lo + 1,.. below hi -/
 | rng (lo hi:Int)
 /-- a thing that is known to the object (the script; a dict while a loop walks it): read,never written while it is so -/
 | frz (o:Obj) (u:HO)
 /-- a code object's table -/
 | tbl (ps:Array Value)
 /-- any other thing,by what is true of its one object (a def of one's own: SetO a S n:=HO.ext fun h=>..) -/
 | ext (φ:Heap -> Prop)
abbrev Hp:=Addr -> Option HO
def upd (H:Hp) (a:Addr) (o:HO):Hp:=fun b=>if b = a then some o else H b
theorem Ji {H:Hp} {a:Addr} {o:HO}:upd H a o a = some o:=by unfold upd; rw [if_pos rfl]
theorem Ja {H:Hp} {a b:Addr} {o:HO} (h:b ≠ a):upd H a o b = H b:=by unfold upd; rw [if_neg h]
theorem Jg {H:Hp} {a b:Addr} {o:HO} (h:H a = some o) (h':H b = none):a ≠ b:=by
 intro e; subst e; rw [h] at h'; cases h'
section
variable (P:Program) (w:World)
def ObjOk (H:Hp) (h:Heap) (a:Addr):HO -> Prop
 | .lst xs=>xs.length <= sizeLine /\ ∃ (its:List Value) (n:Nat),Vals xs its /\ h.get? a = some { cls:=.type "list",data:=.seq its.toArray n }
 | .tup xs=>(xs.length <= sizeLine /\ ∀ o,h.get? a = some o -> o.dict = none) /\ ∃ its:List Value,Vals xs its /\ IsTup h a its.toArray
 | .dK kvs=>kvs.length <= sizeLine /\ (a == sysModules) = false /\ ∃ vs,KV kvs vs /\ h.DictOf (mixKind P w) a vs
 | .dT kvs=>kvs.length <= sizeLine /\ (a == sysModules) = false /\ ∃ xs:List (List Key × Addr × Value),
   Paired (fun (p:List Key × V) (q:List Key × Addr × Value)=>p.1 = q.1 /\ H q.2.1 = some (.tup (p.1.map kV)) /\ RelV p.2 q.2.2) kvs xs /\
   ∃ o es ep,h.get? a = some o /\ o.ExactDict /\ o.data = .dict es ep /\ es.toList = xs.map (entryOfKey (tupleKind (mixKind P w))) /\ (xs.map (·.1)).Nodup
 | .set S n=>h.SetOf (intKind P w) a S n
 | .ins C dx fs=>H dx = some (.own a) /\ fs.length <= 1000 /\ dx ≠ a /\ h.get? a = some (PySem.W.instObj C dx) /\
   ∃ mA,h.Ns1 dx mA /\ (∀ f,RelO (fs.lookup f) (mA f)) /\ PySem.Within mA (fs.map (·.1))
 | .own _=>∃ o,h.get? a = some o
 | .xd fs=>∃ mA,h.Ns1 a mA /\ ∀ f,RelO (fs.lookup f) (mA f)
 | .rng lo hi=>∃ t u v,h.get? a = some { cls:=.type "range",data:=.fields #[.int lo t,.int hi u,.int 1 v] }
 | .frz o u=>h.get? a = some o /\ ObjOk H h a u
 | .tbl ps=>h.get? a = some { cls:=.none,data:=.fields ps }
 | .met f x=>h.get? a = some (PySem.W.methodObj (.ref f) (.ref x))
 | .ext φ=>φ h /\ (∃ o,h.get? a = some o) /\ ∀ h1 h2:Heap,φ h1 -> (∀ o,h1.get? a = some o -> h2.get? a = some o) -> φ h2
theorem Jei {h:Heap} {z:Array Value} {n:Nat} (o:Obj) (q:(h.push { cls:=.type "tuple",data:=.seq z n }).get? h.objs.size = some o):o.dict = none:=by
 rw [Heap.get?_push_size _ rfl] at q; cases q; rfl
def HOk (H:Hp) (h:Heap):Prop:=∀ a o,H a = some o -> ObjOk P w H h a o
end
section
variable {P:Program} {w:World} {H H':Hp} {h h':Heap} {a:Addr} {o:HO}
theorem ObjOk.lt (x:ObjOk P w H h a o):a < h.objs.size:=by
 cases o with
 | lst xs=>obtain ⟨_,_,_,_,e⟩:=x; exact Heap.lt_size e
 | tup xs=>obtain ⟨_,_,_,p⟩:=x; exact p.lt
 | dK kvs=>obtain ⟨_,_,_,_,o,_,_,e,_⟩:=x; exact Heap.lt_size e
 | dT kvs=>obtain ⟨_,_,_,_,o,_,_,e,_⟩:=x; exact Heap.lt_size e
 | set S n=>obtain ⟨o,_,_,_,e,_⟩:=x; exact Heap.lt_size e
 | ins C dx fs=>obtain ⟨_,_,_,e,_⟩:=x; exact Heap.lt_size e
 | own y=>obtain ⟨_,e⟩:=x; exact Heap.lt_size e
 | xd fs=>obtain ⟨_,⟨_,_,_,e,_⟩,_⟩:=x; exact Heap.lt_size e
 | rng lo hi=>obtain ⟨_,_,_,e⟩:=x; exact Heap.lt_size e
 | frz ob u=>obtain ⟨e,_⟩:=x; exact Heap.lt_size e
 | tbl ps=>exact Heap.lt_size (show h.get? a = some _ from x)
 | met f y=>exact Heap.lt_size (show h.get? a = some _ from x)
 | ext φ=>obtain ⟨_,⟨_,e⟩,_⟩:=x; exact Heap.lt_size e
theorem Paired.mapP {α β:Type} {F G:α -> β -> Prop}:∀ {l₁:List α} {l₂:List β},Paired F l₁ l₂ -> (∀ a b,F a b -> G a b) -> Paired G l₁ l₂
 | _,_,.nil,_=>.nil
 | _,_,.cons r t,f=>.cons (f _ _ r) (Paired.mapP t f)
theorem ObjOk.stay (x:ObjOk P w H h a o) (k:∀ b u,(b = a \/ H b = some (.own a)) -> h.get? b = some u -> h'.get? b = some u)
  (ho:∀ b,H b = some (.own a) -> H' b = some (.own a)) (ht:∀ b xs,H b = some (.tup xs) -> H' b = some (.tup xs)):ObjOk P w H' h' a o:=by
 induction o with
 | lst xs=>obtain ⟨z,its,n,r,e⟩:=x; exact ⟨z,its,n,r,k _ _ (.inl rfl) e⟩
 | tup xs=>obtain ⟨⟨z,zd⟩,its,r,ob,e,c⟩:=x; exact ⟨⟨z,fun o q=>by rw [k _ _ (.inl rfl) e] at q; cases q; exact zd _ e⟩,its,r,ob,k _ _ (.inl rfl) e,c⟩
 | dK kvs=>obtain ⟨z,y,vs,r,ob,es,ep,e,c⟩:=x; exact ⟨z,y,vs,r,ob,es,ep,k _ _ (.inl rfl) e,c⟩
 | dT kvs=>
  obtain ⟨z,y,xs,r,ob,es,ep,e,c⟩:=x
  exact ⟨z,y,xs,Paired.mapP r fun p q z=>⟨z.1,ht _ _ z.2.1,z.2.2⟩,ob,es,ep,k _ _ (.inl rfl) e,c⟩
 | set S n=>obtain ⟨ob,es,ep,t,e,c⟩:=x; exact ⟨ob,es,ep,t,k _ _ (.inl rfl) e,c⟩
 | ins C dx fs=>
  obtain ⟨d,z,ne,e,mA,⟨od,es,ep,e2,c⟩,r⟩:=x
  exact ⟨ho _ d,z,ne,k _ _ (.inl rfl) e,mA,⟨od,es,ep,k _ _ (.inr d) e2,c⟩,r⟩
 | own y=>obtain ⟨ob,e⟩:=x; exact ⟨ob,k _ _ (.inl rfl) e⟩
 | xd fs=>obtain ⟨mA,⟨od,es,ep,e,c⟩,r⟩:=x; exact ⟨mA,⟨od,es,ep,k _ _ (.inl rfl) e,c⟩,r⟩
 | rng lo hi=>obtain ⟨t,u,v,e⟩:=x; exact ⟨t,u,v,k _ _ (.inl rfl) e⟩
 | frz ob u ih=>obtain ⟨e,q⟩:=x; exact ⟨k _ _ (.inl rfl) e,ih q⟩
 | tbl ps=>
  have e:h.get? a = some { cls:=.none,data:=.fields ps }:=x
  show h'.get? a = some { cls:=.none,data:=.fields ps }
  exact k a _ (.inl rfl) e
 | met f y=>
  have e:h.get? a = some (PySem.W.methodObj (.ref f) (.ref y)):=x
  show h'.get? a = some (PySem.W.methodObj (.ref f) (.ref y))
  exact k a _ (.inl rfl) e
 | ext φ=>obtain ⟨p,⟨o,e⟩,st⟩:=x; exact ⟨st _ _ p fun o q=>k _ _ (.inl rfl) q,⟨o,k _ _ (.inl rfl) e⟩,st⟩
theorem HOk.lt (x:HOk P w H h) (e:H a = some o):a < h.objs.size:=(x a o e).lt
theorem HOk.fresh (x:HOk P w H h) (e:h.objs.size <= a):H a = none:=by
 cases q:H a with
 | none=>rfl
 | some u=>exact absurd (Nat.lt_of_lt_of_le (x.lt q) e) (Nat.lt_irrefl _)
theorem HOk.kept (x:HOk P w H h) (k:∀ b u,h.get? b = some u -> h'.get? b = some u):HOk P w H h':=fun a o e=>
 (x a o e).stay (fun b u _ q=>k b u q) (fun _ q=>q) fun _ _ q=>q
theorem HOk.laid (x:HOk P w H h) (k:∀ b u,h.get? b = some u -> h'.get? b = some u) (hp:h.objs.size <= a) (new:ObjOk P w (upd H a o) h' a o):HOk P w (upd H a o) h':=fun b u e=>by
 have hn:=x.fresh hp
 by_cases hb:b = a
 ·subst hb; rw [Ji] at e; cases e; exact new
 ·rw [Ja hb] at e
  exact (x b u e).stay (fun c v _ q=>k c v q) (fun c q=>by rw [Ja (Jg q hn)]; exact q) fun c xs q=>by rw [Ja (Jg q hn)]; exact q
end
def Rd (H:Hp) (a:Addr) (u:HO):Prop:=H a = some u \/ ∃ o,H a = some (.frz o u)
theorem Rd.ok {P:Program} {w:World} {H:Hp} {h:Heap} {a:Addr} {u:HO} (r:Rd H a u) (x:HOk P w H h):ObjOk P w H h a u:=by
 rcases r with r | ⟨o,r⟩
 ·exact x a u r
 ·obtain ⟨_,q⟩:=x a _ r
  exact q
def Mut:Option HO -> Prop
 | some (.lst _)=>True
 | some (.dK _)=>True
 | some (.dT _)=>True
 | some (.set _ _)=>True
 | some (.ins _ _ _)=>True
 | some (.ext _)=>True
 | _=>False
section
variable {P:Program} {w:World} {H:Hp} {h h':Heap} {x e:Addr} {o':HO}
theorem HOk.write (ok:HOk P w H h) (mu:Mut (H x)) (he:e = x \/ H e = some (.own x)) (k:∀ b u,b ≠ e -> h.get? b = some u -> h'.get? b = some u) (heo:∃ u,h'.get? e = some u)
  (new:ObjOk P w (upd H x o') h' x o'):HOk P w (upd H x o') h':=fun b u q=>by
 have nown:∀ c y,H c = some (.own y) -> c ≠ x:=fun c y r z=>by subst z; rw [r] at mu; exact mu
 have ntup:∀ c xs,H c = some (.tup xs) -> c ≠ x:=fun c xs r z=>by subst z; rw [r] at mu; exact mu
 by_cases hb:b = x
 ·subst hb; rw [Ji] at q; cases q; exact new
 ·rw [Ja hb] at q
  by_cases hbe:b = e
  ·have q':H b = some (.own x):=by
    rcases he with z | z
    ·exact absurd (hbe.trans z) hb
    ·rw [hbe]; exact z
   rw [q] at q'; cases q'
   obtain ⟨v,hv⟩:=heo
   exact ⟨v,by rw [hbe]; exact hv⟩
  ·refine (ok b u q).stay (fun c v hc r=>k c v ?_ r) (fun c r=>by rw [Ja (nown c b r)]; exact r) fun c xs r=>by rw [Ja (ntup c xs r)]; exact r
   rcases hc with rfl | hc
   ·exact hbe
   ·rintro rfl
    rcases he with z | z
    ·exact nown c b hc z
    ·rw [hc] at z; cases z; exact hb rfl
end
structure Un (fs ex:List Addr) (H H':Hp) (h h':Heap):Prop where
 keep:∀ b o,h.get? b = some o -> H b = none -> b ∉ fs -> b ∉ ex -> h'.get? b = some o
 slot:∀ b o,h.get? b = some o -> H b = none -> b ∈ fs -> b ∉ ex -> ∃ sl,h'.get? b = some { o with slots:=sl }
 free:∀ b o,h.get? b = some o -> H b = none -> b ∉ ex -> H' b = none
 there:∀ b o,h.get? b = some o -> b ∉ ex -> ∃ o',h'.get? b = some o'
 tups:∀ b xs,H b = some (.tup xs) -> H' b = some (.tup xs)
 frzs:∀ b o u,H b = some (.frz o u) -> H' b = some (.frz o u)
 tbls:∀ b ps,H b = some (.tbl ps) -> ∃ more,H' b = some (.tbl (ps ++ more))
section
variable {fs fs' ex ex':List Addr} {H H1 H2:Hp} {h h1 h2 h':Heap} {a x e:Addr} {o:HO}
theorem Un.any (u:Un fs ex H H1 h h1) {b:Addr} {ob:Obj} (q:h.get? b = some ob) (n:H b = none) (hx:b ∉ ex):∃ sl,h1.get? b = some { ob with slots:=sl }:=by
 by_cases hb:b ∈ fs
 ·exact u.slot b ob q n hb hx
 ·exact ⟨ob.slots,u.keep b ob q n hb hx⟩
theorem Un.trans (a:Un fs ex H H1 h h1) (b:Un fs ex H1 H2 h1 h2):Un fs ex H H2 h h2 where
 keep:=fun c ob q n hc hx=>b.keep c ob (a.keep c ob q n hc hx) (a.free c ob q n hx) hc hx
 slot:=fun c ob q n hc hx=>by
  obtain ⟨sl,e1⟩:=a.slot c ob q n hc hx
  obtain ⟨sl',e2⟩:=b.slot c _ e1 (a.free c ob q n hx) hc hx
  exact ⟨sl',e2⟩
 free:=fun c ob q n hx=>by
  obtain ⟨o',e1⟩:=a.there c ob q hx
  exact b.free c o' e1 (a.free c ob q n hx) hx
 there:=fun c ob q hx=>by
  obtain ⟨o',e1⟩:=a.there c ob q hx
  exact b.there c o' e1 hx
 tups:=fun c xs q=>b.tups c xs (a.tups c xs q)
 frzs:=fun c ob xs q=>b.frzs c ob xs (a.frzs c ob xs q)
 tbls:=fun c ps q=>by
  obtain ⟨m1,e1⟩:=a.tbls c ps q
  obtain ⟨m2,e2⟩:=b.tbls c _ e1
  exact ⟨m1 ++ m2,by rw [e2,Array.append_assoc]⟩
theorem Un.kept (k:∀ b u,h.get? b = some u -> h'.get? b = some u):Un fs ex H H h h':=
 ⟨fun b ob q _ _ _=>k b ob q,fun b ob q _ _ _=>⟨ob.slots,k b ob q⟩,fun _ _ _ n _=>n,fun b ob q _=>⟨ob,k b ob q⟩,fun _ _ q=>q,fun _ _ _ q=>q,fun _ ps q=>⟨#[],by rw [q]; simp⟩⟩
theorem Un.refl:Un fs ex H H h h:=Un.kept fun _ _ q=>q
theorem Un.laid (k:∀ b u,h.get? b = some u -> h'.get? b = some u) (hp:h.objs.size <= a) (hn:H a = none):Un fs ex H (upd H a o) h h' where
 keep:=fun b u q _ _ _=>k b u q
 slot:=fun b u q _ _ _=>⟨u.slots,k b u q⟩
 free:=fun b u q n _=>by rw [Ja (Nat.ne_of_lt (Nat.lt_of_lt_of_le (Heap.lt_size q) hp))]; exact n
 there:=fun b u q _=>⟨u,k b u q⟩
 tups:=fun b xs q=>by rw [Ja (Jg q hn)]; exact q
 frzs:=fun b u xs q=>by rw [Ja (Jg q hn)]; exact q
 tbls:=fun b ps q=>⟨#[],by rw [Ja (Jg q hn),q]; simp⟩
theorem Un.write (mu:Mut (H x)) (he:e = x \/ H e = some (.own x)) (k:∀ b u,b ≠ e -> h.get? b = some u -> h'.get? b = some u) (heo:∃ u,h'.get? e = some u):Un fs ex H (upd H x o) h h':=by
 have hx:∀ b,H b = none -> b ≠ x:=fun b n z=>by subst z; rw [n] at mu; exact mu
 have hb:∀ b,H b = none -> b ≠ e:=fun b n z=>by
  subst z
  rcases he with r | r
  ·exact hx b n r
  ·rw [n] at r; cases r
 have hm:∀ b u,H b = some u -> ¬ Mut (some u) -> b ≠ x:=fun b u q nm z=>by subst z; rw [q] at mu; exact nm mu
 refine ⟨fun b u q n _ _=>k b u (hb b n) q,fun b u q n _ _=>⟨u.slots,k b u (hb b n) q⟩,fun b u q n _=>by rw [Ja (hx b n)]; exact n,fun b u q _=>?_,
  fun b xs q=>by rw [Ja (hm b _ q fun z=>z)]; exact q,fun b u xs q=>by rw [Ja (hm b _ q fun z=>z)]; exact q,fun b ps q=>⟨#[],by rw [Ja (hm b _ q fun z=>z),q]; simp⟩⟩
 by_cases hbe:b = e
 ·subst hbe; exact heo
 ·exact ⟨u,k b u hbe q⟩
end
def trk (h:Heap) (H:Hp):List Addr:=(List.range h.objs.size).filter fun a=>(H a).isSome
def hidT (h:Heap) (H:Hp):Heap:=PySem.W.hideAll h (trk h H)
theorem JgF (h:Heap) (H:Hp):(hidT h H).objs.size = h.objs.size:=PySem.W.hideAll_size _ _
theorem Jik {h:Heap} {H:Hp} {b:Addr} {o:Obj} (e:h.get? b = some o) (n:H b = none):(hidT h H).get? b = some o:=
 PySem.W.hideAll_get _ e fun hm=>by
  have q:(H b).isSome = true:=(List.mem_filter.mp hm).2
  rw [n] at q; simp at q
theorem JjI {h:Heap} {H:Hp} {b:Addr} {o:Obj} (e:(hidT h H).get? b = some o):h.get? b = some o /\ H b = none:=by
 have e':h.get? b = some o:=PySem.W.of_hideAll (trk h H) e
 refine ⟨e',?_⟩
 cases q:H b with
 | none=>rfl
 | some x=>
  have hm:b ∈ trk h H:=List.mem_filter.mpr ⟨List.mem_range.mpr (Heap.lt_size e'),by simp [q]⟩
  have z:(hidT h H).get? b = none:=PySem.W.hideAll_none (trk h H) hm
  rw [z] at e; cases e
def allNews (g h:Heap) (L:Addr):List (Addr × Obj):=(List.range h.objs.size).filterMap fun a=>if a = L \/ (g.get? a).isSome = true then none else (h.get? a).map fun o=>(a,o)
def rest (g h:Heap) (L d:Addr):List (Addr × Obj):=(allNews g h L).filter fun p=>decide (p.1 ≠ d)
end L2
namespace L2
open PySem PySem.Spec PyProof.Rows
structure Mod (K:PySem.W.Frag) (mg:Str -> Option Value) (base:Heap):Prop where
 kin:K.In base
 glob:base.Ns mainGlobals mg
 blt:∃ mb,base.Ns builtinsNs mb /\ ∀ x:Str,x ≠ "__name__" -> mb x = bootBuiltins x
 nolimit:base.NoLimit
structure Cx where
 prog:Program
 w:World
 K:PySem.W.Frag
 mg:Str -> Option Value
 base:Heap
 A:Around
 N:List Str
 s₀:Shared
 H₀:Hp
 env:Env
 outer:List Env
 stack:List Env
 ex:List Addr
 fn:Str -> Bool
 calm:Bool
 pn:List (Addr × Obj)
 xe:Value -> Shared -> Prop
def frs (l:List Env):List Addr:=l.filterMap (·.frame)
abbrev Cx.fs (X:Cx):List Addr:=frs X.outer
def Vis (sc:Scope) (x:Str):Prop:=sc.names.lookup x = some .local \/ sc.names.lookup x = some .cell \/ sc.names.lookup x = some .free
def Loc (sc:Scope) (x:Str):Prop:=sc.names.lookup x = some .local \/ sc.names.lookup x = some .cell
def Look (env:Env) (h:Heap) (m:Str -> Option Value) (x:Str) (u:Value):Prop:=
 (env.kindOf x = some .local /\ m x = some u) \/ ((env.kindOf x = some .cell \/ env.kindOf x = some .free) /\ ∃ c,env.cells.lookup x = some c /\ h.IsCell c (some u))
structure Cx.Ok (X:Cx):Prop where
 mod:Mod X.K X.mg X.base
 kind:X.env.scope.kind = .function
 glob:X.env.globals = mainGlobals
 blt:X.env.builtins = builtinsNs
 above:X.s₀.heap.objs.size <= X.env.locals
 inj:∀ x y c,X.env.cells.lookup x = some c -> X.env.cells.lookup y = some c -> x = y
 has:∀ x,(X.env.kindOf x = some .cell \/ X.env.kindOf x = some .free) -> ∃ c,X.env.cells.lookup x = some c
 cab:∀ x c,X.fn x = true -> X.env.cells.lookup x = some c -> X.s₀.heap.objs.size <= c
 hd:X.calm = true -> X.A.handled = none
 frames:X.A.frames = some X.stack
 stk:X.stack = X.outer \/ (X.stack = X.env :: X.outer /\ X.env.frame = some X.env.locals)
 exf:∀ b ∈ X.ex,b ≠ X.env.locals /\ ∀ x c,X.env.cells.lookup x = some c -> c ≠ b
 bs:∀ b o,X.base.get? b = some o -> X.s₀.heap.get? b = some o /\ X.H₀ b = none
 bsz:X.base.objs.size <= X.s₀.heap.objs.size
 noex:∀ b o,X.base.get? b = some o -> b ∉ X.ex
 exfs:∀ b ∈ X.ex,b ∉ X.fs
 funs:X.s₀.heap.FunFrames X.base X.outer
 frf:∀ b ∈ X.fs,X.H₀ b = none
structure Inv (X:Cx) (pins:List (Addr × Obj)) (σ:List (Option V)) (H:Hp) (s:Shared):Prop where
 ok:X.Ok
 os:s.os = X.s₀.os
 bare:AllBare s.gens
 base:Un X.fs X.ex X.H₀ H X.s₀.heap s.heap
 loc:∃ m,s.heap.Ns X.env.locals m /\ ∀ (i:Nat) (x:Str) (v:V),X.N[i]? = some x -> σ[i]? = some (some v) -> Vis X.env.scope x -> ∃ u,RelV v u /\ Look X.env s.heap m x u
 cell:∀ x c,X.env.cells.lookup x = some c -> ∃ v,s.heap.IsCell c v
 free:H X.env.locals = none
 freeC:∀ x c,X.env.cells.lookup x = some c -> H c = none
 pin:∀ p ∈ X.pn ++ pins,s.heap.get? p.1 = some p.2 /\ H p.1 = none /\ p.1 ≠ X.env.locals /\ p.1 ∉ X.fs /\ ∀ v,p.2.data ≠ .cell v
 hok:HOk X.prog X.w H s.heap
 len:σ.length = X.N.length
section
variable {X:Cx} {pins:List (Addr × Obj)} {σ:List (Option V)} {H H':Hp} {s:Shared} {h':Heap}
theorem Cx.Ok.nofr (ok:X.Ok) {b:Addr} {o:Obj} (e:X.base.get? b = some o):b ∉ X.fs:=fun hb=>by
 have:=(ok.funs.mem hb).1
 rw [e] at this; cases this
theorem Inv.bs (I:Inv X pins σ H s):∀ b o,X.base.get? b = some o -> s.heap.get? b = some o /\ H b = none:=fun b o e=>
 ⟨I.base.keep b o (I.ok.bs b o e).1 (I.ok.bs b o e).2 (I.ok.nofr e) (I.ok.noex b o e),I.base.free b o (I.ok.bs b o e).1 (I.ok.bs b o e).2 (I.ok.noex b o e)⟩
theorem Inv.bk (I:Inv X pins σ H s):∀ b o,X.base.get? b = some o -> s.heap.get? b = some o:=fun b o e=>(I.bs b o e).1
theorem Inv.mod (I:Inv X pins σ H s):Mod X.K X.mg X.base:=I.ok.mod
theorem Inv.kIn (I:Inv X pins σ H s):X.K.In s.heap:=I.ok.mod.kin.keeps I.bk
theorem Inv.lt (I:Inv X pins σ H s):X.env.locals < s.heap.objs.size:=let ⟨_,hn,_⟩:=I.loc; hn.lt
theorem Inv.sz (I:Inv X pins σ H s):X.s₀.heap.objs.size <= s.heap.objs.size:=Nat.le_trans I.ok.above (Nat.le_of_lt I.lt)
theorem Inv.nofs (I:Inv X pins σ H s) {a:Addr} (h:s.heap.objs.size <= a):a ∉ X.fs:=fun hb=>by
 obtain ⟨_,o,ho,_⟩:=I.ok.funs.mem hb
 exact absurd (Nat.lt_of_lt_of_le (Heap.lt_size ho) (Nat.le_trans I.sz h)) (Nat.lt_irrefl _)
theorem Inv.cne (I:Inv X pins σ H s):∀ x c,X.env.cells.lookup x = some c -> c ≠ X.env.locals:=fun x c e z=>by
 obtain ⟨v,o,ho,hd⟩:=I.cell x c e
 obtain ⟨m,⟨o',es,ep,ho',hd',_⟩,_⟩:=I.loc
 rw [z,ho'] at ho; cases ho; rw [hd'] at hd; cases hd
theorem Inv.funs (I:Inv X pins σ H s):s.heap.FunFrames X.base X.outer:=by
 have all:∀ (l:List Env),(∀ b ∈ frs l,b ∈ X.fs) -> X.s₀.heap.FunFrames X.base l -> s.heap.FunFrames X.base l:=by
  intro l
  induction l with
  | nil=>intro _ _; trivial
  | cons env r ih=>
   intro hs hl
   obtain ⟨hk,⟨L,o,hf,hn,ho,hd⟩,hr⟩:=hl
   have hL:L ∈ X.fs:=hs L (by unfold frs; rw [List.filterMap_cons,hf]; exact List.mem_cons_self)
   obtain ⟨sl,e⟩:=I.base.slot L o ho (I.ok.frf L hL) hL fun z=>I.ok.exfs L z hL
   exact ⟨hk,⟨L,_,hf,hn,e,hd⟩,ih (fun b hb=>hs b (by unfold frs; rw [List.filterMap_cons,hf]; exact List.mem_cons_of_mem _ hb)) hr⟩
 exact all X.outer (fun _ hb=>hb) I.ok.funs
theorem Inv.stack (I:Inv X pins σ H s):s.heap.FunFrames X.base X.stack:=by
 rcases I.ok.stk with e | ⟨e,hf⟩
 ·rw [e]; exact I.funs
 ·rw [e]
  obtain ⟨m,hn,_⟩:=I.loc
  refine .cons (by rw [I.ok.kind]; decide) hf hn ?_ I.funs
  exact Heap.get?_none_of_le (Nat.le_trans I.ok.bsz I.ok.above)
theorem Inv.stkSub (I:Inv X pins σ H s):∀ b ∈ frs X.stack,b ∈ X.env.locals :: X.fs:=fun b hb=>by
 rcases I.ok.stk with e | ⟨e,hf⟩
 ·rw [e] at hb; exact List.mem_cons_of_mem _ hb
 ·rw [e] at hb
  unfold frs at hb
  rw [List.filterMap_cons,hf] at hb
  exact hb
theorem Inv.stkFree (I:Inv X pins σ H s):∀ b ∈ frs X.stack,H b = none:=fun b hb=>by
 rcases List.mem_cons.mp (I.stkSub b hb) with e | hb
 ·rw [e]; exact I.free
 ·obtain ⟨_,o,ho,_⟩:=I.ok.funs.mem hb
  exact I.base.free b o ho (I.ok.frf b hb) fun z=>I.ok.exfs b z hb
theorem Inv.step {g':Array GenState} {t':Nat} {d':Drawn} {ch:List Addr} (I:Inv X pins σ H s)
  (hch:∀ b ∈ ch,(b ∈ X.ex \/ X.s₀.heap.objs.size <= b) /\ b ≠ X.env.locals /\ (∀ x c,X.env.cells.lookup x = some c -> c ≠ b) /\ ∀ p ∈ X.pn ++ pins,p.1 ≠ b)
  (keep:∀ b o,b ≠ X.env.locals -> b ∉ X.fs -> b ∉ ch -> s.heap.get? b = some o -> H b = none -> h'.get? b = some o)
  (slot:∀ b o,b ≠ X.env.locals -> b ∈ X.fs -> b ∉ ch -> s.heap.get? b = some o -> H b = none -> ∃ sl,h'.get? b = some { o with slots:=sl }) (free:∀ b o,b ∉ ch -> s.heap.get? b = some o -> H b = none -> H' b = none)
  (there:∀ b o,b ∉ ch -> s.heap.get? b = some o -> ∃ o',h'.get? b = some o')
  (tups:∀ b xs,H b = some (.tup xs) -> H' b = some (.tup xs)) (frzs:∀ b o u,H b = some (.frz o u) -> H' b = some (.frz o u)) (tbls:∀ b ps,H b = some (.tbl ps) -> ∃ more,H' b = some (.tbl (ps ++ more)))
  (ns:∀ m,s.heap.Ns X.env.locals m -> h'.Ns X.env.locals m) (hok:HOk X.prog X.w H' h') (hg:AllBare g') :
  Inv X pins σ H' { s with heap:=h',gens:=g',drawn:=d',toks:=t' }:=by
 have neL:∀ b o,X.s₀.heap.get? b = some o -> b ≠ X.env.locals:=fun b o e=>Nat.ne_of_lt (Nat.lt_of_lt_of_le (Heap.lt_size e) I.ok.above)
 have neC:∀ b o,X.s₀.heap.get? b = some o -> b ∉ X.ex -> b ∉ ch:=fun b o e hx hb=>by
  rcases (hch b hb).1 with z | z
  ·exact hx z
  ·exact absurd (Nat.lt_of_lt_of_le (Heap.lt_size e) z) (Nat.lt_irrefl _)
 have cellK:∀ x c,X.env.cells.lookup x = some c -> ∀ v,s.heap.IsCell c v -> h'.IsCell c v:=fun x c e v ⟨o,ho,hd⟩=>by
  have nch:c ∉ ch:=fun z=>(hch c z).2.2.1 x c e rfl
  by_cases hc:c ∈ X.fs
  ·obtain ⟨sl,q⟩:=slot c o (I.cne x c e) hc nch ho (I.freeC x c e)
   exact ⟨_,q,hd⟩
  ·exact ⟨o,keep c o (I.cne x c e) hc nch ho (I.freeC x c e),hd⟩
 refine ⟨I.ok,I.os,hg,⟨fun b o e n hb hx=>?_,fun b o e n hb hx=>?_,fun b o e n hx=>?_,fun b o e hx=>?_,fun b xs e=>tups b xs (I.base.tups b xs e),fun b o xs e=>frzs b o xs (I.base.frzs b o xs e),fun b ps e=>?_⟩,?_,fun x c e=>?_,?_,fun x c e=>?_,fun p hp=>?_,hok,I.len⟩
 ·exact keep b o (neL b o e) hb (neC b o e hx) (I.base.keep b o e n hb hx) (I.base.free b o e n hx)
 ·obtain ⟨sl,e1⟩:=I.base.slot b o e n hb hx
  obtain ⟨sl',e2⟩:=slot b _ (neL b o e) hb (neC b o e hx) e1 (I.base.free b o e n hx)
  exact ⟨sl',e2⟩
 ·obtain ⟨o',e1⟩:=I.base.there b o e hx
  exact free b o' (neC b o e hx) e1 (I.base.free b o e n hx)
 ·obtain ⟨o',e1⟩:=I.base.there b o e hx
  exact there b o' (neC b o e hx) e1
 ·obtain ⟨m1,e1⟩:=I.base.tbls b ps e
  obtain ⟨m2,e2⟩:=tbls b _ e1
  exact ⟨m1 ++ m2,by rw [e2,Array.append_assoc]⟩
 ·obtain ⟨m,hn,hl⟩:=I.loc
  refine ⟨m,ns m hn,fun i x v e1 e2 e3=>?_⟩
  obtain ⟨u,r,l⟩:=hl i x v e1 e2 e3
  refine ⟨u,r,?_⟩
  rcases l with l | ⟨k,c,e,z⟩
  ·exact .inl l
  ·exact .inr ⟨k,c,e,cellK x c e _ z⟩
 ·obtain ⟨v,z⟩:=I.cell x c e
  exact ⟨v,cellK x c e v z⟩
 ·obtain ⟨m,⟨o,_,_,ho,_⟩,_⟩:=I.loc
  exact free _ o (fun z=>(hch _ z).2.1 rfl) ho I.free
 ·obtain ⟨v,o,ho,hd⟩:=I.cell x c e
  exact free c o (fun z=>(hch c z).2.2.1 x c e rfl) ho (I.freeC x c e)
 ·obtain ⟨e,n,ne,nf,d⟩:=I.pin p hp
  have nch:p.1 ∉ ch:=fun z=>(hch p.1 z).2.2.2 p hp rfl
  exact ⟨keep p.1 p.2 ne nf nch e n,free p.1 p.2 nch e n,ne,nf,d⟩
theorem Inv.un {t':Nat} (I:Inv X pins σ H s) (u:Un X.fs [] H H' s.heap h') (hok:HOk X.prog X.w H' h'):Inv X pins σ H' { s with heap:=h',toks:=t' }:=by
 obtain ⟨m,⟨o,es,ep,ho,r⟩,_⟩:=id I.loc
 obtain ⟨sl,hL⟩:=u.any ho I.free (by simp)
 exact I.step (g':=s.gens) (d':=s.drawn) (ch:=[]) (fun _ z=>nomatch z) (fun b o _ hb _ e n=>u.keep b o e n hb (by simp)) (fun b o _ hb _ e n=>u.slot b o e n hb (by simp)) (fun b o _ e n=>u.free b o e n (by simp)) (fun b o _ e=>u.there b o e (by simp)) u.tups u.frzs u.tbls (fun m' hm=>by
  obtain ⟨o',es',ep',ho',r'⟩:=hm
  rw [ho] at ho'; cases ho'
  exact ⟨_,es',ep',hL,r'⟩) hok I.bare
theorem Inv.call {g':Array GenState} {t':Nat} {d':Drawn} {ch:List Addr} (I:Inv X pins σ H s) (u:Un (frs X.stack) ch H H' s.heap h') (hok:HOk X.prog X.w H' h') (hg:AllBare g')
  (hch:∀ b ∈ ch,(b ∈ X.ex \/ X.s₀.heap.objs.size <= b) /\ b ≠ X.env.locals /\ (∀ x c,X.env.cells.lookup x = some c -> c ≠ b) /\ ∀ p ∈ X.pn ++ pins,p.1 ≠ b) :
  Inv X pins σ H' { s with heap:=h',gens:=g',drawn:=d',toks:=t' }:=by
 obtain ⟨m,⟨o,es,ep,ho,r⟩,_⟩:=id I.loc
 obtain ⟨sl,hL⟩:=u.any ho I.free fun z=>(hch _ z).2.1 rfl
 exact I.step (ch:=ch) hch (fun b o hL hb hc e n=>u.keep b o e n (fun z=>(List.mem_cons.mp (I.stkSub b z)).elim hL hb) hc) (fun b o _ _ hc e n=>u.any e n hc) (fun b o hc e n=>u.free b o e n hc) (fun b o hc e=>u.there b o e hc) u.tups u.frzs u.tbls (fun m' hm=>by
  obtain ⟨o',es',ep',ho',r'⟩:=hm
  rw [ho] at ho'; cases ho'
  exact ⟨_,es',ep',hL,r'⟩) hok hg
theorem Inv.turned {t':Nat} {it:Addr} (I:Inv X pins σ H s) (k:∀ b o,b ≠ it -> s.heap.get? b = some o -> h'.get? b = some o) (hn:H it = none) (hL:it ≠ X.env.locals)
  (h1:it ∈ X.ex \/ X.s₀.heap.objs.size <= it) (h2:∀ x c,X.env.cells.lookup x = some c -> c ≠ it) (h3:∀ p ∈ X.pn ++ pins,p.1 ≠ it):Inv X pins σ H { s with heap:=h',toks:=t' }:=by
 have nit:∀ b u,H b = some u -> b ≠ it:=fun b u e z=>by rw [z,hn] at e; cases e
 refine I.step (g':=s.gens) (d':=s.drawn) (ch:=[it]) (fun b hb=>?_) (fun b o _ _ hc e _=>k b o (fun z=>hc (by simp [z])) e) (fun b o _ _ hc e _=>⟨o.slots,k b o (fun z=>hc (by simp [z])) e⟩) (fun _ _ _ _ n=>n)
  (fun b o hc e=>⟨o,k b o (fun z=>hc (by simp [z])) e⟩) (fun _ _ e=>e) (fun _ _ _ e=>e) (fun b ps e=>⟨#[],by rw [e]; simp⟩) (fun m hm=>?_) (fun b u e=>?_) I.bare
 ·have e:b = it:=by simpa using hb
  subst e
  exact ⟨h1,hL,h2,h3⟩
 ·obtain ⟨o,es,ep,ho,r⟩:=hm
  exact ⟨o,es,ep,k _ o (Ne.symm hL) ho,r⟩
 ·refine (I.hok b u e).stay (fun c v hc q=>k c v ?_ q) (fun _ q=>q) fun _ _ q=>q
  rcases hc with z | z
  ·rw [z]; exact nit b u e
  ·exact nit c _ z
theorem Inv.tok (I:Inv X pins σ H s) (t:Nat):Inv X pins σ H { s with toks:=t }:=I.un (h':=s.heap) (t':=t) Un.refl I.hok
theorem Inv.kept {t':Nat} (I:Inv X pins σ H s) (k:∀ b u,s.heap.get? b = some u -> h'.get? b = some u):Inv X pins σ H { s with heap:=h',toks:=t' }:=I.un (Un.kept k) (I.hok.kept k)
theorem Inv.laid {a:Addr} {o:HO} {t':Nat} (I:Inv X pins σ H s) (k:∀ b u,s.heap.get? b = some u -> h'.get? b = some u) (hp:s.heap.objs.size <= a) (new:ObjOk X.prog X.w (upd H a o) h' a o) :
  Inv X pins σ (upd H a o) { s with heap:=h',toks:=t' }:=I.un (Un.laid k hp (I.hok.fresh hp)) (I.hok.laid k hp new)
theorem Inv.write {x e:Addr} {o:HO} {t':Nat} (I:Inv X pins σ H s) (mu:Mut (H x)) (he:e = x \/ H e = some (.own x)) (k:∀ b u,b ≠ e -> s.heap.get? b = some u -> h'.get? b = some u) (heo:∃ u,h'.get? e = some u)
  (new:ObjOk X.prog X.w (upd H x o) h' x o):Inv X pins σ (upd H x o) { s with heap:=h',toks:=t' }:=I.un (Un.write mu he k heo) (I.hok.write mu he k heo new)
theorem Inv.pins_of {pins':List (Addr × Obj)} (I:Inv X pins σ H s) (h:∀ p ∈ pins',s.heap.get? p.1 = some p.2 /\ H p.1 = none /\ p.1 ≠ X.env.locals /\ p.1 ∉ X.fs /\ ∀ v,p.2.data ≠ .cell v):Inv X pins' σ H s:=
 ⟨I.ok,I.os,I.bare,I.base,I.loc,I.cell,I.free,I.freeC,fun p hp=>(List.mem_append.mp hp).elim (fun z=>I.pin p (List.mem_append_left _ z)) (h p),I.hok,I.len⟩
theorem Jeh {N:List Str} (hN:N.Nodup) {i j:Nat} {x:Str} (a:N[i]? = some x) (b:N[j]? = some x):i = j:=by
 obtain ⟨h1,e1⟩:=List.getElem?_eq_some_iff.mp a
 obtain ⟨h2,e2⟩:=List.getElem?_eq_some_iff.mp b
 exact (List.getElem_inj hN).mp (e1.trans e2.symm)
theorem JcK {M:Model} {A:Around} {E:Value -> Shared -> Prop} {i:Nat} {x:Str} {v:V} {u:Value} {Q:Unit -> Shared -> Prop} (I:Inv X pins σ H s) (hN:X.N.Nodup) (hi:X.N[i]? = some x) (hx:Loc X.env.scope x) (r:RelV v u)
  (h:∀ s',Inv X pins (σ.set i (some v)) H s' -> (∃ a,Heap.SameBut a s.heap s'.heap /\ (a = X.env.locals \/ X.env.cells.lookup x = some a)) -> Q () s') (hf:X.fn x = true \/ X.env.scope.names.lookup x = some .local:=by first | exact .inl rfl | exact .inr rfl | assumption):wpAny M A (storeName X.env x u) Q E s:=by
 obtain ⟨m,hn,hl⟩:=id I.loc
 have hcls:(X.env.scope.kind == .class || (X.env.scope.kind == .module && X.env.locals != X.env.globals)) = false:=by rw [I.ok.kind]; rfl
 have hiσ:i < σ.length:=by rw [I.len]; exact (List.getElem?_eq_some_iff.mp hi).1
 have cne:=I.cne
 have tracked:∀ {a:Addr} {h':Heap},(∃ o,s.heap.get? a = some o /\ H a = none) -> Heap.SameBut a s.heap h' -> HOk X.prog X.w H h':=fun {a h'} ha hs b ob e=>by
  obtain ⟨_,_,hfree⟩:=ha
  refine (I.hok b ob e).stay (fun c w' hc q=>(hs.2 c ?_).trans q) (fun _ q=>q) fun _ _ q=>q
  rintro rfl
  rcases hc with rfl | hc
  ·rw [hfree] at e; cases e
  ·rw [hfree] at hc; cases hc
 rcases hx with hk | hk
 ·refine wpAny_storeName_local hk hn (fun h' hn' hs=>?_) hcls
  obtain ⟨oL,_,_,hoL,_⟩:=id hn
  refine h _ ⟨I.ok,I.os,I.bare,⟨fun b o e n hb hx=>?_,fun b o e n hb hx=>?_,I.base.free,fun b o e hx=>?_,I.base.tups,I.base.frzs,I.base.tbls⟩,⟨_,hn',fun j y v' e1 e2 e3=>?_⟩,fun y c e=>?_,I.free,I.freeC,fun p hp=>?_,tracked ⟨oL,hoL,I.free⟩ hs,by simpa using I.len⟩ ⟨_,hs,.inl rfl⟩
  ·exact (hs.2 b (Nat.ne_of_lt (Nat.lt_of_lt_of_le (Heap.lt_size e) I.ok.above))).trans (I.base.keep b o e n hb hx)
  ·obtain ⟨sl,e1⟩:=I.base.slot b o e n hb hx
   exact ⟨sl,(hs.2 b (Nat.ne_of_lt (Nat.lt_of_lt_of_le (Heap.lt_size e) I.ok.above))).trans e1⟩
  ·obtain ⟨o',e1⟩:=I.base.there b o e hx
   exact ⟨o',(hs.2 b (Nat.ne_of_lt (Nat.lt_of_lt_of_le (Heap.lt_size e) I.ok.above))).trans e1⟩
  ·by_cases hj:j = i
   ·subst hj
    rw [hi] at e1; cases e1
    rw [List.getElem?_set_self hiσ] at e2
    cases e2
    exact ⟨u,r,.inl ⟨hk,by simp⟩⟩
   ·rw [List.getElem?_set_ne (Ne.symm hj)] at e2
    obtain ⟨u',r',q⟩:=hl j y v' e1 e2 e3
    refine ⟨u',r',?_⟩
    rcases q with ⟨k,e⟩ | ⟨k,c,e,z⟩
    ·refine .inl ⟨k,?_⟩
     have:y ≠ x:=fun e=>hj (Jeh hN e1 (e ▸ hi))
     simp [this,e]
    ·exact .inr ⟨k,c,e,z.sameBut hs (cne y c e)⟩
  ·obtain ⟨w',z⟩:=I.cell y c e
   exact ⟨w',z.sameBut hs (cne y c e)⟩
  ·obtain ⟨e,n,ne,nf,d⟩:=I.pin p hp
   exact ⟨(hs.2 p.1 ne).trans e,n,ne,nf,d⟩
 ·have hfn:X.fn x = true:=by
   rcases hf with z | z
   ·exact z
   ·rw [z] at hk; cases hk
  obtain ⟨c,hc⟩:=I.ok.has x (.inl hk)
  obtain ⟨w',z⟩:=I.cell x c hc
  refine wpAny_storeName_cell I.ok.kind hk hc z (fun h' hc' hs=>?_)
  obtain ⟨oc,hoc,hocd⟩:=id z
  refine h { s with heap:=h' } ⟨I.ok,I.os,I.bare,⟨fun b o e n hb hx=>?_,fun b o e n hb hx=>?_,I.base.free,fun b o e hx=>?_,I.base.tups,I.base.frzs,I.base.tbls⟩,⟨m,hn.sameBut hs (Ne.symm (cne x c hc)),fun j y v' e1 e2 e3=>?_⟩,fun y c' e=>?_,I.free,I.freeC,fun p hp=>?_,tracked ⟨oc,hoc,I.freeC x c hc⟩ hs,by simpa using I.len⟩ ⟨c,hs,.inr hc⟩
  ·exact (hs.2 b (Nat.ne_of_lt (Nat.lt_of_lt_of_le (Heap.lt_size e) (I.ok.cab x c hfn hc)))).trans (I.base.keep b o e n hb hx)
  ·obtain ⟨sl,e1⟩:=I.base.slot b o e n hb hx
   exact ⟨sl,(hs.2 b (Nat.ne_of_lt (Nat.lt_of_lt_of_le (Heap.lt_size e) (I.ok.cab x c hfn hc)))).trans e1⟩
  ·obtain ⟨o',e1⟩:=I.base.there b o e hx
   exact ⟨o',(hs.2 b (Nat.ne_of_lt (Nat.lt_of_lt_of_le (Heap.lt_size e) (I.ok.cab x c hfn hc)))).trans e1⟩
  ·by_cases hj:j = i
   ·subst hj
    rw [hi] at e1; cases e1
    rw [List.getElem?_set_self hiσ] at e2
    cases e2
    exact ⟨u,r,.inr ⟨.inl hk,c,hc,hc'⟩⟩
   ·rw [List.getElem?_set_ne (Ne.symm hj)] at e2
    obtain ⟨u',r',q⟩:=hl j y v' e1 e2 e3
    refine ⟨u',r',?_⟩
    rcases q with q | ⟨k,c',e,z'⟩
    ·exact .inl q
    ·refine .inr ⟨k,c',e,z'.sameBut hs ?_⟩
     rintro rfl
     exact hj (Jeh hN e1 (I.ok.inj _ _ _ e hc ▸ hi))
  ·by_cases hcc:c' = c
   ·subst hcc; exact ⟨_,hc'⟩
   ·obtain ⟨w2,z2⟩:=I.cell y c' e
    exact ⟨w2,z2.sameBut hs hcc⟩
  ·obtain ⟨e,n,ne,nf,d⟩:=I.pin p hp
   refine ⟨(hs.2 p.1 ?_).trans e,n,ne,nf,d⟩
   intro q
   rw [q,hoc] at e
   have q':oc = p.2:=Option.some.inj e
   exact d w' (by rw [<- q']; exact hocd)
theorem JdP {M:Model} {A:Around} {E:Value -> Shared -> Prop} {i:Nat} {x:Str} {v:V} {u:Value} {Q:Unit -> Shared -> Prop} (I:Inv X pins σ H s) (hN:X.N.Nodup) (hi:X.N[i]? = some x) (hx:Loc X.env.scope x) (r:RelV v u)
  (h:∀ s',Inv X pins (σ.set i (some v)) H s' -> Q () s') (hf:X.fn x = true \/ X.env.scope.names.lookup x = some .local:=by first | exact .inl rfl | exact .inr rfl | assumption):wpAny M A (storeName X.env x u) Q E s:=
 JcK I hN hi hx r (fun s' I' _=>h s' I') hf
theorem Inv.call' {s':Shared} {ch:List Addr} (I:Inv X pins σ H s) (ho:s'.os = s.os) (u:Un (frs X.stack) ch H H' s.heap s'.heap) (hok:HOk X.prog X.w H' s'.heap) (hg:AllBare s'.gens)
  (hch:∀ b ∈ ch,(b ∈ X.ex \/ X.s₀.heap.objs.size <= b) /\ b ≠ X.env.locals /\ (∀ x c,X.env.cells.lookup x = some c -> c ≠ b) /\ ∀ p ∈ X.pn ++ pins,p.1 ≠ b):Inv X pins σ H' s':=by
 obtain ⟨h',g',d',t',o'⟩:=s'
 have e:o' = s.os:=ho
 subst e
 exact I.call (g':=g') (t':=t') (d':=d') u hok hg hch
end
abbrev XK:=Value -> Option Addr -> Hp -> Prop
abbrev St:=List (Option V)
abbrev VK:=V -> Hp -> Prop
abbrev TE:=St -> Hp -> VK -> Prop
abbrev TT:=St -> Hp -> (Bool -> Hp -> Prop) -> Prop
abbrev TA:=St -> Hp -> (List V -> Hp -> Prop) -> Prop
structure Ends where
 nx:St -> Hp -> Prop
 rt:VK
 bk:St -> Hp -> Prop:=fun _ _=>False
 ct:St -> Hp -> Prop:=fun _ _=>False
abbrev TS:=Ends -> St -> Hp -> Prop
def EP (X:Cx) (pins:List (Addr × Obj)) (σ:St) (Q:VK) (u:Value) (s':Shared):Prop:=∃ v H',Inv X pins σ H' s' /\ RelV v u /\ Q v H'
def TP (X:Cx) (pins:List (Addr × Obj)) (σ:St) (Q:Bool -> Hp -> Prop) (b:Bool) (s':Shared):Prop:=∃ H',Inv X pins σ H' s' /\ Q b H'
def AP (X:Cx) (pins:List (Addr × Obj)) (σ:St) (Q:List V -> Hp -> Prop) (us:List Value) (s':Shared):Prop:=∃ vs H',Inv X pins σ H' s' /\ Vals vs us /\ Q vs H'
def SP (X:Cx) (pins:List (Addr × Obj)) (D:Ends) (f:Flow) (s':Shared):Prop:=
 match f with
 | .next=>∃ σ' H',Inv X pins σ' H' s' /\ D.nx σ' H'
 | .brk=>∃ σ' H',Inv X pins σ' H' s' /\ D.bk σ' H'
 | .cont=>∃ σ' H',Inv X pins σ' H' s' /\ D.ct σ' H'
 | .ret u=>∃ v σ' H',Inv X pins σ' H' s' /\ RelV v u /\ D.rt v H'
def PE (X:Cx) (e:Expr) (t:TE):Prop:=
 ∀ (pins:List (Addr × Obj)) (s:Shared) (σ:St) (H:Hp) (Q:VK),Inv X pins σ H s -> t σ H Q -> wpAny (model X.prog X.w) X.A (eval e X.env) (EP X pins σ Q) X.xe s
def PT (X:Cx) (e:Expr) (t:TT):Prop:=
 ∀ (pins:List (Addr × Obj)) (s:Shared) (σ:St) (H:Hp) (Q:Bool -> Hp -> Prop),Inv X pins σ H s -> t σ H Q -> wpAny (model X.prog X.w) X.A (isTrue e X.env (eval e X.env)) (TP X pins σ Q) X.xe s
def PW (X:Cx) (e:Expr) (t:TT):Prop:=
 ∀ (whole:Sem Value) (pins:List (Addr × Obj)) (s:Shared) (σ:St) (H:Hp) (Q:Bool -> Hp -> Prop),Inv X pins σ H s -> t σ H Q -> wpAny (model X.prog X.w) X.A (isTrue e X.env whole) (TP X pins σ Q) X.xe s
theorem PW.pt {X:Cx} {e:Expr} {t:TT} (h:PW X e t):PT X e t:=h _
def PA (X:Cx) (es:List Expr) (t:TA):Prop:=
 ∀ (pos:Pos) (pins:List (Addr × Obj)) (s:Shared) (σ:St) (H:Hp) (Q:List V -> Hp -> Prop),Inv X pins σ H s -> t σ H Q -> wpAny (model X.prog X.w) X.A (spliced (backTo pos (starEach es X.env))) (AP X pins σ Q) X.xe s
def PS (X:Cx) (st:Stmt) (t:TS):Prop:=
 ∀ (pins:List (Addr × Obj)) (s:Shared) (σ:St) (H:Hp) (D:Ends),Inv X pins σ H s -> t D σ H -> wpAny (model X.prog X.w) X.A (exec st X.env) (SP X pins D) X.xe s
def PSs (X:Cx) (st:List Stmt) (t:TS):Prop:=
 ∀ (pins:List (Addr × Obj)) (s:Shared) (σ:St) (H:Hp) (D:Ends),Inv X pins σ H s -> t D σ H -> wpAny (model X.prog X.w) X.A (execs st X.env) (SP X pins D) X.xe s
theorem thn {α:Type} {t:Sem α} {Q Q':α -> Shared -> Prop} {M:Model} {A:Around} {E:Value -> Shared -> Prop} {s:Shared} (h:wpAny M A t Q E s) (hQ:∀ a s,Q a s -> Q' a s):wpAny M A t Q' E s:=wpAny_mono h hQ fun _ _ x=>x
end L2
namespace L2
open PySem PySem.Spec PyProof.Rows
section
variable {X:Cx}
theorem bin {a b:Expr} {ta tb:TE} (ha:PE X a ta) (hb:PE X b tb) {pins:List (Addr × Obj)} {s:Shared} {σ:St} {H:Hp} {R:V -> V -> Hp -> Prop} (I:Inv X pins σ H s) (h:ta σ H fun x H1=>tb σ H1 fun y H2=>R x y H2)
  {α:Type} {Q:α -> Shared -> Prop} {f:Value -> Value -> Sem α}
  (hf:∀ v u s2 x y H2,Inv X pins σ H2 s2 -> RelV x v -> RelV y u -> R x y H2 -> wpAny (model X.prog X.w) X.A (f v u) Q X.xe s2) :
  wpAny (model X.prog X.w) X.A (eval a X.env) (fun v s₁=>wpAny (model X.prog X.w) X.A (eval b X.env) (fun u s₂=>wpAny (model X.prog X.w) X.A (f v u) Q X.xe s₂) X.xe s₁) X.xe s:=by
 refine thn (ha pins s σ H _ I h) fun v s1 ⟨x,H1,I1,r1,q1⟩=>?_
 refine thn (hb pins s1 σ H1 _ I1 q1) fun u s2 ⟨y,H2,I2,r2,q2⟩=>?_
 exact hf v u s2 x y H2 I2 r1 r2 q2
def tVar (i:Nat):TE:=fun σ H Q=>∃ v,σ[i]? = some (some v) /\ Q v H
def tC (v:V):TE:=fun _ H Q=>Q v H
theorem JdG {i:Nat} {x:Str} {pos:Pos} (hN:X.N[i]? = some x) (hv:Vis X.env.scope x) (hd:(x == ("__debug__" : Str)) = false:=by decide) (hcd:(x == ("__classdict__" : Str)) = false:=by decide):PE X (.Name x pos) (tVar i):=by
 intro pins s σ H Q I h
 obtain ⟨v,e,h⟩:=h
 obtain ⟨m,hn,hl⟩:=I.loc
 obtain ⟨u,r,l⟩:=hl i x v hN e hv
 have fin:EP X pins σ Q u s:=⟨v,H,I,r,h⟩
 rcases l with ⟨hk,hm⟩ | ⟨hk,c,hc,hcell⟩
 ·exact wpAny_Name (wpAny_loadName_local I.ok.kind hk hn hm fin) hd
 ·rcases hk with hk | hk
  ·exact wpAny_Name (wpAny_loadName_cell I.ok.kind hk hc hcell fin) hd
  ·exact wpAny_Name (wpAny_loadName_free I.ok.kind hk hc hcell fin hcd) hd
theorem JkP {i j pos}:PE X (.Constant (.int i) j pos) (tC (.int i)):=fun _ _ _ H _ I h=>wpAny_Constant_int ⟨.int i,H,I.tok _,⟨_,rfl⟩,h⟩
theorem pe_bl {b j pos}:PE X (.Constant (.bool b) j pos) (tC (.bl b)):=fun _ _ _ H _ I h=>Constant_bool ⟨.bl b,H,I,rfl,h⟩
theorem JkX {j pos}:PE X (.Constant .none j pos) (tC .non):=fun _ _ _ H _ I h=>Constant_none ⟨.non,H,I,rfl,h⟩
theorem Jmw {x j pos}:PE X (.Constant (.str x) j pos) (tC (.str x)):=fun _ _ _ H _ I h=>Calls.Constant_str ⟨.str x,H,I.tok _,⟨_,rfl⟩,h⟩
def Gl (X:Cx) (x:Str):Prop:=X.env.kindOf x = some .globalImplicit
theorem JcV {E:Value -> Shared -> Prop} {pins:List (Addr × Obj)} {s:Shared} {σ:St} {H:Hp} {x:Str} {u:Value} {pos:Pos} {Q:Value -> Shared -> Prop} (I:Inv X pins σ H s) (hg:Gl X x) (hm:X.mg x = some u) (h:Q u s)
  (hd:(x == ("__debug__" : Str)) = false:=by decide):wpAny (model X.prog X.w) X.A (eval (.Name x pos) X.env) Q E s:=
 Calls.Name_function_global I.ok.kind hg (Calls.loadGlobal_global (by rw [I.ok.glob]; exact I.mod.glob.keeps I.bk) hm h) hd
theorem Jbx {E:Value -> Shared -> Prop} {pins:List (Addr × Obj)} {s:Shared} {σ:St} {H:Hp} {x:Str} {u:Value} {pos:Pos} {Q:Value -> Shared -> Prop} (I:Inv X pins σ H s) (hg:Gl X x) (hm:X.mg x = none) (hv:bootBuiltins x = some u) (h:Q u s)
  (hn:x ≠ "__name__":=by decide) (hd:(x == ("__debug__" : Str)) = false:=by decide):wpAny (model X.prog X.w) X.A (eval (.Name x pos) X.env) Q E s:=by
 obtain ⟨mb,h1,h2⟩:=I.mod.blt
 exact Calls.Name_function_global I.ok.kind hg (Calls.loadGlobal_builtin (by rw [I.ok.glob]; exact I.mod.glob.keeps I.bk) hm (by rw [I.ok.blt]; exact h1.keeps I.bk) ((h2 x hn).trans hv) h) hd
theorem Jkk {x:Str} {v:V} {u:Value} {pos:Pos} (hg:Gl X x) (hm:X.mg x = some u) (r:RelV v u) (hd:(x == ("__debug__" : Str)) = false:=by decide):PE X (.Name x pos) (tC v):=
 fun _ _ _ H _ I h=>JcV I hg hm ⟨v,H,I,r,h⟩ hd
def t2I (ta tb:TE) (k:Int -> Int -> Hp -> Prop):St -> Hp -> Prop:=fun σ H=>ta σ H fun x H1=>tb σ H1 fun y H2=>∃ i j,x = .int i /\ y = .int j /\ k i j H2
variable {a b:Expr} {ta tb:TE} {pos:Pos}
def PC (X:Cx) (op:CmpOp) (a b:Expr) (t:TE):Prop:=
 ∀ (pins:List (Addr × Obj)) (s:Shared) (σ:St) (H:Hp) (Q:VK),Inv X pins σ H s -> t σ H Q ->
  wpAny (model X.prog X.w) X.A (eval a X.env) (fun v s₁=>wpAny (model X.prog X.w) X.A (eval b X.env) (fun u s₂=>wpAny (model X.prog X.w) X.A (compareOp op v u) (EP X pins σ Q) X.xe s₂) X.xe s₁) X.xe s
theorem Jio (b:Expr) {op:CmpOp} (h:op ≠ .In) (h2:op ≠ .NotIn):behindInMarks op b = false:=by
 have e1:(op == CmpOp.In) = false:=by cases op <;> first | rfl | exact absurd rfl h
 have e2:(op == CmpOp.NotIn) = false:=by cases op <;> first | rfl | exact absurd rfl h2
 cases b <;> simp [behindInMarks,e1,e2]
def tCmp (p:Int -> Int -> Bool) (ta tb:TE):TE:=fun σ H Q=>t2I ta tb (fun i j H2=>Q (.bl (p i j)) H2) σ H
abbrev tLt:TE -> TE -> TE:=tCmp fun i j=>decide (i < j)
abbrev tGt:TE -> TE -> TE:=tCmp fun i j=>decide (j < i)
def tIsN (ta:TE):TE:=fun σ H Q=>ta σ H fun x H1=>Q (.bl (decide (x = .non))) H1
def tNotN (ta:TE):TE:=fun σ H Q=>ta σ H fun x H1=>Q (.bl (!decide (x = .non))) H1
theorem RelV.none_iff {x:V} {v:Value} (r:RelV x v):(v == Value.none) = decide (x = .non):=by
 cases x with
 | non=>cases r; rfl
 | bl _=>cases r; rfl
 | int _=>obtain ⟨t,rfl⟩:=r; rfl
 | str _=>obtain ⟨t,rfl⟩:=r; rfl
 | byt _=>obtain ⟨t,rfl⟩:=r; rfl
 | flt _=>obtain ⟨t,rfl⟩:=r; rfl
 | ref _=>cases r; rfl
 | ty _=>cases r; rfl
theorem Jmm {j pos'} (ha:PE X a ta):PC X .Is a (.Constant .none j pos') (tIsN ta):=by
 intro pins s σ H Q I h
 refine thn (ha pins s σ H _ I h) fun v s1 ⟨x,H1,I1,r1,q1⟩=>?_
 exact Constant_none (is_none_gen ⟨.bl _,H1,I1,by rw [r1.none_iff]; rfl,q1⟩)
theorem Jkq {j pos'} (ha:PE X a ta):PC X .IsNot a (.Constant .none j pos') (tNotN ta):=by
 intro pins s σ H Q I h
 refine thn (ha pins s σ H _ I h) fun v s1 ⟨x,H1,I1,r1,q1⟩=>?_
 exact Constant_none (isnot_none_gen ⟨.bl _,H1,I1,by rw [r1.none_iff]; rfl,q1⟩)
def tB (t:TE):TT:=fun σ H Q=>t σ H fun x H1=>∃ c,x = .bl c /\ Q c H1
theorem Jjj {op:CmpOp} {t:TE} (h:PC X op a b t) (h1:behindInMarks op b = false:=by first | exact Jio _ (by decide) (by decide) | rfl):PT X (.Compare a [op] [b] pos) (tB t):=by
 intro pins s σ H Q I hw
 refine wpAny_isTrue_Compare1 (thn (h pins s σ H _ I hw) fun v s1 h1=>thn h1 fun u s2 h2=>thn h2 fun c s3 ⟨x,H1,I1,r1,q1⟩=>?_) h1
 obtain ⟨d,rfl,q⟩:=q1
 cases r1
 exact wpAny_truthy_bool ⟨H1,I1,q⟩
variable {tA tB':TT} {rest:List Expr}
def tAnd (t u:TT):TT:=fun σ H Q=>t σ H fun c H1=>if c = true then u σ H1 Q else Q false H1
def tOr (t u:TT):TT:=fun σ H Q=>t σ H fun c H1=>if c = true then Q true H1 else u σ H1 Q
def tNot (t:TT):TT:=fun σ H Q=>t σ H fun c H1=>Q (!c) H1
theorem Jkt (ha:PT X a tA):PW X (.BoolOp .And [a] pos) tA:=by
 intro wh pins s σ H Q I h
 refine isTrue_and (thn (ha pins s σ H Q I h) fun c s1 e=>?_)
 cases c with
 | true=>exact isTrue_and_nil e
 | false=>exact e
theorem Jls (ha:PT X a tA):PW X (.BoolOp .Or [a] pos) tA:=by
 intro wh pins s σ H Q I h
 refine isTrue_or (thn (ha pins s σ H Q I h) fun c s1 e=>?_)
 cases c with
 | false=>exact isTrue_or_nil e
 | true=>exact e
theorem JlP (ha:PT X a tA) (hb:PW X (.BoolOp .And (b :: rest) pos) tB'):PW X (.BoolOp .And (a :: b :: rest) pos) (tAnd tA tB'):=by
 intro wh pins s σ H Q I h
 refine isTrue_and (thn (ha pins s σ H _ I h) fun c s1 ⟨H1,I1,q1⟩=>?_)
 cases c with
 | true=>exact hb wh pins s1 σ H1 Q I1 q1
 | false=>exact ⟨H1,I1,q1⟩
theorem pw_or (ha:PT X a tA) (hb:PW X (.BoolOp .Or (b :: rest) pos) tB'):PW X (.BoolOp .Or (a :: b :: rest) pos) (tOr tA tB'):=by
 intro wh pins s σ H Q I h
 refine isTrue_or (thn (ha pins s σ H _ I h) fun c s1 ⟨H1,I1,q1⟩=>?_)
 cases c with
 | true=>exact ⟨H1,I1,q1⟩
 | false=>exact hb wh pins s1 σ H1 Q I1 q1
theorem Jlg (ha:PT X a tA):PT X (.UnaryOp .Not a pos) (tNot tA):=by
 intro pins s σ H Q I h
 exact isTrue_not (ha pins s σ H (fun c H1=>Q (!c) H1) I h)
def tAndV (ta tb:TE):TE:=fun σ H Q=>ta σ H fun x H1=>∃ c,x = .bl c /\ if c = true then tb σ H1 Q else Q (.bl false) H1
def tOrV (ta tb:TE):TE:=fun σ H Q=>ta σ H fun x H1=>∃ c,x = .bl c /\ if c = true then Q (.bl true) H1 else tb σ H1 Q
def tNotV (ta:TE):TE:=fun σ H Q=>ta σ H fun x H1=>∃ c,x = .bl c /\ Q (.bl (!c)) H1
theorem JkG {op} {t:TE} (h:PE X a t):PE X (.BoolOp op [a] pos) t:=fun pins s σ H Q I hw=>BoolOp_one (h pins s σ H Q I hw)
theorem JkV (ha:PE X a ta) (hb:PE X (.BoolOp .And (b :: rest) pos) tb):PE X (.BoolOp .And (a :: b :: rest) pos) (tAndV ta tb):=by
 intro pins s σ H Q I h
 refine BoolOp_and (thn (ha pins s σ H _ I h) fun v s1 ⟨x,H1,I1,r1,q1⟩=>?_)
 obtain ⟨c,rfl,q1⟩:=q1
 cases r1
 refine wpAny_truthy_bool ?_
 cases c with
 | true=>exact hb pins s1 σ H1 Q I1 q1
 | false=>exact ⟨.bl false,H1,I1,rfl,q1⟩
theorem pe_or (ha:PE X a ta) (hb:PE X (.BoolOp .Or (b :: rest) pos) tb):PE X (.BoolOp .Or (a :: b :: rest) pos) (tOrV ta tb):=by
 intro pins s σ H Q I h
 refine BoolOp_or (thn (ha pins s σ H _ I h) fun v s1 ⟨x,H1,I1,r1,q1⟩=>?_)
 obtain ⟨c,rfl,q1⟩:=q1
 cases r1
 refine wpAny_truthy_bool ?_
 cases c with
 | false=>exact hb pins s1 σ H1 Q I1 q1
 | true=>exact ⟨.bl true,H1,I1,rfl,q1⟩
theorem JkK (ha:PE X a ta):PE X (.UnaryOp .Not a pos) (tNotV ta):=by
 intro pins s σ H Q I h
 refine UnaryOp_ (thn (ha pins s σ H _ I h) fun v s1 ⟨x,H1,I1,r1,q1⟩=>?_)
 obtain ⟨c,rfl,q1⟩:=q1
 cases r1
 exact not_of (wpAny_truthy_bool ⟨.bl (!c),H1,I1,rfl,q1⟩)
def tIf (t:TT) (ta tb:TE):TE:=fun σ H Q=>t σ H fun c H1=>if c = true then ta σ H1 Q else tb σ H1 Q
theorem Jhw {c:Expr} (hc:PT X c tA) (ha:PE X a ta) (hb:PE X b tb):PE X (.IfExp c a b pos) (tIf tA ta tb):=by
 intro pins s σ H Q I h
 refine wpAny_IfExp (thn (hc pins s σ H _ I h) fun d s1 ⟨H1,I1,q1⟩=>?_)
 cases d with
 | true=>exact ha pins s1 σ H1 Q I1 q1
 | false=>exact hb pins s1 σ H1 Q I1 q1
end
end L2
namespace L2
open PySem PySem.Spec PyProof.Rows
def SqL (K:PySem.W.Frag) (H:Hp) (a:Addr) (xs:List V):Prop:=
 Rd H a (.lst xs) \/
  ∃ (o:Obj) (its:Array Value) (n:Nat),K.lookup a = some o /\ o.cls = .type "list" /\ o.dict = none /\ o.data = .seq its n /\ its.size <= sizeLine /\ Vals xs its.toList
def SqT (K:PySem.W.Frag) (H:Hp) (a:Addr) (xs:List V):Prop:=
 H a = some (.tup xs) \/
  ∃ (y:Str) (o:Obj) (its:Array Value) (n:Nat),PySem.W.nsIn K mainGlobals y = some (some (.ref a)) /\ K.lookup a = some o /\ o.cls = .type "tuple" /\ o.dict = none /\ o.data = .seq its n /\ its.size <= sizeLine /\ Vals xs its.toList
def absV:Value -> Option V
 | .none=>some .non
 | .bool b=>some (.bl b)
 | .int i _=>some (.int i)
 | .str x _=>some (.str x)
 | .bytes b _=>some (.byt b)
 | .float b _=>some (.flt b)
 | .ref a=>some (.ref a)
 | .type n=>some (.ty n)
 | _=>none
theorem RelV.abs {x:V} {u:Value} (r:RelV x u):absV u = some x:=by
 cases x with
 | non=>cases r; rfl
 | bl _=>cases r; rfl
 | int _=>obtain ⟨t,rfl⟩:=r; rfl
 | str _=>obtain ⟨t,rfl⟩:=r; rfl
 | byt _=>obtain ⟨t,rfl⟩:=r; rfl
 | flt _=>obtain ⟨t,rfl⟩:=r; rfl
 | ref _=>cases r; rfl
 | ty _=>cases r; rfl
theorem RelV.inj {x y:V} {u:Value} (r:RelV x u) (q:RelV y u):x = y:=Option.some.inj (r.abs.symm.trans q.abs)
theorem Vals.inj:∀ {xs ys:List V} {us:List Value},Vals xs us -> Vals ys us -> xs = ys
 | _,_,_,.nil,.nil=>rfl
 | _,_,_,.cons r t,.cons r' t'=>by rw [r.inj r',Vals.inj t t']
section
variable {X:Cx} {pins:List (Addr × Obj)} {σ:St} {H:Hp} {s:Shared} {a:Addr} {xs ys:List V}
theorem SqL.of {K:PySem.W.Frag} (h:H a = some (.lst xs)):SqL K H a xs:=.inl (.inl h)
theorem SqT.of {K:PySem.W.Frag} (h:H a = some (.tup xs)):SqT K H a xs:=.inl h
theorem Inv.list (I:Inv X pins σ H s) (h:SqL X.K H a xs):∃ its:List Value,Vals xs its /\ PlainL s.heap a its.toArray /\ xs.length <= sizeLine:=by
 rcases h with h | ⟨o,its,n,hk,hc,hd,hs,hz,r⟩
 ·obtain ⟨z,its,n,r,e⟩:=h.ok I.hok
  exact ⟨its,r,⟨_,n,e,rfl,rfl,rfl⟩,z⟩
 ·refine ⟨its.toList,r,⟨o,n,I.kIn a o hk,hc,hd,by simpa using hs⟩,?_⟩
  have e:=r.length
  simp only [Array.length_toList] at e
  omega
theorem Inv.tuple (I:Inv X pins σ H s) (h:SqT X.K H a xs):∃ its:List Value,Vals xs its /\ IsTup s.heap a its.toArray /\ xs.length <= sizeLine:=by
 rcases h with h | ⟨_,o,its,n,_,hk,hc,_,hs,hz,r⟩
 ·obtain ⟨⟨z,_⟩,its,r,p⟩:=I.hok a _ h
  exact ⟨its,r,p,z⟩
 ·refine ⟨its.toList,r,⟨o,I.kIn a o hk,hc,n,by simpa using hs⟩,?_⟩
  have e:=r.length
  simp only [Array.length_toList] at e
  omega
theorem Inv.tupleD (I:Inv X pins σ H s) (h:SqT X.K H a xs):∃ (its:List Value) (o:Obj) (n:Nat),Vals xs its /\ s.heap.get? a = some o /\ o.cls = .type "tuple" /\ o.dict = none /\ o.data = .seq its.toArray n /\ xs.length <= sizeLine:=by
 rcases h with h | ⟨_,o,its,n,_,hk,hc,hd,hs,hz,r⟩
 ·obtain ⟨⟨z,zd⟩,its,r,o,e,c,n,d⟩:=I.hok a _ h
  exact ⟨its,o,n,r,e,c,zd _ e,d,z⟩
 ·refine ⟨its.toList,o,n,r,I.kIn a o hk,hc,hd,by simpa using hs,?_⟩
  have e:=r.length
  simp only [Array.length_toList] at e
  omega
theorem Inv.list_inj (I:Inv X pins σ H s) (h:SqL X.K H a xs) (h':SqL X.K H a ys):xs = ys:=by
 obtain ⟨its,r,⟨o,n,e,_,_,d⟩,_⟩:=I.list h
 obtain ⟨its',r',⟨o',n',e',_,_,d'⟩,_⟩:=I.list h'
 rw [e] at e'; cases e'
 rw [d] at d'
 injection d' with d1 _
 have:its = its':=by simpa using congrArg Array.toList d1
 subst this
 exact r.inj r'
theorem Inv.tuple_inj (I:Inv X pins σ H s) (h:SqT X.K H a xs) (h':SqT X.K H a ys):xs = ys:=by
 obtain ⟨its,r,⟨o,e,_,n,d⟩,_⟩:=I.tuple h
 obtain ⟨its',r',⟨o',e',_,n',d'⟩,_⟩:=I.tuple h'
 rw [e] at e'; cases e'
 rw [d] at d'
 injection d' with d1 _
 have:its = its':=by simpa using congrArg Array.toList d1
 subst this
 exact r.inj r'
end
section
variable {X:Cx} {pins:List (Addr × Obj)} {σ:St} {H:Hp} {s:Shared} {E:Value -> Shared -> Prop}
end
section
variable {X:Cx} {st:Stmt} {rest:List Stmt} {t u:TS} {e:Expr} {te:TE} {pos:Pos}
def tNext:TS:=fun D σ H=>D.nx σ H
def tSeq (t u:TS):TS:=fun D σ H=>t { D with nx:=u D } σ H
theorem Jjp:PSs X [] tNext:=fun _ _ σ H _ I h=>wpAny_execs_nil ⟨σ,H,I,h⟩
theorem JhE (h1:PS X st t) (h2:PSs X rest u):PSs X (st :: rest) (tSeq t u):=by
 intro pins s σ H D I h
 refine wpAny_execs_cons (thn (h1 pins s σ H { D with nx:=u D } I h) fun f s1 q=>?_)
 cases f with
 | next=>
  obtain ⟨σ',H',I',q⟩:=q
  exact h2 pins s1 σ' H' D I' q
 | ret v=>exact q
 | brk=>exact q
 | cont=>exact q
theorem JjK (h1:PS X st t):PSs X [st] t:=by
 intro pins s σ H D I h
 refine wpAny_execs_cons (thn (h1 pins s σ H D I h) fun f s1 q=>?_)
 cases f with
 | next=>exact wpAny_execs_nil q
 | ret v=>exact q
 | brk=>exact q
 | cont=>exact q
theorem Inv.quiet {pins:List (Addr × Obj)} {σ:St} {H:Hp} {s:Shared} (I:Inv X pins σ H s):interactive X.env = false:=by simp [interactive,I.ok.kind]
def tDrop (te:TE):TS:=fun D σ H=>te σ H fun _ H1=>D.nx σ H1
theorem JfY (he:PE X e te) (hs:swapsWith e none pos.line X.env = pure false:=by rfl):PS X (.Expr e pos) (tDrop te):=by
 intro pins s σ H D I h
 exact wpAny_Expr_any (thn (he pins s σ H _ I h) fun v s1 ⟨x,H1,I1,r1,q1⟩=>⟨σ,H1,I1,q1⟩) I.quiet hs
def tRet (te:TE):TS:=fun D σ H=>te σ H D.rt
theorem JlN (he:PE X e te):PS X (.Return (some e) pos) (tRet te):=by
 intro pins s σ H D I h
 exact wpAny_Return_some (thn (he pins s σ H _ I h) fun v s1 ⟨x,H1,I1,r1,q1⟩=>⟨x,σ,H1,I1,r1,q1⟩)
def tIfS (c:TT) (t u:TS):TS:=fun D σ H=>c σ H fun b H1=>if b = true then t D σ H1 else u D σ H1
theorem ps_if {c:Expr} {a b:List Stmt} {tc:TT} (hc:PT X c tc) (ha:PSs X a t) (hb:PSs X b u):PS X (.If c a b pos) (tIfS tc t u):=by
 intro pins s σ H D I h
 refine wpAny_If (thn (hc pins s σ H _ I h) fun d s1 ⟨H1,I1,q1⟩=>?_)
 cases d with
 | true=>exact ha pins s1 σ H1 D I1 q1
 | false=>exact hb pins s1 σ H1 D I1 q1
end
abbrev TG:=V -> St -> Hp -> (St -> Hp -> Prop) -> Prop
abbrev TGs:=List V -> St -> Hp -> (St -> Hp -> Prop) -> Prop
def PG (X:Cx) (target:Expr) (t:TG):Prop:=
 ∀ (pins:List (Addr × Obj)) (s:Shared) (σ:St) (H:Hp) (v:V) (u:Value) (Q:St -> Hp -> Prop),Inv X pins σ H s -> RelV v u -> t v σ H Q ->
  wpAny (model X.prog X.w) X.A (assign target X.env u) (fun _ s'=>∃ σ' H',Inv X pins σ' H' s' /\ Q σ' H') X.xe s
def PGs (X:Cx) (ts:List Expr) (t:TGs):Prop:=
 ∀ (pins:List (Addr × Obj)) (s:Shared) (σ:St) (H:Hp) (vs:List V) (us:List Value) (Q:St -> Hp -> Prop),Inv X pins σ H s -> Vals vs us -> t vs σ H Q ->
  wpAny (model X.prog X.w) X.A (assignInOrder ((assignEach ts X.env).map (·.2)) us) (fun _ s'=>∃ σ' H',Inv X pins σ' H' s' /\ Q σ' H') X.xe s
section
variable {X:Cx} {pos:Pos}
def gName (i:Nat):TG:=fun v σ H Q=>Q (σ.set i (some v)) H
theorem Jx {i:Nat} {x:Str} (hN:X.N.Nodup) (hi:X.N[i]? = some x) (hx:Loc X.env.scope x) (hf:X.fn x = true \/ X.env.scope.names.lookup x = some .local:=by first | exact .inl rfl | exact .inr rfl | assumption):PG X (.Name x pos) (gName i):=by
 intro pins s σ H v u Q I r h
 exact wpAny_assign_Name (JdP I hN hi hx r (fun s' I'=>⟨_,H,I',h⟩) hf)
def gNil:TGs:=fun vs σ H Q=>vs = [] /\ Q σ H
def gCons (t:TG) (u:TGs):TGs:=fun vs σ H Q=>∃ v r,vs = v :: r /\ t v σ H fun σ' H'=>u r σ' H' Q
theorem JcY:PGs X [] gNil:=by
 intro pins s σ H vs us Q I r h
 obtain ⟨e,h⟩:=h
 subst e
 cases r
 exact assignInOrder_nil ⟨σ,H,I,h⟩
theorem JA {e:Expr} {es:List Expr} {t:TG} {u:TGs} (h1:PG X e t) (h2:PGs X es u)
  (hs:(assignEach (e :: es) X.env).map (·.2) = assign e X.env :: (assignEach es X.env).map (·.2):=by rfl):PGs X (e :: es) (gCons t u):=by
 intro pins s σ H vs us Q I r h
 obtain ⟨v,vr,e1,h⟩:=h
 subst e1
 cases r with
 | cons r rr=>
  rw [hs]
  refine assignInOrder_cons (thn (h1 pins s σ H _ _ _ I r h) fun _ s1 ⟨σ1,H1,I1,q1⟩=>?_)
  exact h2 pins s1 σ1 H1 _ _ Q I1 rr q1
def gTup (K:PySem.W.Frag) (n:Nat) (t:TGs):TG:=fun v σ H Q=>∃ a xs,v = .ref a /\ SqT K H a xs /\ xs.length = n /\ t xs σ H Q
theorem JfE {es:List Expr} {k:Nat} {t:TGs} {n:Nat} (hc:X.calm = true) (h:PGs X es t)
  (hn:(assignEach es X.env).length = n:=by rfl) (hst:(assignEach es X.env).findIdx? (·.1) = none:=by rfl):PG X (.Tuple es k pos) (gTup X.K n t):=by
 intro pins s σ H v u Q I r hw
 obtain ⟨a,xs,e1,hq,hl,hw⟩:=hw
 subst e1
 cases r
 obtain ⟨its,rv,ht,hz⟩:=I.tuple hq
 refine assign_Tuple_tuple (I.ok.hd hc) ht (by simp [hn,<- hl,rv.length]) hst fun h' hx=>?_
 have I1:Inv X pins σ H { s with heap:=h' }:=I.kept (t':=s.toks) fun b o e=>hx b o (Nat.ne_of_lt (Heap.lt_size e)) e
 exact h pins _ σ H xs _ Q I1 (by simpa using rv) hw
def tAsg (te:TE) (g:TG):TS:=fun D σ H=>te σ H fun x H1=>g x σ H1 D.nx
theorem JfG {i:Nat} {x:Str} {e:Expr} {te:TE} {pos':Pos} (hN:X.N.Nodup) (hi:X.N[i]? = some x) (hx:Loc X.env.scope x) (he:PE X e te) (hs:swapsWith e (some (.Name x pos')) pos.line X.env = pure false:=by rfl) (hf:X.fn x = true \/ X.env.scope.names.lookup x = some .local:=by first | exact .inl rfl | exact .inr rfl | assumption) :
  PS X (.Assign [.Name x pos'] e pos) (tAsg te (gName i)):=by
 intro pins s σ H D I h
 refine wpAny_Assign_Name (thn (he pins s σ H _ I h) fun v s1 ⟨y,H1,I1,r1,q1⟩=>?_) hs
 exact JdP I1 hN hi hx r1 (fun s2 I2=>⟨_,H1,I2,q1⟩) hf
end
section
variable {X:Cx} {pos:Pos}
end
structure It where
 go:Nat -> Hp -> Prop
 yld:Nat -> Hp -> V -> Hp -> Prop
 stop:Nat -> Hp -> Prop
def FpOk (X:Cx) (pins:List (Addr × Obj)) (H:Hp) (b:Addr):Prop:=
 H b = none /\ b ≠ X.env.locals /\ b ∉ X.fs /\ (b ∈ X.ex \/ X.s₀.heap.objs.size <= b) /\ (∀ x c,X.env.cells.lookup x = some c -> c ≠ b) /\ ∀ p ∈ X.pn ++ pins,p.1 ≠ b
theorem Inv.fpOk {X:Cx} {pins:List (Addr × Obj)} {σ:St} {H H':Hp} {s:Shared} {b:Addr} (I:Inv X pins σ H s) (hb:s.heap.objs.size <= b) (hn:H' b = none):FpOk X pins H' b:=by
 refine ⟨hn,Nat.ne_of_gt (Nat.lt_of_lt_of_le I.lt hb),I.nofs hb,.inr (Nat.le_trans I.sz hb),fun x c e z=>?_,fun p hp z=>?_⟩
 ·obtain ⟨v,q⟩:=I.cell x c e
  exact absurd (Nat.lt_of_lt_of_le q.lt (by rw [z]; exact hb)) (Nat.lt_irrefl _)
 ·exact absurd (Nat.lt_of_lt_of_le (Heap.lt_size (I.pin p hp).1) (by rw [z]; exact hb)) (Nat.lt_irrefl _)
structure Turn (P:Program) (w:World) (K:PySem.W.Frag) (tg:Expr) (J:It) (fp:List Addr) (it:Addr) (tn:Nat -> Heap -> Prop):Prop where
 mem:it ∈ fp
 obj:∀ i h,tn i h -> ∀ b ∈ fp,∃ o,h.get? b = some o /\ ∀ v,o.data ≠ .cell v
 keep:∀ i h h',tn i h -> (∀ b ∈ fp,∀ o,h.get? b = some o -> h'.get? b = some o) -> tn i h'
 item:∀ (X:Cx),X.prog = P -> X.w = w -> X.K = K -> X.calm = true -> ∀ (i:Nat) (pins:List (Addr × Obj)) (s:Shared) (σ:St) (H:Hp) (E:Value -> Shared -> Prop),Inv X pins σ H s -> (∀ b ∈ fp,FpOk X pins H b) -> tn i s.heap -> J.go i H ->
  wpAny (model P w) X.A (pyNext (.ref it)) (fun r s1=>∃ u,r = some u /\
   wpAny (model P w) X.A (letOwnedTupleGo tg (.ref it) u) (fun _ s2=>∃ x H',Inv X pins σ H' s2 /\ RelV x u /\ J.yld i H x H' /\ tn (i + 1) s2.heap /\ ∀ b ∈ fp,H' b = none) E s1) E s
 done:∀ (X:Cx),X.prog = P -> X.w = w -> X.K = K -> X.calm = true -> ∀ (i:Nat) (pins:List (Addr × Obj)) (s:Shared) (σ:St) (H:Hp) (E:Value -> Shared -> Prop),Inv X pins σ H s -> (∀ b ∈ fp,FpOk X pins H b) -> tn i s.heap -> J.stop i H ->
  wpAny (model P w) X.A (pyNext (.ref it)) (fun r s1=>r = none /\ Inv X pins σ H s1) E s
 self:∀ (A:Around) (i:Nat) (s:Shared) (Q:Value -> Shared -> Prop) (E:Value -> Shared -> Prop),tn i s.heap -> Q (.ref it) s -> wpAny (model P w) A (pyIter (.ref it)) Q E s
abbrev TI:=St -> Hp -> (It -> Hp -> Prop) -> Prop
def PIE (X:Cx) (pins:List (Addr × Obj)) (σ:St) (tg:Expr) (R:It -> Hp -> Prop) (itv:Value) (s2:Shared):Prop:=
 ∃ (it:Addr) (fp:List Addr) (tn:Nat -> Heap -> Prop) (J:It) (H':Hp),itv = .ref it /\ Inv X pins σ H' s2 /\ Turn X.prog X.w X.K tg J fp it tn /\ tn 0 s2.heap /\ (∀ b ∈ fp,FpOk X pins H' b) /\ R J H'
def PI (X:Cx) (tg iter:Expr) (wi:TI):Prop:=
 ∀ (pins:List (Addr × Obj)) (s:Shared) (σ:St) (H:Hp) (R:It -> Hp -> Prop),Inv X pins σ H s -> wi σ H R ->
  wpAny (model X.prog X.w) X.A (eval iter X.env) (fun v s1=>wpAny (model X.prog X.w) X.A (pyIter v) (PIE X pins σ tg R) X.xe s1) X.xe s
theorem JjV {M:Model} {A:Around} {E:Value -> Shared -> Prop} {s:Shared} {tg:Expr} {it:Addr} {u:Value} {o:Obj} {n:String} {vs:Array Value} {Q:Unit -> Shared -> Prop} (ho:s.heap.get? it = some o) (hc:o.cls = .type n) (hd:o.data = .fields vs)
  (hn:["enumerate","zip","dict_itemiterator","dict_reverseitemiterator","odict_iterator","itertools.zip_longest","itertools.pairwise"].contains n = false) (hQ:Q () s):wpAny M A (letOwnedTupleGo tg (.ref it) u) Q E s:=by
 unfold letOwnedTupleGo
 cases tg <;> first
  | exact wpAny_pure hQ
  | (cases u <;> first
    | exact wpAny_pure hQ
    | (refine wpAny_bind (wpAny_load ho ?_); rw [hc,hd]; show wpAny M A (if (["enumerate","zip","dict_itemiterator","dict_reverseitemiterator","odict_iterator","itertools.zip_longest","itertools.pairwise"].contains n && vs[0]? == some (rawInt _)) = true then _ else _) Q E s; rw [if_neg (by intro h; rw [hn,Bool.false_and] at h; cases h)]; exact wpAny_pure hQ))
def Itl (K:PySem.W.Frag) (a:Addr):It:=
 ⟨fun i H=>∃ xs x,SqL K H a xs /\ xs[i]? = some x,fun i H x H'=>H' = H /\ ∀ xs,SqL K H a xs -> xs[i]? = some x,fun i H=>∃ xs,SqL K H a xs /\ xs.length <= i⟩
def Itt (K:PySem.W.Frag) (a:Addr):It:=
 ⟨fun i H=>∃ xs x,SqT K H a xs /\ xs[i]? = some x,fun i H x H'=>H' = H /\ ∀ xs,SqT K H a xs -> xs[i]? = some x,fun i H=>∃ xs,SqT K H a xs /\ xs.length <= i⟩
def Itr (lo:Int) (n:Nat):It:=⟨fun i _=>i < n,fun i H x H'=>H' = H /\ x = .int (lo + i),fun i _=>n <= i⟩
theorem Jhn {P:Program} {w:World} {K:PySem.W.Frag} {tg:Expr} (a it:Addr):Turn P w K tg (Itl K a) [it] it (fun i h=>h.IsListIter it a i) where
 mem:=by simp
 obj:=fun i h st b hb=>by
  have e:b = it:=by simpa using hb
  subst e
  obtain ⟨o,e,c,d⟩:=st
  exact ⟨o,e,fun v z=>by rw [d] at z; cases z⟩
 keep:=fun i h h' st k=>st.at fun o e=>k it (by simp) o e
 item:=by
  intro X hP hw hK hc i pins s σ H E I hf st hg
  subst hP hw hK
  obtain ⟨xs,x,hq,hx⟩:=hg
  obtain ⟨its,rv,p,hz⟩:=I.list hq
  obtain ⟨u,hu,ru⟩:=rv.get hx
  obtain ⟨f0,f1,f2,f3,f4,f5⟩:=hf it (by simp)
  refine wpAny_pyNext_list_item st p.isList (x:=u) (by simpa using hu) fun h' st' sb=>?_
  have I1:Inv X pins σ H { s with heap:=h' }:=I.turned (t':=s.toks) (fun b o hb e=>(sb.2 b hb).trans e) f0 f1 f3 f4 f5
  obtain ⟨o,e,c,d⟩:=id st'
  exact ⟨u,rfl,JjV (s:={ s with heap:=h' }) e c d (by decide) ⟨x,H,I1,ru,⟨rfl,fun ys hy=>by rw [I.list_inj hy hq]; exact hx⟩,st',fun b hb=>(hf b hb).1⟩⟩
 done:=by
  intro X hP hw hK hc i pins s σ H E I hf st hg
  subst hP hw hK
  obtain ⟨xs,hq,hx⟩:=hg
  obtain ⟨its,rv,p,hz⟩:=I.list hq
  obtain ⟨f0,f1,f2,f3,f4,f5⟩:=hf it (by simp)
  have hl:=rv.length
  exact wpAny_pyNext_list_end (I.ok.hd hc) st p.isList (by simp; omega) fun h' eb=>⟨rfl,I.turned (t':=s.toks) (fun b o hb e=>eb b o hb e) f0 f1 f3 f4 f5⟩
 self:=fun _ _ _ _ _ st h=>wpAny_pyIter_listiter st h
theorem JeV {P:Program} {w:World} {K:PySem.W.Frag} {tg:Expr} (a it:Addr):Turn P w K tg (Itt K a) [it] it (fun i h=>h.IsTupleIter it a i) where
 mem:=by simp
 obj:=fun i h st b hb=>by
  have e:b = it:=by simpa using hb
  subst e
  obtain ⟨o,e,c,d⟩:=st
  exact ⟨o,e,fun v z=>by rw [d] at z; cases z⟩
 keep:=fun i h h' st k=>st.at fun o e=>k it (by simp) o e
 item:=by
  intro X hP hw hK hc i pins s σ H E I hf st hg
  subst hP hw hK
  obtain ⟨xs,x,hq,hx⟩:=hg
  obtain ⟨its,rv,p,hz⟩:=I.tuple hq
  obtain ⟨u,hu,ru⟩:=rv.get hx
  obtain ⟨f0,f1,f2,f3,f4,f5⟩:=hf it (by simp)
  refine wpAny_pyNext_tuple_item st (show s.heap.IsTuple a its.toArray from p) (x:=u) (by simpa using hu) fun h' st' sb=>?_
  have I1:Inv X pins σ H { s with heap:=h' }:=I.turned (t':=s.toks) (fun b o hb e=>(sb.2 b hb).trans e) f0 f1 f3 f4 f5
  obtain ⟨o,e,c,d⟩:=id st'
  exact ⟨u,rfl,JjV (s:={ s with heap:=h' }) e c d (by decide) ⟨x,H,I1,ru,⟨rfl,fun ys hy=>by rw [I.tuple_inj hy hq]; exact hx⟩,st',fun b hb=>(hf b hb).1⟩⟩
 done:=by
  intro X hP hw hK hc i pins s σ H E I hf st hg
  subst hP hw hK
  obtain ⟨xs,hq,hx⟩:=hg
  obtain ⟨its,rv,p,hz⟩:=I.tuple hq
  obtain ⟨f0,f1,f2,f3,f4,f5⟩:=hf it (by simp)
  have hl:=rv.length
  exact wpAny_pyNext_tuple_end (I.ok.hd hc) st (show s.heap.IsTuple a its.toArray from p) (by simp; omega) fun h' eb=>⟨rfl,I.turned (t':=s.toks) (fun b o hb e=>eb b o hb e) f0 f1 f3 f4 f5⟩
 self:=fun _ _ _ _ _ st h=>wpAny_pyIter_tupleiter st h
theorem JeT {P:Program} {w:World} {K:PySem.W.Frag} {tg:Expr} (it:Addr) (lo:Int) (n:Nat):Turn P w K tg (Itr lo n) [it] it (fun i h=>IsRangeIter h it (lo + (i:Nat) * 1) ((n:Int) - (i:Nat)) 1) where
 mem:=by simp
 obj:=fun i h st b hb=>by
  have e:b = it:=by simpa using hb
  subst e
  exact ⟨_,st,fun v z=>by
   have z':Data.fields _ = Data.cell v:=z
   cases z'⟩
 keep:=fun i h h' st k=>k it (by simp) _ st
 item:=by
  intro X hP hw hK hc i pins s σ H E I hf st hg
  subst hP hw hK
  obtain ⟨f0,f1,f2,f3,f4,f5⟩:=hf it (by simp)
  have W:=Walks.range (prog:=X.prog) (w:=X.w) (I.ok.hd hc) it lo 1 n
  refine W.item i s _ _ hg st fun v h' tk hv st' kk=>?_
  obtain ⟨t,rfl⟩:=hv
  have I1:Inv X pins σ H { s with heap:=h',toks:=tk }:=I.turned (fun b o hb e=>kk b o (by simpa using hb) e) f0 f1 f3 f4 f5
  refine ⟨_,rfl,JjV (s:={ s with heap:=h',toks:=tk }) (n:="range_iterator") st' rfl rfl (by decide) ⟨.int (lo + i),H,I1,⟨t,?_⟩,⟨rfl,rfl⟩,st',fun b hb=>(hf b hb).1⟩⟩
  rw [Int.mul_one]
 done:=by
  intro X hP hw hK hc i pins s σ H E I hf st hg
  subst hP hw hK
  obtain ⟨f0,f1,f2,f3,f4,f5⟩:=hf it (by simp)
  exact wpAny_pyNext_range_end (I.ok.hd hc) st (by have:n <= i:=hg; omega) fun h' eb=>⟨rfl,I.turned (t':=s.toks) (fun b o hb e=>eb b o hb e) f0 f1 f3 f4 f5⟩
 self:=fun _ _ _ _ _ st h=>wpAny_pyIter_rangeiter st h
end L2
namespace L2
open PySem PySem.Spec PyProof.Rows
section
variable {X:Cx} {tg:Expr}
theorem Jiz {pins:List (Addr × Obj)} {σ:St} {H:Hp} {s:Shared} {R:It -> Hp -> Prop} {E:Value -> Shared -> Prop} {lo hi:Int} {t u v:Tok} {tk:Nat} (I:Inv X pins σ H s) (h1:-(2 ^ 62) <= lo) (h2:lo < 2 ^ 62) (h3:-(2 ^ 62) <= hi) (h4:hi < 2 ^ 62)
  (q:R (Itr lo (hi - lo).toNat) H):wpAny (model X.prog X.w) X.A (pyIter (.ref s.heap.objs.size)) (PIE X pins σ tg R) E { s with heap:=s.heap.push { cls:=.type "range",data:=.fields #[.int lo t,.int hi u,.int 1 v] },toks:=tk }:=by
 refine wpAny_pyIter_range (IsRange.new ..) (small_one h1 h2 h3 h4) ?_
 have I1:Inv X pins σ H { s with heap:=s.heap.push { cls:=.type "range",data:=.fields #[.int lo t,.int hi u,.int 1 v] },toks:=tk }:=I.kept fun b o e=>Heap.get?_push_of_some _ e
 refine ⟨(s.heap.push { cls:=.type "range",data:=.fields #[.int lo t,.int hi u,.int 1 v] }).objs.size,[(s.heap.push { cls:=.type "range",data:=.fields #[.int lo t,.int hi u,.int 1 v] }).objs.size],_,_,H,rfl,
  I1.kept (t':=tk) fun b o e=>Heap.get?_push_of_some _ e,JeT _ lo (hi - lo).toNat,?_,fun b hb=>?_,q⟩
 ·have e1:lo + ((0:Nat):Int) * 1 = lo:=by simp
  have e2:(((hi - lo).toNat:Nat):Int) - ((0:Nat):Int) = Builtin.Range.rangeSize lo hi 1:=by rw [rangeSize_one]; split <;> omega
  show IsRangeIter _ _ (lo + ((0:Nat):Int) * 1) ((((hi - lo).toNat:Nat):Int) - ((0:Nat):Int)) 1
  rw [e1,e2]
  exact Heap.get?_push_size _ rfl
 ·have e:b = (s.heap.push { cls:=.type "range",data:=.fields #[.int lo t,.int hi u,.int 1 v] }).objs.size:=by simpa using hb
  subst e
  exact I1.fpOk (Nat.le_refl _) (I1.hok.fresh (Nat.le_refl _))
def iRng1 (ta:TA):TI:=fun σ H R=>ta σ H fun vs H1=>∃ j:Int,vs = [.int j] /\ -(2 ^ 62) <= j /\ j < 2 ^ 62 /\ R (Itr 0 j.toNat) H1
theorem Jfk {a:Expr} {ta:TA} {p pos:Pos} (hg:Gl X "range") (hm:X.mg "range" = none) (ha:PA X [a] ta) (hs:starEach [a] X.env = [(false,eval a X.env)]:=by rfl):PI X tg (.Call (.Name "range" p) [a] [] pos) (iRng1 ta):=by
 intro pins s σ H R I h
 refine Call_ (Jbx I hg hm boot_range (PyProof.Rows.callWith_type1 (thn (ha pos pins s σ H _ I h) fun us s1 ⟨vs,H1,I1,r1,q1⟩=>?_) hs rfl))
 obtain ⟨j,e,q1,q2,q⟩:=q1
 subst e
 cases r1 with
 | cons r rr=>
  cases rr
  obtain ⟨t,rfl⟩:=r
  exact call_range_1 (Jiz I1 (by omega) (by omega) q1 q2 (by simpa using q))
def tFor (wi:TI) (g:TG) (tb:TS):TS:=fun D σ H=>wi σ H fun J H1=>∃ W:Nat -> Nat -> St -> Hp -> Prop,(∃ m,W 0 m σ H1) /\ ∀ i m σ H,W i m σ H ->
 (J.stop i H /\ D.nx σ H) \/ (J.go i H /\ ∃ N:St -> Hp -> Prop,(∀ σ' H',N σ' H' -> ∃ m',m' < m /\ W (i + 1) m' σ' H') /\ ∀ x H',J.yld i H x H' -> g x σ H' fun σ2 H2=>tb { D with nx:=N,ct:=N,bk:=D.nx } σ2 H2)
def pinsAt (fp:List Addr) (h:Heap):List (Addr × Obj):=fp.filterMap fun b=>(h.get? b).map fun o=>(b,o)
theorem Jn {fp:List Addr} {h:Heap} {b:Addr} {o:Obj} (hb:b ∈ fp) (e:h.get? b = some o):(b,o) ∈ pinsAt fp h:=List.mem_filterMap.mpr ⟨b,hb,by rw [e]; rfl⟩
theorem Jck {fp:List Addr} {h:Heap} {p:Addr × Obj} (hp:p ∈ pinsAt fp h):p.1 ∈ fp /\ h.get? p.1 = some p.2:=by
 obtain ⟨b,hb,e⟩:=List.mem_filterMap.mp hp
 cases q:h.get? b with
 | none=>rw [q] at e; cases e
 | some o=>
  rw [q] at e
  have e':(b,o) = p:=Option.some.inj e
  subst e'
  exact ⟨hb,q⟩
theorem Inv.pinned {pins:List (Addr × Obj)} {σ:St} {H:Hp} {s:Shared} {fp:List Addr} (I:Inv X pins σ H s) (hf:∀ b ∈ fp,FpOk X pins H b) (ho:∀ b ∈ fp,∃ o,s.heap.get? b = some o /\ ∀ v,o.data ≠ .cell v):Inv X (pins ++ pinsAt fp s.heap) σ H s:=
 I.pins_of fun p hp=>(List.mem_append.mp hp).elim (fun z=>I.pin p (List.mem_append_right _ z)) fun z=>by
  obtain ⟨hb,e⟩:=Jck z
  obtain ⟨f0,f1,f2,_⟩:=hf p.1 hb
  obtain ⟨o,e',d⟩:=ho p.1 hb
  rw [e] at e'; cases e'
  exact ⟨e,f0,f1,f2,d⟩
theorem Inv.unpinned {pins pl:List (Addr × Obj)} {σ:St} {H:Hp} {s:Shared} (I:Inv X (pins ++ pl) σ H s):Inv X pins σ H s:=I.pins_of fun p hp=>I.pin p (List.mem_append_right _ (List.mem_append_left _ hp))
theorem Jln {iter:Expr} {body:List Stmt} {wi:TI} {g:TG} {tb:TS} {pos:Pos} (hp:PassesOwn (model X.prog X.w) X.A X.env X.xe) (hc:X.calm = true) (hi:PI X tg iter wi) (hg:PG X tg g) (hb:PSs X body tb)
  (hs:∀ x,foldedSetIterable iter X.env x = pure x:=by intro _; rfl):PS X (.For tg iter body [] pos) (tFor wi g tb):=by
 intro pins s σ H D I h
 refine wpAny_For (thn (hi pins s σ H _ I h) fun v s1 h1=>thn h1 fun itv s2 h2=>?_) hs
 obtain ⟨it,fp,tn,J,H2,e,I2,T,st2,f2,W,⟨m0,w0⟩,turn⟩:=h2
 subst e
 have stat:∀ {H':Hp},(∀ b ∈ fp,H' b = none) -> ∀ b ∈ fp,FpOk X pins H' b:=fun hn b hb=>⟨hn b hb,(f2 b hb).2⟩
 refine codeAny_forLoop_any (fun n s'=>∃ i σ' H',Inv X pins σ' H' s' /\ tn i s'.heap /\ (∀ b ∈ fp,H' b = none) /\ W i n σ' H') ?_ m0 ⟨0,σ,H2,I2,st2,fun b hb=>(f2 b hb).1,w0⟩
 rintro n s3 ⟨i,σ3,H3,I3,st3,fr3,w3⟩
 rcases turn i n σ3 H3 w3 with ⟨stop,qn⟩ | ⟨go,N,hN,step⟩
 ·refine wpAny_passesOwn hp (thn (T.done X rfl rfl rfl hc i pins s3 σ3 H3 X.xe I3 (stat fr3) st3 stop) fun r s4 ⟨hr,I4⟩=>?_)
  subst hr
  exact wpAny_execs_nil ⟨σ3,H3,I4,qn⟩
 ·refine wpAny_passesOwn hp (thn (T.item X rfl rfl rfl hc i pins s3 σ3 H3 X.xe I3 (stat fr3) st3 go) fun r s4 ⟨u,hr,h4⟩=>?_)
  subst hr
  refine wpAny_passesOwn hp (thn h4 fun _ s5 ⟨x,H5,I5,r5,y5,st5,fr5⟩=>?_)
  have I5':=I5.pinned (stat fr5) (T.obj _ _ st5)
  refine wpAny_passesOwn hp (thn (hg _ s5 σ3 H5 x u _ I5' r5 (step x H5 y5)) fun _ s6 ⟨σ6,H6,I6,q6⟩=>?_)
  refine wpAny_passesOwn hp (thn (hb _ s6 σ6 H6 _ I6 q6) fun f s7 q7=>?_)
  have again:∀ {σ7:St} {H7:Hp},Inv X (pins ++ pinsAt fp s5.heap) σ7 H7 s7 -> N σ7 H7 -> ∃ m,m < n /\ ∃ i σ' H',Inv X pins σ' H' s7 /\ tn i s7.heap /\ (∀ b ∈ fp,H' b = none) /\ W i m σ' H':=fun {σ7 H7} I7 n7=>by
   obtain ⟨m',hm,w7⟩:=hN σ7 H7 n7
   refine ⟨m',hm,i + 1,σ7,H7,I7.unpinned,T.keep _ _ _ st5 fun b hb o e=>(I7.pin (b,o) (List.mem_append_right _ (List.mem_append_right _ (Jn hb e)))).1,fun b hb=>?_,w7⟩
   obtain ⟨o,e,d⟩:=T.obj _ _ st5 b hb
   exact (I7.pin (b,o) (List.mem_append_right _ (List.mem_append_right _ (Jn hb e)))).2.1
  cases f with
  | next=>obtain ⟨σ7,H7,I7,n7⟩:=q7; exact again I7 n7
  | cont=>obtain ⟨σ7,H7,I7,n7⟩:=q7; exact again I7 n7
  | brk=>obtain ⟨σ7,H7,I7,q7⟩:=q7; exact ⟨σ7,H7,I7.unpinned,q7⟩
  | ret v=>obtain ⟨x7,σ7,H7,I7,r7,q7⟩:=q7; exact ⟨x7,σ7,H7,I7.unpinned,r7,q7⟩
end
end L2
namespace L2
open PySem PySem.Spec PyProof.Rows
abbrev R2:=V -> V -> Hp -> VK -> Prop
def OpR (X:Cx) (f:Value -> Value -> Sem Value) (r:R2):Prop:=
 ∀ (pins:List (Addr × Obj)) (s:Shared) (σ:St) (H:Hp) (x y:V) (v u:Value) (Q:VK),Inv X pins σ H s -> RelV x v -> RelV y u -> r x y H Q ->
  wpAny (model X.prog X.w) X.A (f v u) (EP X pins σ Q) X.xe s
def UnR (X:Cx) (f:Value -> Sem Value) (r:V -> Hp -> VK -> Prop):Prop:=
 ∀ (pins:List (Addr × Obj)) (s:Shared) (σ:St) (H:Hp) (x:V) (v:Value) (Q:VK),Inv X pins σ H s -> RelV x v -> r x H Q ->
  wpAny (model X.prog X.w) X.A (f v) (EP X pins σ Q) X.xe s
def CallR (X:Cx) (f:Value) (r:List V -> Hp -> VK -> Prop):Prop:=
 ∀ (pins:List (Addr × Obj)) (s:Shared) (σ:St) (H:Hp) (xs:List V) (us:List Value) (Q:VK),Inv X pins σ H s -> Vals xs us -> r xs H Q ->
  wpAny (model X.prog X.w) X.A (call f us) (EP X pins σ Q) X.xe s
def TruR (X:Cx) (r:V -> Hp -> (Bool -> Hp -> Prop) -> Prop):Prop:=
 ∀ (pins:List (Addr × Obj)) (s:Shared) (σ:St) (H:Hp) (x:V) (v:Value) (Q:Bool -> Hp -> Prop),Inv X pins σ H s -> RelV x v -> r x H Q ->
  wpAny (model X.prog X.w) X.A (truthy v) (TP X pins σ Q) X.xe s
def tOp (r:R2) (ta tb:TE):TE:=fun σ H Q=>ta σ H fun x H1=>tb σ H1 fun y H2=>r x y H2 Q
def tUn (r:V -> Hp -> VK -> Prop) (ta:TE):TE:=fun σ H Q=>ta σ H fun x H1=>r x H1 Q
def rI (C:Int -> Int -> Prop) (g:Int -> Int -> V):R2:=fun x y H Q=>∃ i j,x = .int i /\ y = .int j /\ C i j /\ Q (g i j) H
def rI0 (g:Int -> Int -> V):R2:=fun x y H Q=>∃ i j,x = .int i /\ y = .int j /\ Q (g i j) H
def rU (g:Int -> V):V -> Hp -> VK -> Prop:=fun x H Q=>∃ i,x = .int i /\ Q (g i) H
section
variable {X:Cx} {a b c:Expr} {ta tb tc:TE} {pos:Pos}
theorem binT (ha:PE X a ta) (hb:PE X b tb) {pins:List (Addr × Obj)} {s:Shared} {σ:St} {H:Hp} {R:V -> V -> Hp -> Prop} (I:Inv X pins σ H s)
  (h:ta σ H fun x H1=>tb σ H1 fun y H2=>R x y H2) {Q:Value -> Shared -> Prop} {f:Value -> Value -> Sem Value}
  (hf:∀ v u s2 x y H2,Inv X pins σ H2 s2 -> RelV x v -> RelV y u -> R x y H2 -> wpAny (model X.prog X.w) X.A (f v u) Q X.xe s2) :
  wpAny (model X.prog X.w) X.A (eval a X.env) (fun v s₁=>wpAny (model X.prog X.w) X.A (eval b X.env) (fun u s₂=>wpAny (model X.prog X.w) X.A (f v u) Q X.xe s₂) X.xe s₁) X.xe s:=by
 refine thn (ha pins s σ H _ I h) fun v s1 ⟨x,H1,I1,r1,q1⟩=>?_
 refine thn (hb pins s1 σ H1 _ I1 q1) fun u s2 ⟨y,H2,I2,r2,q2⟩=>?_
 exact hf v u s2 x y H2 I2 r1 r2 q2
theorem pe_op {op:Operator} {r:R2} (ho:OpR X (binaryOp op) r) (ha:PE X a ta) (hb:PE X b tb):PE X (.BinOp a op b pos) (tOp r ta tb):=by
 intro pins s σ H Q I h
 exact wpAny_BinOp (binT ha hb I h fun v u s2 x y H2 I2 rx ry q=>ho pins s2 σ H2 x y v u Q I2 rx ry q)
theorem pe_un {op:UnaryOp} {r:V -> Hp -> VK -> Prop} (ho:UnR X (unaryOp op) r) (ha:PE X a ta):PE X (.UnaryOp op a pos) (tUn r ta):=by
 intro pins s σ H Q I h
 exact UnaryOp_ (thn (ha pins s σ H _ I h) fun v s1 ⟨x,H1,I1,r1,q1⟩=>ho pins s1 σ H1 x v Q I1 r1 q1)
theorem opI {f:Value -> Value -> Sem Value} {C:Int -> Int -> Prop} {g:Int -> Int -> Int}
  (rule:∀ (i j:Int) (t u:Tok) (s:Shared) (Q:Value -> Shared -> Prop) (E:Value -> Shared -> Prop),C i j -> Q (.int (g i j) s.toks) { s with toks:=s.toks + 1 } -> wpAny (model X.prog X.w) X.A (f (.int i t) (.int j u)) Q E s) :
  OpR X f (rI C fun i j=>.int (g i j)):=by
 intro pins s σ H x y v u Q I rx ry h
 obtain ⟨i,j,rfl,rfl,hc,q⟩:=h
 obtain ⟨t,rfl⟩:=rx
 obtain ⟨t',rfl⟩:=ry
 exact rule i j t t' s _ _ hc ⟨.int (g i j),H,I.tok _,⟨_,rfl⟩,q⟩
theorem opI0 {f:Value -> Value -> Sem Value} {g:Int -> Int -> Int}
  (rule:∀ (i j:Int) (t u:Tok) (s:Shared) (Q:Value -> Shared -> Prop) (E:Value -> Shared -> Prop),Q (.int (g i j) s.toks) { s with toks:=s.toks + 1 } -> wpAny (model X.prog X.w) X.A (f (.int i t) (.int j u)) Q E s) :
  OpR X f (rI0 fun i j=>.int (g i j)):=by
 intro pins s σ H x y v u Q I rx ry h
 obtain ⟨i,j,rfl,rfl,q⟩:=h
 obtain ⟨t,rfl⟩:=rx
 obtain ⟨t',rfl⟩:=ry
 exact rule i j t t' s _ _ ⟨.int (g i j),H,I.tok _,⟨_,rfl⟩,q⟩
theorem opB0 {f:Value -> Value -> Sem Value} {g:Int -> Int -> Bool}
  (rule:∀ (i j:Int) (t u:Tok) (s:Shared) (Q:Value -> Shared -> Prop) (E:Value -> Shared -> Prop),Q (.bool (g i j)) s -> wpAny (model X.prog X.w) X.A (f (.int i t) (.int j u)) Q E s) :
  OpR X f (rI0 fun i j=>.bl (g i j)):=by
 intro pins s σ H x y v u Q I rx ry h
 obtain ⟨i,j,rfl,rfl,q⟩:=h
 obtain ⟨t,rfl⟩:=rx
 obtain ⟨t',rfl⟩:=ry
 exact rule i j t t' s _ _ ⟨.bl (g i j),H,I,rfl,q⟩
def CDiv (i j:Int):Prop:=0 < j /\ j < 1073741824
def CMul (i j:Int):Prop:=(-(2 ^ 64) < i /\ i < 2 ^ 64) \/ (-(2 ^ 64) < j /\ j < 2 ^ 64)
theorem CMul.ok {i j:Int} (h:CMul i j):IntMulOk i j:=by
 rcases h with ⟨h1,h2⟩ | ⟨h1,h2⟩
 ·exact .of_left (intBits_le_64 h1 h2)
 ·exact .of_right (intBits_le_64 h1 h2)
theorem JkY:OpR X (binaryOp .Add) (rI0 fun i j=>.int (i + j)):=opI0 fun _ _ _ _ _ _ _ q=>add_int q
theorem JmK:OpR X (binaryOp .Sub) (rI0 fun i j=>.int (i - j)):=opI0 fun _ _ _ _ _ _ _ q=>sub_int q
theorem JkR:OpR X (binaryOp .Mult) (rI CMul fun i j=>.int (i * j)):=opI fun _ _ _ _ _ _ _ hc q=>mul_int q hc.ok
theorem JjO:OpR X (binaryOp .FloorDiv) (rI CDiv fun i j=>.int (i / j)):=opI fun i j _ _ _ _ _ hc q=>by
 have h1:(0:Int) < j:=hc.1
 have h2:j < 1073741824:=hc.2
 exact floordiv_int (by omega) (by rw [Int.fdiv_eq_ediv_of_nonneg i (by omega)]; exact q) (.inl (PyProof.noPylong_small (by omega)))
theorem Jlb:OpR X (binaryOp .Mod) (rI (fun _ j=>0 < j) fun i j=>.int (i % j)):=opI fun i j _ _ _ _ _ hc q=>by
 have h1:(0:Int) < j:=hc
 exact mod_int' (by omega) (by rw [Int.fmod_eq_emod_of_nonneg i (by omega)]; exact q)
theorem unI {f:Value -> Sem Value} {g:Int -> Int}
  (rule:∀ (i:Int) (t:Tok) (s:Shared) (Q:Value -> Shared -> Prop) (E:Value -> Shared -> Prop),Q (.int (g i) s.toks) { s with toks:=s.toks + 1 } -> wpAny (model X.prog X.w) X.A (f (.int i t)) Q E s) :
  UnR X f (rU fun i=>.int (g i)):=by
 intro pins s σ H x v Q I rx h
 obtain ⟨i,rfl,q⟩:=h
 obtain ⟨t,rfl⟩:=rx
 exact rule i t s _ _ ⟨.int (g i),H,I.tok _,⟨_,rfl⟩,q⟩
theorem Jmd:UnR X (unaryOp .USub) (rU fun i=>.int (-i)):=unI fun _ _ _ _ _ q=>neg_int q
end
section
variable {X:Cx} {a b c:Expr} {ta tb tc:TE} {pos:Pos}
theorem JgR {pins:List (Addr × Obj)} {σ:St} {H:Hp} {s:Shared} {Q:VK} {k k':Bool} (I:Inv X pins σ H s) (q:Q (.bl k) H) (e:k = k'):EP X pins σ Q (.bool k') s:=by
 subst e
 exact ⟨.bl k,H,I,rfl,q⟩
theorem op_lt:OpR X (compareOp .Lt) (rI0 fun i j=>.bl (decide (i < j))):=opB0 fun _ _ _ _ _ _ _ q=>lt_int q
theorem op_le:OpR X (compareOp .LtE) (rI0 fun i j=>.bl (decide (i <= j))):=opB0 fun _ _ _ _ _ _ _ q=>le_int q
theorem op_gt:OpR X (compareOp .Gt) (rI0 fun i j=>.bl (decide (j < i))):=opB0 fun _ _ _ _ _ _ _ q=>gt_int q
theorem op_ge:OpR X (compareOp .GtE) (rI0 fun i j=>.bl (decide (j <= i))):=opB0 fun _ _ _ _ _ _ _ q=>ge_int q
theorem JgD:OpR X (compareOp .Lt) (fun x y H Q=>∃ i j,x = .str i /\ y = .str j /\ Q (.bl (decide (i.cps.toList < j.cps.toList))) H):=by
 intro pins s σ H x y v u Q I rx ry h
 obtain ⟨i,j,rfl,rfl,q⟩:=h
 obtain ⟨t,rfl⟩:=rx
 obtain ⟨t',rfl⟩:=ry
 exact lt_str (JgR I q rfl)
theorem Jfr:OpR X (compareOp .In) (fun x y H Q=>∃ i j,x = .str i /\ y = .str j /\ Q (.bl (!(Builtin.Str.occurrences j i 0 j.length 1).isEmpty)) H):=by
 intro pins s σ H x y v u Q I rx ry h
 obtain ⟨i,j,rfl,rfl,q⟩:=h
 obtain ⟨t,rfl⟩:=rx
 obtain ⟨t',rfl⟩:=ry
 exact in_str (JgR I q rfl)
theorem Jcs:OpR X (compareOp .NotIn) (fun x y H Q=>∃ i j,x = .str i /\ y = .str j /\ Q (.bl (!(!(Builtin.Str.occurrences j i 0 j.length 1).isEmpty))) H):=by
 intro pins s σ H x y v u Q I rx ry h
 obtain ⟨i,j,rfl,rfl,q⟩:=h
 obtain ⟨t,rfl⟩:=rx
 obtain ⟨t',rfl⟩:=ry
 exact notIn_str (JgR I q rfl)
theorem JN (b:Expr) {op:CmpOp} (h:op ≠ .In:=by decide) (h2:op ≠ .NotIn:=by decide):behindInMarks op b = false:=by
 have e1:(op == CmpOp.In) = false:=by cases op <;> first | rfl | exact absurd rfl h
 have e2:(op == CmpOp.NotIn) = false:=by cases op <;> first | rfl | exact absurd rfl h2
 cases b <;> simp [behindInMarks,e1,e2]
theorem JjF {op:CmpOp} {r:R2} (ho:OpR X (compareOp op) r) (ha:PE X a ta) (hb:PE X b tb) (hm:behindInMarks op b = false):PE X (.Compare a [op] [b] pos) (tOp r ta tb):=by
 intro pins s σ H Q I h
 exact wpAny_Compare1 (binT ha hb I h fun v u s2 x y H2 I2 rx ry q=>ho pins s2 σ H2 x y v u Q I2 rx ry q) hm
def tTest (t:TE):TT:=fun σ H Q=>t σ H fun x H'=>∃ k,x = .bl k /\ Q k H'
theorem Jjs {op:CmpOp} {r:R2} (ho:OpR X (compareOp op) r) (ha:PE X a ta) (hb:PE X b tb) (hm:behindInMarks op b = false):PT X (.Compare a [op] [b] pos) (tTest (tOp r ta tb)):=by
 intro pins s σ H Q I h
 refine wpAny_isTrue_Compare1 (thn (ha pins s σ H _ I h) fun v s1 ⟨x,H1,I1,r1,q1⟩=>thn (hb pins s1 σ H1 _ I1 q1) fun u s2 ⟨y,H2,I2,r2,q2⟩=>
  thn (ho pins s2 σ H2 x y v u _ I2 r1 r2 q2) fun c s3 ⟨z,H3,I3,r3,k,e,q3⟩=>?_) hm
 subst e
 cases r3
 exact wpAny_truthy_bool ⟨H3,I3,q3⟩
def TruV (K:PySem.W.Frag) (x:V) (H:Hp) (k:Bool):Prop:=
 match x with
 | .non=>k = false
 | .bl b=>k = b
 | .int i=>k = (i != 0)
 | .str y=>y.length <= sizeLine /\ k = ((y.length:Int) != 0)
 | .byt y=>y.size <= sizeLine /\ k = ((y.size:Int) != 0)
 | .ref p=>(∃ xs,SqL K H p xs /\ k = !xs.isEmpty) \/ (∃ xs,SqT K H p xs /\ k = !xs.isEmpty) \/ ∃ kvs,H p = some (.dK kvs) /\ k = !kvs.isEmpty
 | _=>False
theorem JeX {κ:Type} {kvs:List (κ × V)} {vs:List (κ × Value)} (r:KV kvs vs):(!vs.isEmpty) = !kvs.isEmpty:=by
 cases r <;> rfl
theorem Jbr {xs:List V} {its:List Value} (r:Vals xs its):(!its.toArray.isEmpty) = !xs.isEmpty:=by
 cases r <;> simp
theorem Jbs:(sizeLine:Nat) < 2 ^ 63:=by rw [sizeLine_eq]; decide
theorem JlF:TruR X (fun x H Q=>∃ k,TruV X.K x H k /\ Q k H):=by
 intro pins s σ H x v Q I rx h
 obtain ⟨k,e,q⟩:=h
 have hl:=Jbs
 have hs:sizeLine = 16777216:=sizeLine_eq
 cases x with
 | non=>
  cases rx
  have e':k = false:=e
  subst e'
  exact truthy_none ⟨H,I,q⟩
 | bl b=>
  cases rx
  have e':k = b:=e
  subst e'
  exact wpAny_truthy_bool ⟨H,I,q⟩
 | int i=>
  obtain ⟨t,rfl⟩:=rx
  have e':k = (i != 0):=e
  subst e'
  exact PySem.P.truthy_int ⟨H,I,q⟩
 | str y=>
  obtain ⟨t,rfl⟩:=rx
  obtain ⟨hy,e'⟩:y.length <= sizeLine /\ k = ((y.length:Int) != 0):=e
  subst e'
  exact PySem.P.truthy_str (by omega) ⟨H,I.tok _,q⟩
 | byt y=>
  obtain ⟨t,rfl⟩:=rx
  obtain ⟨hy,e'⟩:y.size <= sizeLine /\ k = ((y.size:Int) != 0):=e
  subst e'
  exact PySem.W.truthy_bytes (by omega) ⟨H,I.tok _,q⟩
 | ref p=>
  cases rx
  have e':(∃ xs,SqL X.K H p xs /\ k = !xs.isEmpty) \/ (∃ xs,SqT X.K H p xs /\ k = !xs.isEmpty) \/ ∃ kvs,H p = some (.dK kvs) /\ k = !kvs.isEmpty:=e
  rcases e' with ⟨xs,hx,e'⟩ | ⟨xs,hx,e'⟩ | ⟨kvs,hx,e'⟩
  ·subst e'
   obtain ⟨its,r,pl,hz⟩:=I.list hx
   have hlen:=r.length
   exact wpAny_truthy_list pl.isList (by simp only [List.size_toArray]; omega) ⟨H,I.tok _,by rw [Jbr r]; exact q⟩
  ·subst e'
   obtain ⟨its,r,pl,hz⟩:=I.tuple hx
   have hlen:=r.length
   exact truthy_tuple pl (by simp only [List.size_toArray]; omega) ⟨H,I.tok _,by rw [Jbr r]; exact q⟩
  ·subst e'
   obtain ⟨hz,hS,vs,r,m⟩:kvs.length <= sizeLine /\ (p == sysModules) = false /\ ∃ vs,KV kvs vs /\ s.heap.DictOf (mixKind X.prog X.w) p vs:=I.hok p _ hx
   have hlen:kvs.length = vs.length:=Paired.length r
   exact wpAny_truthy_dict hS m (by omega) ⟨H,I.tok _,by rw [JeX r]; exact q⟩
 | _=>exact (show False from e).elim
theorem Jhv (ha:PE X a ta) (he:∀ whole,isTrue a X.env whole = (do let v <- whole; standAt a.pos; holding [v] (truthy v))) :
  PT X a (fun σ H Q=>ta σ H fun x H'=>∃ k,TruV X.K x H' k /\ Q k H'):=by
 intro pins s σ H Q I h
 exact isTrue_plain (thn (ha pins s σ H _ I h) fun v s1 ⟨x,H1,I1,r1,q1⟩=>JlF pins s1 σ H1 x v Q I1 r1 q1) (he _)
theorem JeQ:OpR X (binaryOp .Add) (fun x y H Q=>∃ i j,x = .str i /\ y = .str j /\ i.length + j.length <= sizeLine /\ Q (.str (i ++ j)) H):=by
 intro pins s σ H x y v u Q I rx ry h
 obtain ⟨i,j,rfl,rfl,hz,q⟩:=h
 obtain ⟨t,rfl⟩:=rx
 obtain ⟨t',rfl⟩:=ry
 exact add_str (fun t' tk=>⟨.str (i ++ j),H,I.tok _,⟨_,rfl⟩,q⟩) hz
theorem Jaz {x:V} {us:List Value} (r:Vals [x] us):∃ u,us = [u] /\ RelV x u:=by
 cases r with
 | cons r1 r2=>cases r2; exact ⟨_,rfl,r1⟩
theorem vals2 {x y:V} {us:List Value} (r:Vals [x,y] us):∃ u w',us = [u,w'] /\ RelV x u /\ RelV y w':=by
 cases r with
 | cons r1 r2=>
  cases r2 with
  | cons r3 r4=>cases r4; exact ⟨_,_,rfl,r1,r3⟩
end
end L2
namespace L2
open PySem PySem.Spec PyProof.Rows
section
variable {prog:Program} {w:World} {A:Around} {E:Value -> Shared -> Prop} {s:Shared} {K:PySem.W.Frag} {x dx C f:Addr} {mA:Str -> Option Value} {name:Str} {v:Value}
end
section
variable {P:Program} {w:World} {H H':Hp} {h h':Heap} {a C dx:Addr} {fs fs':List (Str × V)}
end
structure Cls (K:PySem.W.Frag) (C:Addr):Prop where
 pg:PySem.W.plainGet K C Str.empty = true
 hd:PySem.W.hasDictIn K C = true
 po:PySem.W.plainOver K C = true
 sa:PySem.W.findIn K (.ref C) "__setattr__" = some (some (.builtin "object.__setattr__"))
theorem Cls.get {K:PySem.W.Frag} {C:Addr} (c:Cls K C) (f:Str):PySem.W.plainGet K C f = true:=c.pg
section
variable {X:Cx} {pins:List (Addr × Obj)} {σ:St} {H:Hp} {s:Shared} {a C dx:Addr} {fs:List (Str × V)} {f:Str} {v:V} {A:Around} {E:Value -> Shared -> Prop}
end
section
variable {X:Cx} {o e value:Expr} {f:Str} {pos pos' tpos:Pos} {ta tv:TE}
end
section
variable {X:Cx} {pins:List (Addr × Obj)} {σ:St} {H:Hp} {s:Shared} {A:Around} {E:Value -> Shared -> Prop} {Q:Value -> Shared -> Prop} {c:Value} {b:Bool}
end
end L2
namespace L2
open PySem PySem.Spec PyProof.Rows
structure Room (k:Nat) (A:Around):Prop where
 hd:A.handled = none
 dp:A.depth + 3 * k + 5 < recursionLimit
 un:A.units + 16 * k + 200 < cLine
theorem Room.deeper {k:Nat} {A:Around} (r:Room (k + 1) A) (env:Env):Room k (A.deeper env):=
 ⟨r.hd,by have:=r.dp; show A.depth + 1 + 3 * k + 5 < _; omega,by have:=r.un; show A.units + 3 + 16 * k + 200 < _; omega⟩
theorem Room.in1 {k:Nat} {A:Around} (r:Room (k + 1) A):Room k A.in1:=
 ⟨r.hd,by have:=r.dp; show A.depth + 3 * k + 5 < _; omega,by have:=r.un; show A.units + 1 + 16 * k + 200 < _; omega⟩
theorem Room.depth {k:Nat} {A:Around} (r:Room k A):A.depth < recursionLimit:=by have:=r.dp; omega
theorem Room.units {k:Nat} {A:Around} (r:Room k A):A.units + 64 < cLine:=by have:=r.un; omega
def tNil:TA:=fun _ H Q=>Q [] H
def tCons (ta:TE) (tr:TA):TA:=fun σ H Q=>ta σ H fun x H1=>tr σ H1 fun xs H2=>Q (x :: xs) H2
section
variable {X:Cx} {e:Expr} {es:List Expr} {te:TE} {t:TA} {pos:Pos}
theorem JaD:PA X [] tNil:=fun _ _ _ _ H Q I h=>Calls.spliced_nil ⟨[],H,I,.nil,h⟩
theorem JD (ha:PE X e te) (hr:PA X es t) (hs:starEach (e :: es) X.env = (false,eval e X.env) :: starEach es X.env:=by rfl):PA X (e :: es) (tCons te t):=by
 intro pos pins s σ H Q I h
 rw [hs]
 show wpAny _ _ (spliced ((false,eval e X.env) :: backTo pos (starEach es X.env))) _ _ s
 refine Calls.spliced_cons (thn (ha pins s σ H _ I h) fun u s1 ⟨x,H1,I1,r1,q1⟩=>?_)
 exact thn (hr pos pins s1 σ H1 _ I1 q1) fun us s2 ⟨xs,H2,I2,r2,q2⟩=>⟨x :: xs,H2,I2,.cons r1 r2,q2⟩
def tTup (t:TA):TE:=fun σ H Q=>t σ H fun xs H1=>xs.length <= sizeLine /\ ∀ p,H1 p = none -> Q (.ref p) (upd H1 p (.tup xs))
def tLst (t:TA):TE:=fun σ H Q=>t σ H fun xs H1=>xs.length <= sizeLine /\ ∀ p,H1 p = none -> Q (.ref p) (upd H1 p (.lst xs))
theorem Jmt {x1} (h:PA X es t):PE X (.Tuple es x1 pos) (tTup t):=by
 intro pins s σ H Q I hq
 refine wpAny_Tuple_spliced (thn (h pos pins s σ H _ I hq) fun us s1 ⟨xs,H1,I1,r,z,q⟩=>⟨by rw [<- r.length]; exact z,?_⟩)
 have hf:H1 s1.heap.objs.size = none:=I1.hok.fresh (Nat.le_refl _)
 refine ⟨.ref s1.heap.objs.size,upd H1 s1.heap.objs.size (.tup xs),I1.laid (t':=s1.toks) (fun b u e=>Heap.get?_push_of_some _ e) (Nat.le_refl _) ?_,rfl,q _ hf⟩
 exact ⟨⟨z,Jei⟩,us,r,⟨_,Heap.get?_push_size _ rfl,rfl,_,rfl⟩⟩
theorem Jll (h:PA X es t):PE X (.List es pos) (tLst t):=by
 intro pins s σ H Q I hq
 refine wpAny_List_spliced (thn (h pos pins s σ H _ I hq) fun us s1 ⟨xs,H1,I1,r,z,q⟩=>⟨by rw [<- r.length]; exact z,?_⟩)
 have hf:H1 s1.heap.objs.size = none:=I1.hok.fresh (Nat.le_refl _)
 refine ⟨.ref s1.heap.objs.size,upd H1 s1.heap.objs.size (.lst xs),I1.laid (t':=s1.toks) (fun b u e=>Heap.get?_push_of_some _ e) (Nat.le_refl _) ?_,rfl,q _ hf⟩
 exact ⟨z,us,0,r,Heap.get?_push_size _ rfl⟩
end
abbrev Sp:=List V -> Hp -> VK -> XK -> Prop
abbrev CXT:=List Env -> Hp -> Shared -> XK -> Value -> Shared -> Prop
structure Env0 (P:Program) (w:World) (K:PySem.W.Frag) (mg:Str -> Option Value) (base:Heap) (A:Around) (outer:List Env) (s:Shared) (H:Hp):Prop where
 frames:A.frames = some outer
 mod:Mod K mg base
 bs:∀ b o,base.get? b = some o -> s.heap.get? b = some o /\ H b = none
 bsz:base.objs.size <= s.heap.objs.size
 funs:s.heap.FunFrames base outer
 frf:∀ b ∈ frs outer,H b = none
 hok:HOk P w H s.heap
 bare:AllBare s.gens
def CE (outer:List Env) (P:Program) (w:World) (H:Hp) (s:Shared) (Q:VK) (u:Value) (s':Shared):Prop:=
 ∃ v H',s'.os = s.os /\ AllBare s'.gens /\ Un (frs outer) [] H H' s.heap s'.heap /\ HOk P w H' s'.heap /\ RelV v u /\ Q v H'
def CR (CX:CXT) (outer:List Env) (P:Program) (w:World) (H:Hp) (s:Shared) (Q:VK) (E:XK) (r:Result) (s':Shared):Prop:=
 match r with
 | .ok (.ret u)=>CE outer P w H s Q u s'
 | .ok _=>False
 | .error e=>CX outer H s E e s'
structure FnOk (P:Program) (w:World) (K:PySem.W.Frag) (mg:Str -> Option Value) (base:Heap) (CX:CXT) (k:Nat) (f:Addr) (fd:FuncData) (ps:List Str) (sp:Sp):Prop where
 len:∀ vs H Q E,sp vs H Q E -> vs.length = ps.length
 run:∀ (A:Around) (outer:List Env) (s:Shared) (H:Hp) (args:Args) (us:List Value) (vs:List V) (Q:VK) (E:XK),Room k A -> Env0 P w K mg base A outer s H -> BindsTo s fd args (ps.zip us) -> Vals vs us -> sp vs H Q E ->
  codeAny (model P w) A (.call (.ref f) args) (CR CX outer P w H s Q E) s
theorem FnOk.imp {P:Program} {w:World} {K:PySem.W.Frag} {mg:Str -> Option Value} {base:Heap} {CX:CXT} {k:Nat} {f:Addr} {fd:FuncData} {ps:List Str} {sp sp':Sp} (F:FnOk P w K mg base CX k f fd ps sp)
  (h:∀ vs H Q E,sp' vs H Q E -> sp vs H Q E):FnOk P w K mg base CX k f fd ps sp':=
 ⟨fun vs H Q E q=>F.len vs H Q E (h _ _ _ _ q),fun A outer s H args us vs Q E hr he hb hv hs=>F.run A outer s H args us vs Q E hr he hb hv (h _ _ _ _ hs)⟩
section
variable {X:Cx} {pins:List (Addr × Obj)} {σ:St} {H:Hp} {s s':Shared}
theorem Inv.env0 (I:Inv X pins σ H s):Env0 X.prog X.w X.K X.mg X.base X.A X.stack s H:=
 ⟨I.ok.frames,I.ok.mod,I.bs,Nat.le_trans I.ok.bsz I.sz,I.stack,I.stkFree,I.hok,I.bare⟩
theorem Inv.after {Q:VK} {u:Value} (I:Inv X pins σ H s) (h:CE X.stack X.prog X.w H s Q u s'):EP X pins σ Q u s':=by
 obtain ⟨v,H',os,bare,un,hok,r,q⟩:=h
 obtain ⟨hh,g,d,t,os'⟩:=s'
 obtain rfl:os' = s.os:=os
 exact ⟨v,H',I.call (h':=hh) (g':=g) (d':=d) (t':=t) (ch:=[]) un hok bare (fun b z=>absurd z (by simp)),r,q⟩
end
def tCall (sp:Sp) (dvs:List V) (E:XK) (t:TA):TE:=fun σ H Q=>t σ H fun vs H1=>sp (vs ++ dvs) H1 Q E
def Binds (K:PySem.W.Frag) (fd:FuncData) (ps:List Str) (ds:List Value):Prop:=
 ∀ (s:Shared) (us:List Value),K.In s.heap -> (us ++ ds).length = ps.length -> BindsTo s fd ⟨us,[]⟩ (ps.zip (us ++ ds))
theorem Binds.all {K:PySem.W.Frag} {fd:FuncData} {ps:List Str} (h:∀ us:List Value,us.length = ps.length -> bindArgs fd ⟨us,[]⟩ = pure (ps.zip us)):Binds K fd ps []:=fun s us _ hl=>by
 rw [List.append_nil] at hl ⊢
 exact .of_eq (h us hl)
def Passes (CX:CXT) (X:Cx) (E:XK):Prop:=∀ (pins:List (Addr × Obj)) (σ:St) (H:Hp) (s:Shared) (e:Value) (s':Shared),Inv X pins σ H s -> CX X.stack H s E e s' -> X.xe e s'
section
variable {X:Cx} {CX:CXT} {k:Nat} {f C:Addr} {fd:FuncData} {ps:List Str} {sp:Sp} {dvs:List V} {ds:List Value} {E:XK} {x m:Str} {p pos apos:Pos} {e o:Expr} {es:List Expr} {ta:TE} {t:TA}
theorem JiY {pins:List (Addr × Obj)} {σ:St} {H:Hp} {s:Shared} {Q:VK} {us:List Value} {vs:List V} (F:FnOk X.prog X.w X.K X.mg X.base CX k f fd ps sp) (hr:Room k X.A) (hb:Binds X.K fd ps ds) (hd:Vals dvs ds) (hx:Passes CX X E)
  (I:Inv X pins σ H s) (r:Vals vs us) (h:sp (vs ++ dvs) H Q E):wpAny (model X.prog X.w) X.A (call (.ref f) us) (EP X pins σ Q) X.xe s:=by
 have r2:Vals (vs ++ dvs) (us ++ ds):=r.append hd
 have hl:(us ++ ds).length = ps.length:=by rw [<- r2.length]; exact F.len _ _ _ _ h
 refine wpAny_call (codeAny_mono (F.run X.A X.stack s H ⟨us,[]⟩ (us ++ ds) (vs ++ dvs) Q E hr I.env0 (hb s us I.kIn hl) r2 h) fun r s' hq=>?_)
 cases r with
 | error e=>exact hx pins σ H s e s' I hq
 | ok fl=>
  cases fl with
  | ret u=>exact I.after hq
  | next=>exact False.elim hq
  | brk=>exact False.elim hq
  | cont=>exact False.elim hq
theorem JjZ (F:FnOk X.prog X.w X.K X.mg X.base CX k f fd ps sp) (hr:Room k X.A) (hg:Gl X x) (hm:X.mg x = some (.ref f)) (hk:PySem.W.keepIn X.K (.ref f) = true) (hb:Binds X.K fd ps ds) (hd:Vals dvs ds) (hx:Passes CX X E)
  (ha:PA X (e :: es) t) (hdb:(x == ("__debug__" : Str)) = false:=by decide) (he:starEach (e :: es) X.env = (false,eval e X.env) :: starEach es X.env:=by rfl) (hpl:(backTo pos (starEach es X.env)).any (·.1) = false:=by rfl) :
  PE X (.Call (.Name x p) (e :: es) [] pos) (tCall sp dvs E t):=by
 intro pins s σ H Q I h
 refine wpAny_Call_Name_kw (JcV I hg hm ?_ hdb)
 refine PySem.W.callWith_K (h₀:=X.base) I.ok.mod.kin hk (thn (ha pos pins s σ H _ I h) fun us s1 ⟨vs,H1,I1,r,q⟩=>⟨I1.kIn,?_⟩) he hpl
 exact JiY F hr hb hd hx I1 r q
end
section
variable {X:Cx} {CX:CXT} {k:Nat} {f C:Addr} {fd:FuncData} {ps ks:List Str} {sp:Sp} {E:XK} {x m:Str} {p pos apos kpos:Pos} {e o:Expr} {es:List Expr} {kws:List Keyword} {te ta:TE} {t tk:TA} {nm:Option Str}
variable {g:List Value -> List Value -> List Value} {gV:List V -> List V -> List V}
end
structure FnScope (N P:List Str) (sc:Scope):Prop where
 kind:sc.kind = .function
 co:sc.isCoroutine = false
 gen:sc.isGenerator = false
 nd:N.Nodup
 pre:N.take P.length = P
 par:∀ x ∈ P,sc.names.lookup x = some .local \/ sc.names.lookup x = some .cell
 nofree:∀ y ∈ sc.names,y.2 ≠ .free
theorem Jcg {kindOf:Str -> Option NameKind} {x:Str}:∀ {binds:List (Str × Value)} {m:Str -> Option Value},(∀ v,(x,v) ∉ binds) -> bindL kindOf binds m x = m x
 | [],_,_=>rfl
 | (n,v) :: r,m,h=>by
  unfold bindL
  rw [Jcg fun w hw=>h w (List.mem_cons_of_mem _ hw)]
  split
  ·have:x ≠ n:=by rintro rfl; exact h v List.mem_cons_self
   simp [this]
  ·rfl
theorem JcM {kindOf:Str -> Option NameKind} {x:Str}:∀ {binds:List (Str × Value)} {m:Str -> Option Value},(∀ v,(x,v) ∉ binds) -> bindC kindOf binds m x = m x
 | [],_,_=>rfl
 | (n,v) :: r,m,h=>by
  unfold bindC
  rw [JcM fun w hw=>h w (List.mem_cons_of_mem _ hw)]
  split
  ·rfl
  ·have:x ≠ n:=by rintro rfl; exact h v List.mem_cons_self
   simp [this]
theorem Jct {kindOf:Str -> Option NameKind} {x:Str} {v:Value}:∀ {P:List Str} {vs:List Value} {i:Nat} {m:Str -> Option Value},P.Nodup -> P[i]? = some x -> vs[i]? = some v -> kindOf x = some .local ->
  bindL kindOf (P.zip vs) m x = some v
 | [],_,_,_,_,h,_,_=>by simp at h
 | _ :: _,[],_,_,_,_,h,_=>by simp at h
 | p :: P,w :: vs,0,m,nd,h1,h2,hk=>by
  simp at h1 h2; subst h1; subst h2
  show bindL kindOf ((p,w) :: P.zip vs) m p = _
  unfold bindL
  rw [Jcg fun v hv=>(List.nodup_cons.mp nd).1 (List.of_mem_zip hv).1,if_pos hk]
  simp
 | p :: P,w :: vs,i + 1,m,nd,h1,h2,hk=>by
  show bindL kindOf ((p,w) :: P.zip vs) m x = _
  unfold bindL
  exact Jct (i:=i) (List.nodup_cons.mp nd).2 (by simpa using h1) (by simpa using h2) hk
theorem Jcz {kindOf:Str -> Option NameKind} {x:Str} {v:Value}:∀ {P:List Str} {vs:List Value} {i:Nat} {m:Str -> Option Value},P.Nodup -> P[i]? = some x -> vs[i]? = some v -> kindOf x ≠ some .local ->
  bindC kindOf (P.zip vs) m x = some v
 | [],_,_,_,_,h,_,_=>by simp at h
 | _ :: _,[],_,_,_,_,h,_=>by simp at h
 | p :: P,w :: vs,0,m,nd,h1,h2,hk=>by
  simp at h1 h2; subst h1; subst h2
  show bindC kindOf ((p,w) :: P.zip vs) m p = _
  unfold bindC
  rw [JcM fun v hv=>(List.nodup_cons.mp nd).1 (List.of_mem_zip hv).1,if_neg hk]
  simp
 | p :: P,w :: vs,i + 1,m,nd,h1,h2,hk=>by
  show bindC kindOf ((p,w) :: P.zip vs) m x = _
  unfold bindC
  exact Jcz (i:=i) (List.nodup_cons.mp nd).2 (by simpa using h1) (by simpa using h2) hk
def start (N:List Str) (vs:List V):St:=vs.map some ++ List.replicate (N.length - vs.length) none
def cxOf (CX:CXT) (P:Program) (w:World) (K:PySem.W.Frag) (mg:Str -> Option Value) (base:Heap) (N:List Str) (qual:Str) (scope:Scope) (f:Addr) (cd:Value) (A:Around) (outer:List Env) (s:Shared) (H:Hp) (E:XK):Cx where
 prog:=P
 w:=w
 K:=K
 mg:=mg
 base:=base
 A:=A.deeper (envOfC qual scope s.heap.objs.size f cd)
 N:=N
 s₀:=s
 H₀:=H
 env:=envOfC qual scope s.heap.objs.size f cd
 outer:=outer
 stack:=envOfC qual scope s.heap.objs.size f cd :: outer
 ex:=[]
 calm:=true
 fn:=fun _=>true
 pn:=[]
 xe:=fun e s'=>wpAny (model P w) (A.deeper (envOfC qual scope s.heap.objs.size f cd)) (leaving (envOfC qual scope s.heap.objs.size f cd) e) (fun _ s''=>CX outer H s E e s'') (fun e' s''=>CX outer H s E e' s'') s'
theorem JdB {sc:Scope} {n:Nat} {x:Str} (h:sc.names.lookup x = some .cell):∃ c,(cellsFrom n sc.names []).lookup x = some c:=by
 have q:=PySem.W.cellsFrom_some sc.names n [] (.inl h)
 exact Option.isSome_iff_exists.mp q
theorem JgH {CX:CXT} {P:Program} {w:World} {K:PySem.W.Frag} {mg:Str -> Option Value} {base:Heap} {N ps:List Str} {qual:Str} {scope:Scope} {f:Addr} {cd:Value} {A:Around} {outer:List Env} {s s1:Shared} {H:Hp} {E:XK} {us:List Value} {vs:List V}
  (S:FnScope N ps scope) (hd:A.handled = none) (e0:Env0 P w K mg base A outer s H) (hl:vs.length = ps.length) (r:Vals vs us)
  (x:InCallC s s.heap.objs.size (bindL (envOfC qual scope s.heap.objs.size f cd).kindOf (ps.zip us) fun _=>none) (cellsFrom (s.heap.objs.size + 1) scope.names []) (bindC (envOfC qual scope s.heap.objs.size f cd).kindOf (ps.zip us) fun _=>none) s1) :
  Inv (cxOf CX P w K mg base N qual scope f cd A outer s H E) [] (start N vs) H s1:=by
 have hpl:ps.length <= N.length:=by have:=congrArg List.length S.pre; rw [List.length_take] at this; omega
 obtain ⟨h1,tk,rfl,hk⟩:=x.done
 have noA:∀ b:Addr,b ∉ (cxOf CX P w K mg base N qual scope f cd A outer s H E).ex:=fun b z=>absurd (show b ∈ ([]:List Addr) from z) (by simp)
 refine ⟨⟨e0.mod,S.kind,rfl,rfl,Nat.le_refl _,fun y z c h1 h2=>?_,fun y hy=>?_,fun y c _ h=>?_,fun _=>hd,Around.frames_deeper e0.frames,.inr ⟨rfl,rfl⟩,fun b z=>absurd z (noA b),e0.bs,e0.bsz,fun b _ _=>noA b,fun b z=>absurd z (noA b),e0.funs,e0.frf⟩,
  rfl,e0.bare,Un.kept hk,⟨_,x.toInCall.ns,fun i y v h1 h2 h3=>?_⟩,fun y c h=>⟨_,x.cell y c h⟩,e0.hok.fresh (Nat.le_refl _),fun y c h=>?_,fun p hp=>absurd (show p ∈ ([]:List (Addr × Obj)) from hp) (by simp),e0.hok.kept hk,?_⟩
 ·exact name_of_addr x.apart (PySem.mem_of_lookup h1) (PySem.mem_of_lookup h2)
 ·have hy:scope.names.lookup y = some .cell \/ scope.names.lookup y = some .free:=hy
  rcases hy with hy | hy
  ·exact JdB hy
  ·exact absurd rfl (S.nofree _ (PySem.mem_of_lookup hy))
 ·exact Nat.le_of_lt (x.above y c (PySem.mem_of_lookup h))
 ·have hi:i < vs.length:=by
   unfold start at h2
   by_cases hi:i < vs.length
   ·exact hi
   ·rw [List.getElem?_append_right (by simpa using hi)] at h2
    rw [List.getElem?_replicate] at h2
    split at h2 <;> cases h2
  have ha:vs[i]? = some v:=by
   unfold start at h2
   rw [List.getElem?_append_left (by simpa using hi),List.getElem?_map] at h2
   cases e:vs[i]? with
   | none=>rw [e] at h2; cases h2
   | some a=>rw [e] at h2; cases h2; rfl
  obtain ⟨u,hu,rv⟩:=r.get ha
  have hp:ps[i]? = some y:=by
   rw [<- S.pre,List.getElem?_take_of_lt (by omega)]; exact h1
  have ndP:ps.Nodup:=by rw [<- S.pre]; exact S.nd.sublist (List.take_sublist _ _)
  refine ⟨u,rv,?_⟩
  rcases S.par y (List.mem_of_getElem? hp) with k | k
  ·exact .inl ⟨k,Jct ndP hp hu k⟩
  ·obtain ⟨c,e⟩:=JdB (n:=s.heap.objs.size + 1) k
   refine .inr ⟨.inl k,c,e,?_⟩
   have q:=x.cell y c e
   rw [Jcz ndP hp hu (by show scope.names.lookup y ≠ _; rw [k]; decide)] at q
   exact q
 ·exact e0.hok.fresh (Nat.le_of_lt (x.above y c (PySem.mem_of_lookup h)))
 ·unfold start
  show _ = N.length
  rw [List.length_append,List.length_map,List.length_replicate]
  omega
theorem fn_of {CX:CXT} {P:Program} {w:World} {K:PySem.W.Frag} {mg:Str -> Option Value} {base:Heap} {k:Nat} {f:Addr} {name qual:Str} {params:Arguments} {body:List Stmt} {scope:Scope} {dV kV doc pm cdv ct oc:Value} {an od:Option Addr}
  {osl:Array (Option Value)} {N ps:List Str} {sp:Sp} (lk:K.lookup f = some ⟨oc,od,.func (PySem.W.fnOf name qual params body scope dV kV doc pm an cdv ct),osl⟩) (hcd:PySem.W.codeIn K cdv qual = true) (S:FnScope N ps scope)
  (len:∀ vs H Q E,sp vs H Q E -> vs.length = ps.length)
  (hbody:∀ (A:Around) (outer:List Env) (s:Shared) (H:Hp) (vs:List V) (Q:VK) (E:XK),Room k (A.deeper (envOfC qual scope s.heap.objs.size f cdv)) -> sp vs H Q E ->
   ∃ t,PSs (cxOf CX P w K mg base N qual scope f cdv A outer s H E) body t /\ t { nx:=fun _ H'=>Q .non H',rt:=Q } (start N vs) H) :
  FnOk P w K mg base CX (k + 1) f (PySem.W.fnOf name qual params body scope dV kV doc pm an cdv ct) ps sp:=by
 refine ⟨len,fun A outer s H args us vs Q E hr e0 hb r hsp=>?_⟩
 have hl:=len _ _ _ _ hsp
 have KX:K.In s.heap:=e0.mod.kin.keeps fun b o e=>(e0.bs b o e).1
 have lim:s.heap.NoLimit:=e0.mod.nolimit.keeps fun b o e=>(e0.bs b o e).1
 have hkind:∀ y ∈ ps.zip us,scope.names.lookup y.1 = some .local \/ (scope.names.lookup y.1 = some .cell /\ ((cellsFrom (s.heap.objs.size + 1) scope.names []).lookup y.1).isSome = true):=fun ⟨n,v⟩ hy=>by
  rcases S.par n (List.of_mem_zip hy).1 with q | q
  ·exact .inl q
  ·exact .inr ⟨q,PySem.W.cellsFrom_some _ _ _ (.inl q)⟩
 refine codeAny_call_function hr.depth (KX _ _ lk) rfl S.co S.gen rfl (PySem.W.codeRec_of KX hcd) (hb _ _ _ _ ?_)
 refine wpAny_newFunctionEnv_cells S.kind hkind fun env he s1 x=>?_
 subst he
 refine ⟨lim.keeps x.toInCall.keep,codeAny_func ?_⟩
 obtain ⟨t,ht,hq⟩:=hbody A outer s H vs Q E (hr.deeper _) hsp
 have I:Inv (cxOf CX P w K mg base N qual scope f cdv A outer s H E) [] (start N vs) H s1:=JgH S hr.hd e0 hl r x
 refine wpAny_mono (ht [] s1 (start N vs) H _ I hq) (fun fl s' hs=>?_) fun e s' hs=>hs
 have fin:∀ {σ':St} {H':Hp} {v:V} {u:Value},Inv (cxOf CX P w K mg base N qual scope f cdv A outer s H E) [] σ' H' s' -> RelV v u -> Q v H' -> CE outer P w H s Q u s':=
  fun {σ' H' v u} J rv q=>⟨v,H',J.os,J.bare,J.base,J.hok,rv,q⟩
 cases fl with
 | ret u=>
  obtain ⟨v,σ',H',J,rv,q⟩:=hs
  exact fin J rv q
 | next=>
  obtain ⟨σ',H',J,q⟩:=hs
  exact fin (v:=V.non) (u:=Value.none) J rfl q
 | brk=>
  obtain ⟨_,_,_,q⟩:=hs
  exact False.elim q
 | cont=>
  obtain ⟨_,_,_,q⟩:=hs
  exact False.elim q
end L2
namespace L2
open PySem PySem.Spec PyProof.Rows
section
variable {X:Cx} {x:Str} {p pos:Pos} {e:Expr} {es:List Expr} {t:TA} {id T:String} {r:List V -> Hp -> VK -> Prop}
def tCB (r:List V -> Hp -> VK -> Prop) (t:TA):TE:=fun σ H Q=>t σ H fun vs H1=>r vs H1 Q
theorem JdI (hc:CallR X (.builtin id) r) (hg:Gl X x) (hm:X.mg x = none) (hv:bootBuiltins x = some (.builtin id)) (ha:PA X (e :: es) t) (hn:x ≠ "__name__":=by decide) (hdb:(x == ("__debug__" : Str)) = false:=by decide)
  (he:starEach (e :: es) X.env = (false,eval e X.env) :: starEach es X.env:=by rfl) (hpl:(backTo pos (starEach es X.env)).any (·.1) = false:=by rfl):PE X (.Call (.Name x p) (e :: es) [] pos) (tCB r t):=by
 intro pins s σ H Q I h
 refine wpAny_Call_Name_kw (Jbx I hg hm hv ?_ hn hdb)
 exact PyProof.Rows.callWith_builtin1 (thn (ha pos pins s σ H _ I h) fun us s1 ⟨vs,H1,I1,r1,q1⟩=>hc pins s1 σ H1 vs us Q I1 r1 q1) he hpl
theorem Jce (hc:CallR X (.type T) r) (hg:Gl X x) (hm:X.mg x = none) (hv:bootBuiltins x = some (.type T)) (ha:PA X (e :: es) t) (hn:x ≠ "__name__":=by decide) (hdb:(x == ("__debug__" : Str)) = false:=by decide)
  (he:starEach (e :: es) X.env = (false,eval e X.env) :: starEach es X.env:=by rfl) (hpl:(backTo pos (starEach es X.env)).any (·.1) = false:=by rfl):PE X (.Call (.Name x p) (e :: es) [] pos) (tCB r t):=by
 intro pins s σ H Q I h
 refine wpAny_Call_Name_kw (Jbx I hg hm hv ?_ hn hdb)
 exact PyProof.Rows.callWith_type1 (thn (ha pos pins s σ H _ I h) fun us s1 ⟨vs,H1,I1,r1,q1⟩=>hc pins s1 σ H1 vs us Q I1 r1 q1) he hpl
end
end L2
namespace HT
open PySem PyProof.Rows
section
open PySem.SeqAt
open PySem.AutoSeq1 (wpAny_loadPart')
open PySem.MeetsSeq PySem.MeetsSeq2 PySem.MeetsSeq3
end
section
variable {prog:Program} {w:World} {A:Around} {E:Value -> Shared -> Prop} {s:Shared}
theorem JjE {t b:Addr} {vs ws:List Value} {Q:Value -> Shared -> Prop} (ht:IsTup s.heap t vs.toArray) (hb:IsTup s.heap b ws.toArray) (hv:vs ≠ [])
  (h1:ws = [] -> Q (.ref t) s) (h2:ws ≠ [] -> Q (.ref s.heap.objs.size) { s with heap:=s.heap.push { cls:=.type "tuple",data:=.seq (vs ++ ws).toArray } })
  (hsz:vs.length + ws.length <= sizeLine):wpAny (model prog w) A (binaryOp .Add (.ref t) (.ref b)) Q E s:=by
 obtain ⟨⟨cls,dd,data,sl⟩,ho,hc,n,hd⟩:=id ht
 obtain ⟨⟨cls2,dd2,data2,sl2⟩,ho2,hc2,n2,hd2⟩:=id hb
 simp only at hc hd hc2 hd2
 subst hc hd hc2 hd2
 have e:vs.toArray ++ ws.toArray = (vs ++ ws).toArray:=by simp
 by_cases hw:ws = []
 ·exact concat_meets ⟨_,ho,rfl⟩ ⟨_,ho2,rfl⟩ noFill_tuple_add seq_tuple_add PySem.F.slot_tuple_add PySem.F.entry_tuple_add (PySem.F.args_tuple_add_2 _ _)
   (tuple_addW1 t b vs.toArray ws.toArray n n2 dd dd2 sl sl2 (by simpa using hv) (by simp [hw])) ⟨ho,ho2,h1 hw⟩
 ·refine concat_meets ⟨_,ho,rfl⟩ ⟨_,ho2,rfl⟩ noFill_tuple_add seq_tuple_add PySem.F.slot_tuple_add PySem.F.entry_tuple_add (PySem.F.args_tuple_add_2 _ _)
   (tuple_addW2 t b vs.toArray ws.toArray n n2 dd dd2 sl sl2 (by simpa using hv) (by simpa using hw) (by rw [List.size_toArray,List.size_toArray]; exact hsz)) ⟨ho,ho2,?_⟩
  rw [e]
  exact h2 hw
def sIx (n d:Nat):Option Int -> Nat
 | none=>d
 | some v=>if v < 0 then (v + (n:Int)).toNat else min v.toNat n
theorem JkO (n d:Nat) (hd:d <= n) (o:Option Int):sIx n d o <= n:=by
 cases o with
 | none=>exact hd
 | some v=>
  show (if v < 0 then (v + (n:Int)).toNat else min v.toNat n) <= n
  by_cases hv:v < 0
  ·rw [if_pos hv]; omega
  ·rw [if_neg hv]; exact Nat.min_le_right _ _
theorem JfO (v:Int) (n d:Nat):(if v < 0 then max (v + (n:Int)) 0 else min v (n:Int)) = ((sIx n d (some v):Nat):Int):=by
 show (if v < 0 then max (v + (n:Int)) 0 else min v (n:Int)) = (((if v < 0 then (v + (n:Int)).toNat else min v.toNat n):Nat):Int)
 by_cases hv:v < 0
 ·simp only [if_pos hv]; omega
 ·simp only [if_neg hv]; omega
theorem Jfb (lo hi:Option Int) (n:Nat):Builtin.Slice.sliceAdjust lo hi 1 (n:Int) = (((sIx n 0 lo:Nat):Int),((sIx n n hi:Nat):Int)):=by
 have h1:¬ ((1:Int) < 0):=by omega
 unfold Builtin.Slice.sliceAdjust
 simp only [h1,if_false]
 refine Prod.ext ?_ ?_
 ·cases lo with
  | none=>rfl
  | some v=>exact JfO v n 0
 ·cases hi with
  | none=>rfl
  | some v=>exact JfO v n n
theorem JeU (i j:Nat):Builtin.Slice.slicePlaces (i:Int) (j:Int) 1 = j - i:=by
 unfold Builtin.Slice.slicePlaces
 have h1:(1:Int) > 0:=by omega
 simp only [h1,if_true,Int.ediv_one]
 split <;> omega
theorem Jbm {v:Value} {o:Option Int} {Q:Option Int -> Shared -> Prop} (p:IsPart v o) (h:Q o s):wpAny (model prog w) A (Builtin.Slice.slicePartIndex v) Q E s:=by
 cases p with
 | none=>exact slicePart_none h
 | int i t=>exact slicePart_int h
theorem JB {sl:Addr} {vl vu:Value} {lo hi:Option Int} {n:Nat} {Q:Int × Int × Nat -> Shared -> Prop} (hs:s.heap.IsSliceOf sl vl vu .none) (pl:IsPart vl lo) (pu:IsPart vu hi)
  (h:Q (((sIx n 0 lo:Nat):Int),1,sIx n n hi - sIx n 0 lo) s):wpAny (model prog w) A (Builtin.Slice.sliceApplied (.ref sl) (pure (n:Int))) Q E s:=by
 obtain ⟨os,hos,hcs,hds⟩:=id hs
 unfold Builtin.Slice.sliceApplied Builtin.Slice.sliceFields
 refine wpAny_bind (wpAny_bind (wpAny_field hos hds (x:=vl) rfl (wpAny_bind (wpAny_field hos hds (x:=vu) rfl (wpAny_bind (wpAny_field hos hds (x:=.none) rfl (wpAny_pure ?_)))))))
 refine wpAny_bind (slicePart_none ?_)
 show wpAny _ _ (if ((1:Int) == 0) = true then _ else _) _ _ s
 rw [if_neg (by decide)]
 refine wpAny_bind (Jbm pl (wpAny_bind (Jbm pu (wpAny_bind (wpAny_pure ?_)))))
 show wpAny _ _ (match Builtin.Slice.sliceAdjust lo hi 1 (n:Int) with | (lo,hi)=>pure (lo,(1:Int),Builtin.Slice.slicePlaces lo hi 1)) _ _ s
 rw [Jfb lo hi n]
 show wpAny _ _ (pure (((sIx n 0 lo:Nat):Int),(1:Int),Builtin.Slice.slicePlaces ((sIx n 0 lo:Nat):Int) ((sIx n n hi:Nat):Int) 1)) _ _ s
 rw [JeU]
 exact wpAny_pure h
theorem JiH (xs:Array Value) (i k:Nat):((List.range k).filterMap fun (m:Nat)=>xs[((i:Int) + (m:Int) * 1).toNat]?).toArray = ((xs.toList.drop i).take k).toArray:=by
 have e:(fun (m:Nat)=>xs[((i:Int) + (m:Int) * 1).toNat]?) = fun m=>xs[i + m]?:=by
  funext m
  have:((i:Int) + (m:Int) * 1).toNat = i + m:=by omega
  rw [this]
 rw [e]
 have:=pick_run xs i k
 rw [List.filterMap_map] at this
 have e2:((fun x=>xs[x]?) ∘ fun x=>i + x) = fun m=>xs[i + m]?:=rfl
 rw [e2] at this
 rw [this]
theorem Jap {t sl:Addr} {items:Array Value} {vl vu:Value} {lo hi:Option Int} {Q:Value -> Shared -> Prop} (ht:IsTup s.heap t items) (hs:s.heap.IsSliceOf sl vl vu .none) (pl:IsPart vl lo) (pu:IsPart vu hi)
  (hw:¬ (sIx items.size 0 lo = 0 /\ sIx items.size items.size hi = items.size))
  (h:Q (.ref s.heap.objs.size) { s with heap:=s.heap.push { cls:=.type "tuple",data:=.seq ((items.toList.drop (sIx items.size 0 lo)).take (sIx items.size items.size hi - sIx items.size 0 lo)).toArray } })
  (hsz:items.size <= sizeLine):wpAny (model prog w) A (getItem (.ref t) (.ref sl)) Q E s:=by
 have htake:sizeOk (.seq ((items.toList.drop (sIx items.size 0 lo)).take (sIx items.size items.size hi - sIx items.size 0 lo)).toArray):=by
  show ((items.toList.drop (sIx items.size 0 lo)).take (sIx items.size items.size hi - sIx items.size 0 lo)).toArray.size <= sizeLine
  rw [List.size_toArray,List.length_take,List.length_drop,Array.length_toList]
  omega
 have hj:sIx items.size items.size hi <= items.size:=JkO _ _ (Nat.le_refl _) hi
 obtain ⟨os,hos,hcs,hds⟩:=id hs
 have hTs:s.TypeIs (.ref sl) "slice":=⟨os,hos,hcs⟩
 unfold getItem
 try with_reducible refine wpAny_holding ?_
 first | refine wpAny_bind (wpAny_pure ?_) | skip
 refine wpAny_bind (wpAny_sequenceKey ht.typeIs (by decide) ?_)
 refine wpAny_bind (wpAny_callSpecial?_slot (name:=Str.ofString "__getitem__") ht.typeIs PyProof.Rows.slot_tuple_getitem
  (wpAny_call_entry PyProof.Rows.slot_tuple_getitem ht.typeIs entry_tuple_getitem ?_ (args_tuple_getitem _ _)))
 show wpAny _ _ (Builtin.Tuple.tupleItemsOf (.ref t) >>= _) _ _ s
 refine wpAny_bind (tupleItemsOf_ ht ?_)
 refine wpAny_bind (wpAny_typeOf hTs ?_)
 rw [if_pos (by decide)]
 refine wpAny_bind (JB hs pl pu ?_)
 have hno:¬ ((((sIx items.size 0 lo:Nat):Int) == 0 && (1:Int) == 1 && (sIx items.size items.size hi - sIx items.size 0 lo) == items.size) = true):=by
  intro q
  rw [Bool.and_eq_true,Bool.and_eq_true] at q
  have q1:((sIx items.size 0 lo:Nat):Int) = 0:=eq_of_beq q.1.1
  have q2:sIx items.size items.size hi - sIx items.size 0 lo = items.size:=eq_of_beq q.2
  exact hw ⟨by omega,by omega⟩
 show wpAny _ _ (if (((sIx items.size 0 lo:Nat):Int) == 0 && (1:Int) == 1 && (sIx items.size items.size hi - sIx items.size 0 lo) == items.size) = true then _ else _) _ _ s
 rw [if_neg hno,JiH]
 first
  | exact wpAny_bind (m:=Builtin.Tuple.tupleExact _) (wpAny_newObj_type (wpAny_pure ⟨_,rfl,wpAny_pure h⟩) htake)
  | exact wpAny_bind (m:=Builtin.Tuple.tupleExact _) (wpAny_newObj_type (wpAny_bind (wpAny_pure (wpAny_pure ⟨_,rfl,wpAny_pure h⟩))) htake)
  | exact wpAny_bind (wpAny_bind (m:=Builtin.Tuple.tupleExact _) (wpAny_newObj_type (wpAny_pure (wpAny_pure ⟨_,rfl,wpAny_pure h⟩)) htake))
  | exact wpAny_bind (wpAny_bind (m:=Builtin.Tuple.tupleExact _) (wpAny_newObj_type (wpAny_pure ⟨_,rfl,wpAny_pure h⟩) htake))
end
end HT
namespace L2
open PySem PySem.Spec PyProof.Rows
abbrev TO:=St -> Hp -> (Option Int -> Hp -> Prop) -> Prop
def PO (X:Cx) (e:Option Expr) (t:TO):Prop:=
 ∀ (pins:List (Addr × Obj)) (s:Shared) (σ:St) (H:Hp) (Q:Option Int -> Hp -> Prop),Inv X pins σ H s -> t σ H Q ->
  wpAny (model X.prog X.w) X.A (evalPart e X.env) (fun u s'=>∃ o H',Inv X pins σ H' s' /\ IsPart u o /\ Q o H') X.xe s
def tNoPart:TO:=fun _ H Q=>Q none H
def tPart (t:TE):TO:=fun σ H Q=>t σ H fun x H1=>∃ i,x = .int i /\ Q (some i) H1
section
variable {X:Cx} {e:Expr} {te:TE} {lo hi:Option Expr} {tl th:TO} {pos p2:Pos}
theorem Jjy:PO X none tNoPart:=by
 intro pins s σ H Q I h
 rw [evalPart_none]
 exact wpAny_pure ⟨none,H,I,.none,h⟩
theorem JjG (h:PE X e te):PO X (some e) (tPart te):=by
 intro pins s σ H Q I hw
 rw [evalPart_some]
 refine thn (h pins s σ H _ I hw) fun u s1 ⟨x,H1,I1,r1,q1⟩=>?_
 obtain ⟨i,rfl,q⟩:=q1
 obtain ⟨t,rfl⟩:=r1
 exact ⟨some i,H1,I1,.int i t,q⟩
def SlR (X:Cx) (r:V -> Option Int -> Option Int -> Hp -> VK -> Prop):Prop:=
 ∀ (pins:List (Addr × Obj)) (s:Shared) (σ:St) (H:Hp) (x:V) (v vl vu:Value) (lo hi:Option Int) (sl:Addr) (Q:VK),Inv X pins σ H s -> RelV x v -> s.heap.IsSliceOf sl vl vu .none -> IsPart vl lo -> IsPart vu hi -> r x lo hi H Q ->
  ∃ T id,typeLookup (.type T) "__getitem__" = pure (some (.builtin id)) /\ s.TypeIs v T /\ wpAny (model X.prog X.w) X.A (getItem v (.ref sl)) (EP X pins σ Q) X.xe s
def tSl (r:V -> Option Int -> Option Int -> Hp -> VK -> Prop) (te:TE) (tl th:TO):TE:=fun σ H Q=>te σ H fun x H1=>tl σ H1 fun l H2=>th σ H2 fun u H3=>r x l u H3 Q
theorem JiD {r:V -> Option Int -> Option Int -> Hp -> VK -> Prop} (hr:SlR X r) (he:PE X e te) (hl:PO X lo tl) (hu:PO X hi th):PE X (.Subscript e (.Slice lo hi none p2) pos) (tSl r te tl th):=by
 intro pins s σ H Q I h
 refine Subscript_ (thn (he pins s σ H _ I h) fun v s1 ⟨x,H1,I1,r1,q1⟩=>?_)
 refine wpAny_Slice (thn (hl pins s1 σ H1 _ I1 q1) fun vl s2 ⟨l,H2,I2,pl,q2⟩=>thn (hu pins s2 σ H2 _ I2 q2) fun vu s3 ⟨u,H3,I3,pu,q3⟩=>?_)
 rw [evalPart_none]
 refine wpAny_pure ?_
 have I4:Inv X pins σ H3 { s3 with heap:=s3.heap.push { cls:=.type "slice",data:=.fields #[vl,vu,.none] } }:=I3.kept (t':=s3.toks) fun b ob q=>Heap.get?_push_of_some _ q
 obtain ⟨T,id,hT,ht,hg⟩:=hr pins { s3 with heap:=s3.heap.push { cls:=.type "slice",data:=.fields #[vl,vu,.none] } } σ H3 x v vl vu l u s3.heap.objs.size Q I4 r1 (Heap.IsSliceOf.new ..) pl pu q3
 show wpAny (model X.prog X.w) X.A (subscriptTail e (.Slice lo hi none p2) v (.ref s3.heap.objs.size)) (EP X pins σ Q) X.xe { s3 with heap:=s3.heap.push { cls:=.type "slice",data:=.fields #[vl,vu,.none] } }
 exact tail_any (ops:=[.ref s3.heap.objs.size,v]) ht hT hg (by with_unfolding_all rfl)
def cutV (xs:List V) (lo hi:Option Int):List V:=(xs.drop (HT.sIx xs.length 0 lo)).take (HT.sIx xs.length xs.length hi - HT.sIx xs.length 0 lo)
theorem Jbg (xs:List V) (lo hi:Option Int):(cutV xs lo hi).length <= xs.length:=by
 unfold cutV
 rw [List.length_take,List.length_drop]
 omega
def rSlT (K:PySem.W.Frag):V -> Option Int -> Option Int -> Hp -> VK -> Prop:=fun x lo hi H Q=>∃ a xs,x = .ref a /\ SqT K H a xs /\
 ¬ (HT.sIx xs.length 0 lo = 0 /\ HT.sIx xs.length xs.length hi = xs.length) /\ ∀ p,H p = none -> Q (.ref p) (upd H p (.tup (cutV xs lo hi)))
theorem JmD:SlR X (rSlT X.K):=by
 intro pins s σ H x v vl vu lo hi sl Q I rx hs pl pu h
 obtain ⟨a,xs,rfl,hx,hw,q⟩:=h
 cases rx
 obtain ⟨its,r,ht,hz⟩:=I.tuple hx
 have hlen:its.toArray.size = xs.length:=by rw [List.size_toArray]; exact r.length.symm
 refine ⟨"tuple",_,PyProof.Rows.slot_tuple_getitem.lookup,ht.typeIs,?_⟩
 refine HT.Jap ht hs pl pu (by rw [hlen]; exact hw) ?_ (by rw [hlen]; exact hz)
 rw [hlen]
 refine ⟨.ref s.heap.objs.size,_,I.laid (t':=s.toks) (o:=.tup (cutV xs lo hi)) (fun b ob q=>Heap.get?_push_of_some _ q) (Nat.le_refl _) ?_,rfl,q _ (I.hok.fresh (Nat.le_refl _))⟩
 exact ⟨⟨Nat.le_trans (Jbg xs lo hi) hz,Jei⟩,_,(r.drop (HT.sIx xs.length 0 lo)).take (HT.sIx xs.length xs.length hi - HT.sIx xs.length 0 lo),IsTup.new _ _⟩
def rCatT (K:PySem.W.Frag):R2:=fun x y H Q=>∃ a b xs ys,x = .ref a /\ y = .ref b /\ SqT K H a xs /\ SqT K H b ys /\ xs ≠ [] /\ xs.length + ys.length <= sizeLine /\
 (ys = [] -> Q (.ref a) H) /\ (ys ≠ [] -> ∀ p,H p = none -> Q (.ref p) (upd H p (.tup (xs ++ ys))))
theorem Vals.nil_iff {xs:List V} {us:List Value} (r:Vals xs us):us = [] ↔ xs = []:=by
 cases r with
 | nil=>simp
 | cons _ _=>simp
theorem JjJ:OpR X (binaryOp .Add) (rCatT X.K):=by
 intro pins s σ H x y v u Q I rx ry h
 obtain ⟨a,b,xs,ys,rfl,rfl,ha,hb,hx,hz,q1,q2⟩:=h
 cases rx
 cases ry
 obtain ⟨its,r1,p1,_⟩:=I.tuple ha
 obtain ⟨its2,r2,p2,_⟩:=I.tuple hb
 refine HT.JjE p1 p2 (fun z=>hx (r1.nil_iff.mp z)) (fun z=>⟨.ref a,H,I,rfl,q1 (r2.nil_iff.mp z)⟩) (fun z=>?_) (by rw [<- r1.length,<- r2.length]; exact hz)
 refine ⟨.ref s.heap.objs.size,_,I.laid (t':=s.toks) (o:=.tup (xs ++ ys)) (fun b ob q=>Heap.get?_push_of_some _ q) (Nat.le_refl _) ?_,rfl,q2 (fun w=>z (r2.nil_iff.mpr w)) _ (I.hok.fresh (Nat.le_refl _))⟩
 exact ⟨⟨by rw [List.length_append]; exact hz,Jei⟩,_,r1.append r2,IsTup.new _ _⟩
end
end L2
namespace L2
open PySem PySem.Spec PyProof.Rows
def ixN (n:Nat) (i:Int):Option Nat:=if 0 <= i then (if i < n then some i.toNat else none) else if -(n:Int) <= i then some (i + n).toNat else none
def atI {α:Type} (xs:List α) (i:Int):Option α:=(ixN xs.length i).bind fun j=>xs[j]?
theorem Jkh {n:Nat} {i:Int} {j:Nat} (h:ixN n i = some j):seqIndex? i n = some j /\ j < n /\ -(n:Int) <= i /\ i < n:=by
 unfold ixN at h
 by_cases h0:0 <= i
 ·rw [if_pos h0] at h
  by_cases h1:i < n
  ·rw [if_pos h1] at h
   have e:i.toNat = j:=Option.some.inj h
   exact ⟨by rw [seqIndex_of h0 h1,e],by omega,by omega,h1⟩
  ·rw [if_neg h1] at h; cases h
 ·rw [if_neg h0] at h
  by_cases h1:-(n:Int) <= i
  ·rw [if_pos h1] at h
   have e:(i + n).toNat = j:=Option.some.inj h
   exact ⟨by rw [seqIndex_neg (by omega) h1,e],by omega,h1,by omega⟩
  ·rw [if_neg h1] at h; cases h
theorem Jdm {α:Type} {xs:List α} {i:Int} {v:α} (h:atI xs i = some v):∃ j,seqIndex? i xs.length = some j /\ xs[j]? = some v /\ j < xs.length /\ -(xs.length:Int) <= i /\ i < xs.length:=by
 unfold atI at h
 cases e:ixN xs.length i with
 | none=>rw [e] at h; cases h
 | some j=>
  rw [e] at h
  obtain ⟨h1,h2,h3,h4⟩:=Jkh e
  exact ⟨j,h1,h,h2,h3,h4⟩
def PlainIx (b:Expr):Prop:=∀ o i,subscripted b false o i = operate [o,i] (getItem o i)
def IxR (X:Cx) (r:R2):Prop:=
 ∀ (value slice:Expr) (pins:List (Addr × Obj)) (s:Shared) (σ:St) (H:Hp) (x y:V) (v u:Value) (Q:VK),Inv X pins σ H s -> RelV x v -> RelV y u -> r x y H Q ->
  subscripted slice false v u = operate [v,u] (getItem v u) -> wpAny (model X.prog X.w) X.A (subscriptTail value slice v u) (EP X pins σ Q) X.xe s
def MtR (X:Cx) (id:String) (r:V -> List V -> Hp -> VK -> Prop):Prop:=
 ∀ (pins:List (Addr × Obj)) (s:Shared) (σ:St) (H:Hp) (x:V) (xs:List V) (v:Value) (us:List Value) (Q:VK),Inv X pins σ H s -> RelV x v -> Vals xs us -> r x xs H Q ->
  wpAny (model X.prog X.w) X.A (call (.builtin id) (v :: us)) (EP X pins σ Q) X.xe s
section
variable {X:Cx} {a b:Expr} {ta tb:TE} {pos:Pos}
theorem pe_ix {r:R2} (hr:IxR X r) (ha:PE X a ta) (hb:PE X b tb) (hs:PlainIx b):PE X (.Subscript a b pos) (tOp r ta tb):=by
 intro pins s σ H Q I h
 exact Subscript_ (binT ha hb I h fun v u s2 x y H2 I2 rx ry q=>hr a b pins s2 σ H2 x y v u Q I2 rx ry q (hs _ _))
def rIxL (K:PySem.W.Frag):R2:=fun x y H Q=>∃ p xs i v,x = .ref p /\ y = .int i /\ SqL K H p xs /\ atI xs i = some v /\ Q v H
def rIxT (K:PySem.W.Frag):R2:=fun x y H Q=>∃ p xs i v,x = .ref p /\ y = .int i /\ SqT K H p xs /\ atI xs i = some v /\ Q v H
def rIxS:R2:=fun x y H Q=>∃ z i c,x = .str z /\ y = .int i /\ z.length <= sizeLine /\ atI z.cps.toList i = some c /\ Q (.str ⟨#[c]⟩) H
theorem JjA:IxR X (rIxL X.K):=by
 intro value slice pins s σ H x y v u Q I rx ry h hs
 obtain ⟨p,xs,i,z,rfl,rfl,hq,he,q⟩:=h
 cases rx
 obtain ⟨t,rfl⟩:=ry
 obtain ⟨its,r,pl,hz⟩:=I.list hq
 obtain ⟨j,h1,h2,h3,h4,h5⟩:=Jdm he
 obtain ⟨w,ew,rw'⟩:=r.get h2
 have hl:=r.length
 have hn:=Jbs
 have fin:EP X pins σ Q w s:=⟨z,H,I,rw',q⟩
 by_cases h0:0 <= i
 ·have hj:i.toNat = j:=by
   rw [seqIndex_of h0 h5] at h1
   exact Option.some.inj h1
  exact item_listR pl.isList h0 (by omega) (by rw [hj]; simpa using ew) fin hs
 ·have hj:(i + (its.toArray.size:Int)).toNat = j:=by
   rw [seqIndex_neg (by omega) h4] at h1
   rw [List.size_toArray,<- hl]
   exact Option.some.inj h1
  exact subscriptTail_builtinR (x:=w) pl.isList.typeIs slot_list_getitem.lookup
   (wpAny_getItem_list_neg (Q:=fun r s'=>r = w /\ EP X pins σ Q r s') pl.isList (by omega) (by rw [List.size_toArray] <;> omega) (by omega) (by rw [hj]; simpa using ew) ⟨rfl,fin⟩) hs
theorem JlM:IxR X (rIxT X.K):=by
 intro value slice pins s σ H x y v u Q I rx ry h hs
 obtain ⟨p,xs,i,z,rfl,rfl,hq,he,q⟩:=h
 cases rx
 obtain ⟨t,rfl⟩:=ry
 obtain ⟨its,r,pl,hz⟩:=I.tuple hq
 obtain ⟨j,h1,h2,h3,h4,h5⟩:=Jdm he
 obtain ⟨w,ew,rw'⟩:=r.get h2
 have hl:=r.length
 have hn:=Jbs
 have fin:EP X pins σ Q w s:=⟨z,H,I,rw',q⟩
 exact subscriptTail_builtinR (x:=w) pl.typeIs slot_tuple_getitem.lookup
  (getItem_tuple (j:=j) (Q:=fun r s'=>r = w /\ EP X pins σ Q r s') pl (by omega) (by omega) (by rw [List.size_toArray,<- hl]; exact h1) (by simpa using ew) ⟨rfl,fin⟩) hs
theorem JlC:IxR X rIxS:=by
 intro value slice pins s σ H x y v u Q I rx ry h hs
 obtain ⟨z,i,c,rfl,rfl,hz,he,q⟩:=h
 obtain ⟨t,rfl⟩:=rx
 obtain ⟨t',rfl⟩:=ry
 obtain ⟨j,h1,h2,h3,h4,h5⟩:=Jdm he
 have hl:z.cps.toList.length = z.length:=by simp [Str.length]
 rw [hl] at h1 h4 h5
 have hn:=Jbs
 exact tail_any (typeIs_str s z t) slot_str_getitem.lookup (getItem_str (c:=c) (by
  have e1:decide (i < -(2 ^ 63:Int)) = false:=decide_eq_false (by omega)
  have e2:decide (i ≥ 2 ^ 63) = false:=decide_eq_false (by omega)
  rw [e1,e2,Bool.or_false]) (by rw [h1]; simpa using h2) ⟨.str ⟨#[c]⟩,H,I.tok _,⟨_,rfl⟩,q⟩) hs
theorem Jcj (lo hi:Option Int) (n:Nat):(sliceBounds lo hi none n).1 = ((HT.sIx n 0 lo:Nat):Int) /\ (sliceBounds lo hi none n).2.1 = ((HT.sIx n n hi:Nat):Int) /\ (sliceBounds lo hi none n).2.2 = 1:=by
 refine ⟨?_,?_,rfl⟩
 ·cases lo with
  | none=>simp [sliceBounds,HT.sIx]
  | some i=>
   simp only [sliceBounds,HT.sIx,Option.getD_none,show (1:Int) > 0 by decide,if_true]
   by_cases h:i < 0
   ·simp only [h,if_true] <;> omega
   ·simp only [h,if_false] <;> omega
 ·cases hi with
  | none=>simp [sliceBounds,HT.sIx]
  | some i=>
   simp only [sliceBounds,HT.sIx,Option.getD_none,show (1:Int) > 0 by decide,if_true]
   by_cases h:i < 0
   ·simp only [h,if_true] <;> omega
   ·simp only [h,if_false] <;> omega
theorem JbG (its:List Value) (lo hi:Option Int):slicePick its.toArray lo hi none = ((its.drop (HT.sIx its.length 0 lo)).take (HT.sIx its.length its.length hi - HT.sIx its.length 0 lo)).toArray:=by
 obtain ⟨h1,h2,h3⟩:=Jcj lo hi its.toArray.size
 unfold slicePick
 rw [h1,h2,h3]
 simp only [sliceRange_one,pick_run,List.size_toArray] <;> rfl
def rSlL (K:PySem.W.Frag):V -> Option Int -> Option Int -> Hp -> VK -> Prop:=fun x lo hi H Q=>∃ a xs,x = .ref a /\ SqL K H a xs /\ ∀ p,H p = none -> Q (.ref p) (upd H p (.lst (cutV xs lo hi)))
theorem JjP:SlR X (rSlL X.K):=by
 intro pins s σ H x v vl vu lo hi sl Q I rx hs pl pu h
 obtain ⟨a,xs,rfl,hx,q⟩:=h
 cases rx
 obtain ⟨its,r,ht,hz⟩:=I.list hx
 have hlen:=r.length
 refine ⟨"list",_,slot_list_getitem.lookup,ht.isList.typeIs,?_⟩
 refine wpAny_getItem_list_slice ht.isList hs pl pu .none (by simp) ?_ (by rw [List.size_toArray] <;> omega)
 rw [JbG,<- hlen]
 refine ⟨.ref s.heap.objs.size,_,I.laid (t':=s.toks) (o:=.lst (cutV xs lo hi)) (fun b ob q=>Heap.get?_push_of_some _ q) (Nat.le_refl _) ?_,rfl,q _ (I.hok.fresh (Nat.le_refl _))⟩
 exact ⟨Nat.le_trans (Jbg xs lo hi) hz,_,0,(r.drop (HT.sIx xs.length 0 lo)).take (HT.sIx xs.length xs.length hi - HT.sIx xs.length 0 lo),Heap.get?_push_size _ rfl⟩
theorem JaA:CallR X (.builtin "len") (fun xs H Q=>∃ p ys,xs = [.ref p] /\ (SqL X.K H p ys \/ SqT X.K H p ys) /\ Q (.int ys.length) H):=by
 intro pins s σ H xs us Q I r h
 obtain ⟨p,ys,rfl,hq,q⟩:=h
 obtain ⟨u,rfl,rx⟩:=Jaz r
 cases rx
 have hn:=Jbs
 rcases hq with hq | hq
 ·obtain ⟨its,r',pl,hz⟩:=I.list hq
  have hlen:=r'.length
  exact Calls.call_len_list pl.isList (by simp only [List.size_toArray] <;> omega) ⟨.int ys.length,H,I.tok _,⟨s.toks + 1,by rw [List.size_toArray,hlen]⟩,q⟩
 ·obtain ⟨its,r',pl,hz⟩:=I.tuple hq
  have hlen:=r'.length
  exact len_tuple pl (by simp only [List.size_toArray] <;> omega) ⟨.int ys.length,H,I.tok _,⟨s.toks + 1,by rw [List.size_toArray,hlen]⟩,q⟩
theorem Jcv:CallR X (.builtin "len") (fun xs H Q=>∃ z,xs = [.str z] /\ z.length <= sizeLine /\ Q (.int z.length) H):=by
 intro pins s σ H xs us Q I r h
 obtain ⟨z,rfl,hz,q⟩:=h
 obtain ⟨u,rfl,t,rfl⟩:=Jaz r
 have hn:=Jbs
 exact len_str (by omega) ⟨.int z.length,H,I.tok _,⟨_,rfl⟩,q⟩
theorem JaB:CallR X (.type "list") (fun xs H Q=>∃ p ys,xs = [.ref p] /\ (SqL X.K H p ys \/ SqT X.K H p ys) /\ ∀ l,H l = none -> Q (.ref l) (upd H l (.lst ys))):=by
 intro pins s σ H xs us Q I r h
 obtain ⟨p,ys,rfl,hq,q⟩:=h
 obtain ⟨u,rfl,rx⟩:=Jaz r
 cases rx
 have fin:∀ (its:List Value),Vals ys its -> ys.length <= sizeLine -> ∀ (h':Heap) (c':Nat),(∀ b o',s.heap.get? b = some o' -> h'.get? b = some o') ->
   h'.get? s.heap.objs.size = some { cls:=.type "list",dict:=none,data:=.seq its.toArray c',slots:=#[] } -> EP X pins σ Q (.ref s.heap.objs.size) { s with heap:=h' }:=fun its r' hz h' c' kp e=>
  ⟨.ref s.heap.objs.size,_,I.laid (t':=s.toks) kp (Nat.le_refl _) (show ObjOk X.prog X.w _ h' _ (.lst ys) from ⟨hz,its,c',r',e⟩),rfl,q _ (I.hok.fresh (Nat.le_refl _))⟩
 rcases hq with hq | hq
 ·obtain ⟨its,r',pl,hz⟩:=I.list hq
  have hlen:=r'.length
  obtain ⟨o,ho,hc,n,hd⟩:=pl.isList
  exact call_list_seq p (.inl rfl) ho hc hd (fun h' c' kp e=>fin its r' hz h' c' kp e) (by simp only [List.size_toArray] <;> omega)
 ·obtain ⟨its,r',pl,hz⟩:=I.tuple hq
  have hlen:=r'.length
  obtain ⟨o,ho,hc,n,hd⟩:=pl
  exact call_list_seq p (.inr rfl) ho hc hd (fun h' c' kp e=>fin its r' hz h' c' kp e) (by simp only [List.size_toArray] <;> omega)
theorem JV:CallR X (.type "tuple") (fun xs H Q=>∃ p ys,xs = [.ref p] /\ ((SqL X.K H p ys /\ ∀ l,H l = none -> Q (.ref l) (upd H l (.tup ys))) \/ (SqT X.K H p ys /\ Q (.ref p) H))):=by
 intro pins s σ H xs us Q I r h
 obtain ⟨p,ys,rfl,h⟩:=h
 obtain ⟨u,rfl,rx⟩:=Jaz r
 cases rx
 rcases h with ⟨hq,q⟩ | ⟨hq,q⟩
 ·obtain ⟨its,r',pl,hz⟩:=I.list hq
  have hlen:=r'.length
  refine call_tuple_list pl.isList (fun h' kp=>?_) (by simp only [List.size_toArray] <;> omega)
  have I1:Inv X pins σ H { s with heap:=h' }:=I.kept (t':=s.toks) kp
  have I2:Inv X pins σ (upd H h'.objs.size (.tup ys)) { s with heap:=h'.push { cls:=.type "tuple",data:=.seq its.toArray } }:=
   I1.laid (t':=s.toks) (fun b o e=>Heap.get?_push_of_some _ e) (Nat.le_refl _) (show ObjOk X.prog X.w _ _ _ (.tup ys) from ⟨⟨hz,Jei⟩,its,r',IsTup.new _ _⟩)
  exact ⟨.ref h'.objs.size,_,I2,rfl,q _ (I1.hok.fresh (Nat.le_refl _))⟩
 ·obtain ⟨its,r',pl,hz⟩:=I.tuple hq
  exact call_tuple_same pl ⟨.ref p,H,I,rfl,q⟩
def tyV (K:PySem.W.Frag) (T:String) (x:V) (H:Hp):Prop:=match x with
 | .str _=>T = "str"
 | .int _=>T = "int"
 | .ref p=>(T = "list" /\ ∃ xs,SqL K H p xs) \/ (T = "tuple" /\ ∃ o,K.lookup p = some o /\ o.cls = .type "tuple" /\ o.dict = none) \/
   (T = "dict" /\ ((∃ kvs,H p = some (.dK kvs)) \/ ∃ kvs,H p = some (.dT kvs))) \/ (T = "set" /\ ∃ S n,H p = some (.set S n))
 | _=>False
theorem JmF {pins:List (Addr × Obj)} {σ:St} {H:Hp} {s:Shared} {T:String} {x:V} {v:Value} (I:Inv X pins σ H s) (r:RelV x v) (ty:tyV X.K T x H) :
  s.TypeIs v T /\ ∀ a,v = .ref a -> ∃ ob,s.heap.get? a = some ob /\ ob.dict = none:=by
 cases x with
 | str z=>
  obtain ⟨t,rfl⟩:=r
  cases (show T = "str" from ty)
  exact ⟨typeIs_str s z t,fun _ e=>nomatch e⟩
 | int i=>
  obtain ⟨t,rfl⟩:=r
  cases (show T = "int" from ty)
  exact ⟨typeIs_int s i t,fun _ e=>nomatch e⟩
 | ref p=>
  cases r
  rcases ty with ⟨rfl,xs,hq⟩ | ⟨rfl,o,hk,hc,hd⟩ | ⟨rfl,hk⟩ | ⟨rfl,S,n,hk⟩
  ·obtain ⟨its,_,pl,_⟩:=I.list hq
   refine ⟨pl.isList.typeIs,fun a e=>?_⟩
   cases e
   obtain ⟨o,n,e,c,hd,_⟩:=pl
   exact ⟨o,e,hd⟩
  ·refine ⟨⟨o,I.kIn p o hk,hc⟩,fun a e=>?_⟩
   cases e
   exact ⟨o,I.kIn _ o hk,hd⟩
  ·have z:∃ o,s.heap.get? p = some o /\ o.ExactDict:=by
    rcases hk with ⟨kvs,hk⟩ | ⟨kvs,hk⟩
    ·obtain ⟨_,_,_,_,o,_,_,e,ex,_⟩:=I.hok p _ hk
     exact ⟨o,e,ex⟩
    ·obtain ⟨_,_,_,_,o,_,_,e,ex,_⟩:=I.hok p _ hk
     exact ⟨o,e,ex⟩
   obtain ⟨o,e,ex⟩:=z
   refine ⟨⟨o,e,ex.1⟩,fun a e2=>?_⟩
   cases e2
   exact ⟨o,e,ex.2.1⟩
  ·obtain ⟨o,_,_,_,e,ex,_⟩:=I.hok p _ hk
   refine ⟨⟨o,e,ex.1⟩,fun a e2=>?_⟩
   cases e2
   exact ⟨o,e,ex.2.1⟩
 | _=>exact False.elim ty
def tBM (K:PySem.W.Frag) (T:String) (r:V -> List V -> Hp -> VK -> Prop) (to:TE) (t:TA):TE:=fun σ H Q=>to σ H fun x H1=>tyV K T x H1 /\ t σ H1 fun xs H2=>r x xs H2 Q
variable {o e:Expr} {es:List Expr} {to:TE} {t:TA} {name:Str} {apos cpos:Pos} {T id:String} {r:V -> List V -> Hp -> VK -> Prop}
theorem JiK (pa:PlainAttrs T) (slot:Slot T name id) (hty:typeOf (.builtin id) = pure (.type "method_descriptor")) (hm:MtR X id r) (ho:PE X o to) (ha:PA X (e :: es) t)
  (hbase:attributeBase o name X.env (eval o X.env) = eval o X.env:=by rfl)
  (hfew:((backTo cpos (starEach (e :: es) X.env)).all (fun x=>!x.1) && (backToKw cpos (keywordEach [] X.env)).all (fun x=>x.1.isSome)
   && decide ((e :: es).length + ([]:List Keyword).length + (if ([]:List Keyword).isEmpty then 0 else 1) < 30)) = true:=by rfl)
  (hline:(apos.endLine == cpos.line) = true:=by rfl) (hs:starEach (e :: es) X.env = (false,eval e X.env) :: starEach es X.env:=by rfl) (hplain:(backTo cpos (starEach es X.env)).any (·.1) = false:=by rfl) :
  PE X (.Call (.Attribute o name apos) (e :: es) [] cpos) (tBM X.K T r to t):=by
 intro pins s σ H Q I h
 refine wpAny_Call_method_late hbase hfew hline rfl (thn (ho pins s σ H _ I h) fun v s1 ⟨x,H1,I1,r1,ty,q1⟩=>?_)
 obtain ⟨h1,h2⟩:=JmF I1 r1 ty
 refine ⟨T,id,pa,slot,hty,h1,h2,?_⟩
 have hA:=ha cpos pins s1 σ H1 _ I1 q1
 rw [hs] at hA ⊢
 refine Calls.callWith_builtin (by show (false || (backTo cpos (starEach es X.env)).any (·.1)) = false; rw [hplain] <;> rfl) (Calls.evalArgs_plain ?_)
 exact thn hA fun us s2 ⟨vs,H2,I2,r2,q2⟩=>hm pins s2 σ H2 x vs v us Q I2 r1 r2 q2
end
end L2
namespace L2
open PySem PySem.Spec PyProof.Rows
def MtM (X:Cx) (id:String) (r:V -> List V -> Hp -> VK -> Prop):Prop:=
 ∀ (pins:List (Addr × Obj)) (s:Shared) (σ:St) (H:Hp) (x:V) (xs:List V) (v:Value) (us:List Value) (Q:VK),Inv X pins σ H s -> RelV x v -> Vals xs us -> r x xs H Q ->
  wpAny (model X.prog X.w) X.A (call (.builtin id) (v :: us)) (EP X pins σ Q) X.xe s
theorem Vals.one:∀ {x:V} {us:List Value},Vals [x] us -> ∃ u,us = [u] /\ RelV x u
 | _,_,.cons r .nil=>⟨_,rfl,r⟩
section
variable {X:Cx} {pins:List (Addr × Obj)} {σ:St} {H:Hp} {s:Shared} {l b:Addr} {xs ys zs:List V}
theorem Inv.lset {its its':List Value} {n:Nat} {f:Array Value -> Array Value} {t':Nat} (I:Inv X pins σ H s) (hH:H l = some (.lst xs))
  (e:s.heap.get? l = some { cls:=.type "list",data:=.seq its.toArray n }) (hf:f its.toArray = its'.toArray) (hv:Vals ys its') (hz:ys.length <= sizeLine) :
  Inv X pins σ (upd H l (.lst ys)) { s with heap:=s.heap.update l (Obj.mapSeq f),toks:=t' }:=by
 have q:=PySem.IsL.update e f
 rw [hf] at q
 refine I.write (x:=l) (e:=l) (by rw [hH]; exact trivial) (.inl rfl) (fun b' u hb hu=>(Heap.get?_update_other s.heap (Obj.mapSeq f) (Ne.symm hb)).trans hu) ⟨_,q⟩ ?_
 exact ⟨hz,its',_,hv,q⟩
theorem Inv.lnew {its:List Value} {t':Nat} (I:Inv X pins σ H s) (hv:Vals ys its) (hz:ys.length <= sizeLine) :
  Inv X pins σ (upd H s.heap.objs.size (.lst ys)) { s with heap:=s.heap.push { cls:=.type "list",data:=.seq its.toArray },toks:=t' }:=
 I.laid (fun _ _ q=>Heap.get?_push_of_some _ q) (Nat.le_refl _) ⟨hz,its,0,hv,Heap.get?_push_size _ rfl⟩
theorem Inv.fresh (I:Inv X pins σ H s):H s.heap.objs.size = none:=I.hok.fresh (Nat.le_refl _)
theorem Inv.lstM (I:Inv X pins σ H s) (hH:H l = some (.lst xs)):xs.length <= sizeLine /\ ∃ (its:List Value) (n:Nat),Vals xs its /\ xs.length = its.length /\ s.heap.get? l = some { cls:=.type "list",data:=.seq its.toArray n }:=by
 obtain ⟨z,its,n,r,e⟩:=I.hok l _ hH
 exact ⟨z,its,n,r,r.length,e⟩
theorem Jhr {n:Nat} (h:n <= sizeLine):Builtin.List.listTooLong n = false:=by
 unfold Builtin.List.listTooLong
 exact decide_eq_false (by omega)
end
section
variable {X:Cx}
def rAppend:V -> List V -> Hp -> VK -> Prop:=fun x vs H Q=>∃ l xs y,x = .ref l /\ vs = [y] /\ H l = some (.lst xs) /\ xs.length < sizeLine /\ Q .non (upd H l (.lst (xs ++ [y])))
theorem Jgy:MtM X "list.append" rAppend:=by
 intro pins s σ H x vs v us Q I rx rv h
 obtain ⟨l,xs,y,rfl,rfl,hH,hz,q⟩:=h
 cases rx
 obtain ⟨u,rfl,ru⟩:=rv.one
 obtain ⟨z,its,n,r,hl,e⟩:=I.lstM hH
 refine call_meets F.slot_list_append ⟨_,e,rfl⟩ F.entry_list_append (F.args_list_append_2 _ _) (PySem.list_append l its.toArray n u (by rw [List.size_toArray]; omega)) ⟨e,?_⟩
 refine ⟨.non,_,I.lset (its':=its ++ [u]) hH e (by simp) (r.append (.cons ru .nil)) ?_,rfl,q⟩
 rw [List.length_append,List.length_singleton]
 omega
end
section
variable {prog:Program} {w:World} {A:Around} {E:Value -> Shared -> Prop} {s:Shared}
end
section
variable {X:Cx}
end
end L2
namespace Att
open PySem PySem.W PySem.Calls PyProof.Rows
theorem Jbf {P:Params} {h:Heap}:∀ (ns:List Int) (vs:List Value),WellAll P h vs (ns.map WData.int) -> IntsAre vs ns:=by
 intro ns
 induction ns with
 | nil=>
  intro vs w
  rw [List.map_nil] at w
  cases w
  exact .nil
 | cons n ns ih=>
  intro vs w
  rw [List.map_cons] at w
  cases w with
  | cons a b=>
   cases a
   exact .cons _ _ (ih _ b)
theorem JfC {l:OpenLaw} {n:Nat} (hn:l.most = some n) {P:Params} {h:Heap} {args:List WData} {vals:List Value}
  (hpre:l.row.toRowW.claim.pre args = true) (hwl:WellAll P h vals args) :
  ∃ a vs ns,vals = [Value.ref a] /\ args = [WData.list (ns.map WData.int)] /\ h.get? a = some { cls:=.type "list",data:=.seq vs.toArray } /\ IntsAre vs ns /\ ns.length <= n:=by
 have hsh:WShape.hasAll [] args [.list .int] = true:=(pre_splitW hpre).1
 have hc:l.pre.holds [] { args:=args } = true:=(pre_splitW hpre).2
 obtain ⟨d,r,rfl,h1,h2⟩:=hasAllW_cons hsh
 obtain rfl:=hasAllW_nil h2
 obtain ⟨xs,rfl,h3⟩:=hasW_list h1
 obtain ⟨ns,rfl⟩:=items_int h3
 have hlen:ns.length <= n:=by
  unfold OpenLaw.pre at hc
  have h4:(WTm.not (.lt (.lit (.int (n:Int))) (.len (.arg 0)))).holds [] { args:=[.list (ns.map .int)] } = true:=by
   have h4:=(holds_andW hc).1
   rw [hn] at h4
   exact h4
  have h5:=condW_of h4 (w_not (w_lt w_lit (w_len_list (w_arg rfl))))
  rw [List.length_map] at h5
  refine Nat.le_of_not_lt fun q=>?_
  have q':(n:Int) < ((ns.length:Nat):Int):=by omega
  first
   | (rw [decide_eq_true q'] at h5; exact absurd h5 (by decide))
   | (simp at h5; omega)
 cases hwl with
 | cons w1 w2=>
  cases w2
  cases w1 with
  | list ho hall=>exact ⟨_,_,ns,rfl,rfl,ho,Jbf ns _ hall,hlen⟩
theorem Jhc (l:OpenLaw) (args:List WData):l.row.toRowW.claim.post args (.bool true) args = true:=
 postW_of (r:=l.row.toRowW) (X:=(true == true))
  (show WShape.has [] (.bool true) .bool = true by first | rfl | decide | simp [WShape.has,WShape.arms,WShape.armsAll])
  (show (WTm.eq .res (.lit (.bool true))).value [] { args:=args,res:=some (.bool true),after:=args } = some (.bool (true == true)) from w_eq_bool (w_res rfl) w_lit) rfl
theorem Jdz {l:OpenLaw} {n:Nat} {q:Program} {loose:List Str} {XP:(Str -> Option Value) -> Heap -> Prop} {YP:World -> Heap -> Prop} {d:DefRec}
  (hn:l.most = some n) (hdf:d.params.defaults = [])
  (call:∀ (w:World) (s₀ s₁:Shared) (mg mb:Str -> Option Value) (fa:Addr) (o:Obj) (pm cd doc:Value) (a:Addr) (vs:List Value) (ns:List Int),
   Ground q loose [] XP w s₀ mg mb s₁.heap -> YP w s₁.heap ->
   s₁.heap.get? fa = some o -> o.data = .func (docDef d.name d.params d.body d.scope pm cd doc) -> s₁.heap.CodeRec cd d.name -> mg d.name = some (.ref fa) ->
   s₁.heap.get? a = some { cls:=.type "list",data:=.seq vs.toArray } -> IntsAre vs ns -> ns.length <= n -> s₁.gens = #[] ->
   codeAny (model l.prog w) callerA (.call (.ref fa) ⟨[.ref a],[]⟩) (fun r s'=>r = .ok (.ret (.bool true)) /\ OldK s₁.heap s'.heap /\ s'.os = s₁.os /\ AllBare s'.gens) s₁) :
  WalkO q loose XP YP l.row.toRowW d [] (fun f vs=>PySem.call f vs):=by
 intro w s₀ s₁ mg mb G Y fa o pm cd doc dV kV ho hd hcd hD hmg hg args vals as hpre hlay hrd hwl hlo
 obtain rfl:dV = .none:=Dflts.none hD hdf
 obtain rfl:kV = .none:=Dflts.noKw hD
 obtain ⟨a,vs,ns,rfl,rfl,hobj,hints,hlen⟩:=JfC hn hpre hwl
 refine enter_call (codeAny_mono (call w s₀ s₁ mg mb fa o pm cd doc a vs ns G Y ho (fd_plain hd) hcd hmg hobj hints hlen hg) fun r s' hq=>?_)
 obtain ⟨rfl,h2,h3,h4⟩:=hq
 exact ⟨.inl ⟨.bool true,.bool true,[],rfl,fun _=>rfl,.bool true,Jhc l _,fun _=>⟨List.Pairwise.nil,fun _ hm=>(nomatch hm)⟩⟩,h2,h3,h4⟩
section
variable {prog:Program} {w:World} {A:Around} {E:Value -> Shared -> Prop} {s:Shared} {K:Frag}
def ledger (h:Heap) (L d:Addr):List (Addr × Obj):=(List.range h.objs.size).filterMap fun a=>if a = L \/ a = d then none else (h.get? a).map fun o=>(a,o)
end
end Att
namespace L2
open PySem PySem.Spec PyProof.Rows
theorem JcL:∀ {vs:List Value} {ns:List Int},IntsAre vs ns -> Vals (ns.map V.int) vs
 | _,_,.nil=>.nil
 | _,_,.cons n t h=>.cons ⟨t,rfl⟩ (JcL h)
def Only (H:Hp):Prop:=∀ b,H b = none \/ ∃ o xs,H b = some (.frz o (.lst xs))
theorem Jih {P:Program} {w:World} {K:PySem.W.Frag} {mg mb:Str -> Option Value} {CX:CXT} {k:Nat} {fa a:Addr} {fd:FuncData} {x:Str} {sp:Sp} {s₁:Shared} {vs:List Value} {ns:List Int}
  (KX:K.In s₁.heap) (hns:s₁.heap.Ns mainGlobals mg) (hb:s₁.heap.Ns builtinsNs mb) (hbb:∀ x:Str,x ≠ "__name__" -> mb x = bootBuiltins x) (hlim:s₁.heap.NoLimit) (hg:s₁.gens = #[])
  (ha:s₁.heap.get? a = some { cls:=.type "list",data:=.seq vs.toArray }) (hi:IntsAre vs ns) (hl:ns.length <= sizeLine) (hr:Room k callerA)
  (F:∀ base:Heap,K.In base -> base.Ns mainGlobals mg -> FnOk P w K mg base CX k fa fd [x] sp) (hbind:∀ (s:Shared) (u:Value),BindsTo s fd ⟨[u],[]⟩ [(x,u)])
  (hsp:∀ H:Hp,Only H -> SqL K H a (ns.map V.int) -> sp [.ref a] H (fun v _=>v = .bl true) fun _ _ _=>False)
  (hCX:∀ H e s',CX [] H s₁ (fun _ _ _=>False) e s' -> False) :
  codeAny (model P w) callerA (.call (.ref fa) ⟨[.ref a],[]⟩) (fun r s'=>r = .ok (.ret (.bool true)) /\ OldK s₁.heap s'.heap /\ s'.os = s₁.os /\ AllBare s'.gens) s₁:=by
 have rv:=JcL hi
 have lenV:=hi.length
 have core:∀ H:Hp,Only H -> SqL K H a (ns.map V.int) -> HOk P w H s₁.heap -> (∀ b,H b ≠ none -> b = a) -> (H a ≠ none -> K.lookup a = none) ->
   codeAny (model P w) callerA (.call (.ref fa) ⟨[.ref a],[]⟩) (fun r s'=>r = .ok (.ret (.bool true)) /\ OldK s₁.heap s'.heap /\ s'.os = s₁.os /\ AllBare s'.gens) s₁:=by
  intro H hO hS hok hA hK
  have base_of:∀ {b:Addr} {o:Obj},s₁.heap.get? b = some o -> H b = none -> (hidT s₁.heap H).get? b = some o:=fun e n=>Jik e n
  have noA:∀ {b:Addr} {o:Obj} {es:Array DictEntry} {ep:Nat},s₁.heap.get? b = some o -> o.data = .dict es ep -> H b = none:=fun {b o es ep} e d=>by
   cases q:H b with
   | none=>rfl
   | some u=>
    have e':b = a:=hA b (by rw [q]; simp)
    subst e'
    rw [ha] at e; cases e
    have d':Data.seq vs.toArray _ = Data.dict es ep:=d
    cases d'
  have nsK:∀ {b:Addr} {m:Str -> Option Value},s₁.heap.Ns b m -> (hidT s₁.heap H).Ns b m:=fun {b m} ⟨o,es,ep,e,d,r⟩=>⟨o,es,ep,base_of e (noA e d),d,r⟩
  have hKb:K.In (hidT s₁.heap H):=fun b o e=>base_of (KX b o e) (by
   cases q:H b with
   | none=>rfl
   | some u=>
    have e':b = a:=hA b (by rw [q]; simp)
    subst e'
    rw [hK (by rw [q]; simp)] at e; cases e)
  have hM:Mod K mg (hidT s₁.heap H):=⟨hKb,nsK hns,⟨mb,nsK hb,hbb⟩,let ⟨mc,h1,h2⟩:=hlim; ⟨mc,nsK h1,h2⟩⟩
  have e0:Env0 P w K mg (hidT s₁.heap H) callerA [] s₁ H:=⟨rfl,hM,fun b o e=>JjI e,Nat.le_of_eq (JgF _ _),trivial,fun b hb=>absurd (show b ∈ ([]:List Addr) from hb) (by simp),hok,.of_eq hg⟩
  refine codeAny_mono ((F _ hKb (nsK hns)).run callerA [] s₁ H ⟨[.ref a],[]⟩ [.ref a] [.ref a] _ _ hr e0 (hbind s₁ (.ref a)) (.cons rfl .nil) (hsp H hO hS)) fun r s' h=>?_
  cases r with
  | error e=>exact (hCX H e s' h).elim
  | ok fl=>
   cases fl with
   | next=>exact False.elim h
   | brk=>exact False.elim h
   | cont=>exact False.elim h
   | ret u=>
    obtain ⟨v,H',os,bare,un,hok',r',q⟩:=h
    have q':v = .bl true:=q
    subst q'
    obtain rfl:u = Value.bool true:=r'
    refine ⟨rfl,OldK.of_keep fun b o e=>?_,os,bare⟩
    cases q:H b with
    | none=>exact un.keep b o e q (by intro z; exact absurd (show b ∈ ([]:List Addr) from z) (by simp)) (by simp)
    | some u=>
     rcases hO b with z | ⟨ob,xs,z⟩
     ·rw [q] at z; cases z
     ·have z2:=un.frzs b ob _ z
      obtain ⟨e1,_⟩:=hok b _ z
      obtain ⟨e2,_⟩:=hok' b _ z2
      rw [e] at e1; cases e1
      exact e2
 cases hk:K.lookup a with
 | some o=>
  have e:=KX a o hk
  rw [ha] at e
  cases e
  refine core (fun _=>none) (fun _=>.inl rfl) (.inr ⟨_,vs.toArray,_,hk,rfl,rfl,rfl,by rw [List.size_toArray,lenV]; exact hl,by simpa using rv⟩) (fun b u z=>by have z':(none:Option HO) = some u:=z; cases z') (fun b z=>absurd rfl z) fun z=>absurd rfl z
 | none=>
  refine core (fun b=>if b = a then some (.frz { cls:=.type "list",data:=.seq vs.toArray } (.lst (ns.map V.int))) else none) (fun b=>?_) (.inl (.inr ⟨{ cls:=.type "list",data:=.seq vs.toArray },if_pos rfl⟩)) (fun b u z=>?_) (fun b z=>?_) fun _=>hk
  ·by_cases hb:b = a
   ·exact .inr ⟨_,_,if_pos hb⟩
   ·exact .inl (if_neg hb)
  ·by_cases hb:b = a
   ·have z':=(if_pos hb).symm.trans z
    cases z'
    subst hb
    exact ⟨ha,by rw [List.length_map]; exact hl,vs,_,rv,ha⟩
   ·have z':=(if_neg hb).symm.trans z
    cases z'
  ·by_cases hb:b = a
   ·exact hb
   ·exact absurd (if_neg hb) z
end L2
namespace L2
open PySem PySem.Spec PyProof.Rows
abbrev KOf {K:PySem.W.Frag} {h:Heap} (_:K.In h):PySem.W.Frag:=K
theorem Jku {l:PySem.W.OpenLaw} {n k:Nat} {q:Program} {loose:List Str} {XP:(Str -> Option Value) -> Heap -> Prop} {YP:World -> Heap -> Prop} {d:DefRec} {K:Params -> PySem.W.Frag} {CX:World -> CXT} {sp:World -> Sp} {x:Str}
  (hn:l.most = some n) (hn2:n <= sizeLine) (hdf:d.params.defaults = []) (hr:Room k callerA)
  (hY:∀ (w:World) (h:Heap),YP w h -> (K w.params).In h)
  (F:∀ (w:World) (mg:Str -> Option Value) (fa:Addr) (h:Heap),(K w.params).In h -> h.Ns mainGlobals mg -> mg d.name = some (.ref fa) ->
   ∃ fd:FuncData,(∀ (s:Shared) (u:Value),BindsTo s fd ⟨[u],[]⟩ [(x,u)]) /\
    ∀ base:Heap,(K w.params).In base -> base.Ns mainGlobals mg -> FnOk l.prog w (K w.params) mg base (CX w) k fa fd [x] (sp w))
  (hsp:∀ (w:World) (H:Hp) (a:Addr) (ns:List Int),ns.length <= n -> Only H -> SqL (K w.params) H a (ns.map V.int) -> sp w [.ref a] H (fun v _=>v = .bl true) fun _ _ _=>False)
  (hCX:∀ (w:World) (H:Hp) (s:Shared) (e:Value) (s':Shared),CX w [] H s (fun _ _ _=>False) e s' -> False) :
  PySem.W.WalkO q loose XP YP l.row.toRowW d [] (fun f vs=>PySem.call f vs):=by
 refine Att.Jdz hn hdf fun w s₀ s₁ mg mb fa o pm cd doc a vs ns G Y ho hd hcd hmg hobj hints hlen hg=>?_
 have KX:=hY w _ Y
 obtain ⟨fd,hb,hF⟩:=F w mg fa _ KX G.T.g hmg
 exact Jih KX G.T.g G.T.b G.T.builtins G.T.nolimit hg hobj hints (Nat.le_trans hlen hn2) hr hF hb (fun H hO hS=>hsp w H a ns hlen hO hS) fun H e s'=>hCX w H s₁ e s'
end L2
namespace L2
open PySem PySem.Spec PyProof.Rows
def defArgs (s:Stmt):Arguments:=match s with
 | .FunctionDef _ a _ _ _ _ _ _ _ _=>a
 | _=>{ posonlyargs:=[],args:=[],vararg:=none,kwonlyargs:=[],kw_defaults:=[],kwarg:=none,defaults:=[] }
def defBody (s:Stmt):List Stmt:=match s with
 | .FunctionDef _ _ b _ _ _ _ _ _ _=>b
 | _=>[]
def defScope (s:Stmt):Scope:=match s with
 | .FunctionDef _ _ _ _ _ _ sc _ _ _=>sc
 | _=>{ kind:=.function,names:=[],isGenerator:=false,isCoroutine:=false }
structure Fun (K:PySem.W.Frag) (x qual:Str) (st:Stmt) (f:Addr) (fd:FuncData):Prop where
 ex:∃ (oc:Value) (od:Option Addr) (kV doc pm:Value) (an:Option Addr) (cdv ct:Value) (osl:Array (Option Value)),
  fd = PySem.W.fnOf x qual (defArgs st) (defBody st) (defScope st) .none kV doc pm an cdv ct /\ K.lookup f = some ⟨oc,od,.func fd,osl⟩ /\ PySem.W.codeIn K cdv qual = true
 kp:PySem.W.keepIn K (.ref f) = true
section
variable {P:Program} {w:World} {K:PySem.W.Frag} {mg:Str -> Option Value} {base:Heap}
theorem Fun.binds {x qual:Str} {st:Stmt} {f:Addr} {fd:FuncData} {ps:List Str} (F:Fun K x qual st f fd)
  (h:∀ (kV doc pm:Value) (an:Option Addr) (cdv ct:Value) (us:List Value),us.length = ps.length -> bindArgs (PySem.W.fnOf x qual (defArgs st) (defBody st) (defScope st) .none kV doc pm an cdv ct) ⟨us,[]⟩ = pure (ps.zip us)):Binds K fd ps []:=by
 obtain ⟨oc,od,kV,doc,pm,an,cdv,ct,osl,rfl,lk,hcd⟩:=F.ex
 exact .all (h kV doc pm an cdv ct)
theorem Jlk {x qual:Str} {st:Stmt} {f:Addr} {oc:Value} {od an:Option Addr} {osl:Array (Option Value)} {kV doc pm cdv ct:Value} (l:K.lookup f = some ⟨oc,od,.func (PySem.W.fnOf x qual (defArgs st) (defBody st) (defScope st) .none kV doc pm an cdv ct),osl⟩)
  (c:PySem.W.codeIn K cdv qual = true) (k:PySem.W.keepIn K (.ref f) = true):Fun K x qual st f (PySem.W.fnOf x qual (defArgs st) (defBody st) (defScope st) .none kV doc pm an cdv ct):=⟨⟨oc,od,kV,doc,pm,an,cdv,ct,osl,rfl,l,c⟩,k⟩
end
section
variable {X:Cx}
theorem pv (i:Nat) {x:Str} {pos:Pos} (hN:X.N[i]? = some x:=by rfl) (hv:Vis X.env.scope x:=by first | exact Or.inl rfl | exact Or.inr (Or.inl rfl) | exact Or.inr (Or.inr rfl)) (hd:(x == ("__debug__" : Str)) = false:=by decide)
  (hcd:(x == ("__classdict__" : Str)) = false:=by decide):PE X (.Name x pos) (tVar i):=JdG hN hv hd hcd
end
theorem iteF {A B:Prop} (h:B):if false = true then A else B:=by
 rw [if_neg Bool.false_ne_true]
 exact h
theorem iteT {A B:Prop} (h:A):if true = true then A else B:=by
 rw [if_pos rfl]
 exact h
def Same (H H':Hp):Prop:=∀ b o,H b = some o -> H' b = some o
theorem Same.refl (H:Hp):Same H H:=fun _ _ h=>h
theorem Same.trans {H H1 H2:Hp} (a:Same H H1) (b:Same H1 H2):Same H H2:=fun c o h=>b c o (a c o h)
theorem Same.free {H H':Hp} (e:Same H H') {l:Addr} (h:H' l = Option.none):H l = Option.none:=by
 cases q:H l with
 | none=>rfl
 | some o=>
  rw [e l o q] at h
  cases h
theorem Same.seq {K:PySem.W.Frag} {H H':Hp} {a:Addr} {xs:List V} (e:Same H H') (h:SqL K H a xs):SqL K H' a xs:=by
 rcases h with (h | ⟨o,h⟩) | h
 ·exact .inl (.inl (e _ _ h))
 ·exact .inl (.inr ⟨o,e _ _ h⟩)
 ·exact .inr h
end L2
namespace L2
open PySem PySem.Spec PyProof.Rows
section
variable {κ:Type} [DecidableEq κ]
def valV (kvs:List (κ × V)) (k:κ):Option V:=(kvs.find? fun kv=>decide (kv.1 = k)).map (·.2)
def putK (kvs:List (κ × V)) (k:κ) (v:V):List (κ × V):=
 if (kvs.any fun kv=>decide (kv.1 = k)) = true then kvs.map (fun kv=>if kv.1 = k then (kv.1,v) else kv) else kvs ++ [(k,v)]
theorem JbS {p:κ × V} {r:List (κ × V)} {k:κ} (e:p.1 = k):valV (p :: r) k = some p.2:=by simp [valV,List.find?_cons,e]
theorem JbM {p:κ × V} {r:List (κ × V)} {k:κ} (e:¬ p.1 = k):valV (p :: r) k = valV r k:=by simp [valV,List.find?_cons,e]
theorem JdR (k:κ):∀ kvs:List (κ × V),(kvs.any fun kv=>decide (kv.1 = k)) = (valV kvs k).isSome
 | []=>rfl
 | p :: r=>by
  rw [List.any_cons]
  by_cases e:p.1 = k
  ·simp only [JbS e,decide_eq_true e,Bool.true_or,Option.isSome_some]
  ·rw [JbM e,decide_eq_false e,Bool.false_or]; exact JdR k r
theorem RelO.isSome_eq {o:Option V} {u:Option Value} (r:RelO o u):o.isSome = u.isSome:=by
 cases o with
 | none=>cases u with
  | none=>rfl
  | some _=>exact (show False from r).elim
 | some _=>cases u with
  | none=>exact (show False from r).elim
  | some _=>rfl
theorem KV.val {kvs:List (κ × V)} {vs:List (κ × Value)} (r:KV kvs vs) (k:κ):RelO (valV kvs k) (valueAt vs k):=by
 unfold KV at r
 induction r with
 | nil=>exact True.intro
 | @cons p q ps qs h t ih=>
  obtain ⟨h1,h2⟩:=h
  by_cases e:p.1 = k
  ·have e':q.1 = k:=h1.symm.trans e
   have b:valueAt (q :: qs) k = some q.2:=by simp [valueAt,List.find?_cons,e']
   rw [JbS e,b]; exact h2
  ·have e':¬ q.1 = k:=fun z=>e (h1.trans z)
   have b:valueAt (q :: qs) k = valueAt qs k:=by simp [valueAt,List.find?_cons,e']
   rw [JbM e,b]; exact ih
theorem KV.any {kvs:List (κ × V)} {vs:List (κ × Value)} (r:KV kvs vs) (k:κ):(kvs.any fun kv=>decide (kv.1 = k)) = vs.any fun kv=>decide (kv.1 = k):=by
 unfold KV at r
 induction r with
 | nil=>rfl
 | cons h t ih=>rw [List.any_cons,List.any_cons,ih,h.1]
theorem KV.repl {kvs:List (κ × V)} {vs:List (κ × Value)} (r:KV kvs vs) (k:κ) {y:V} {u:Value} (ry:RelV y u) :
  KV (kvs.map fun kv=>if kv.1 = k then (kv.1,y) else kv) (vs.map fun kv=>if kv.1 = k then (kv.1,u) else kv):=by
 unfold KV at r ⊢
 induction r with
 | nil=>exact .nil
 | @cons p q ps qs h t ih=>
  rw [List.map_cons,List.map_cons]
  refine .cons ?_ ih
  obtain ⟨h1,h2⟩:=h
  by_cases e:p.1 = k
  ·rw [if_pos e,if_pos (h1.symm.trans e)]; exact ⟨h1,ry⟩
  ·rw [if_neg e,if_neg (fun z=>e (h1.trans z))]; exact ⟨h1,h2⟩
theorem KV.put {kvs:List (κ × V)} {vs:List (κ × Value)} (r:KV kvs vs) (k:κ) {y:V} {u:Value} (ry:RelV y u):KV (putK kvs k y) (stored vs k u):=by
 unfold putK stored
 rw [r.any k]
 by_cases e:(vs.any fun kv=>decide (kv.1 = k)) = true
 ·rw [if_pos e,if_pos e]; exact r.repl k ry
 ·rw [if_neg e,if_neg e]; exact Paired.snoc r ⟨rfl,ry⟩
theorem KV.length {kvs:List (κ × V)} {vs:List (κ × Value)} (r:KV kvs vs):kvs.length = vs.length:=Paired.length r
end
theorem kV_is {P:Program} {w:World} {k:Key} {u:Value} (r:RelV (kV k) u):(mixKind P w).is k u = true:=by
 cases k with
 | inl i=>obtain ⟨t,e⟩:=(show ∃ t,u = Value.int i t from r); subst e; exact Jdp P w i t
 | inr x=>obtain ⟨t,e⟩:=(show ∃ t,u = Value.str x t from r); subst e; exact Jdk P w x t
theorem JcP {P:Program} {w:World}:∀ {ks:List Key} {us:List Value},Vals (ks.map kV) us -> ItemsAre (mixKind P w) ks us
 | [],_,r=>by rw [List.map_nil] at r; cases r; exact .nil
 | k :: ks,_,r=>by
  rw [List.map_cons] at r
  cases r with
  | cons h t=>exact .cons (kV_is h) (JcP t)
abbrev KT (H:Hp):List (List Key × V) -> List (List Key × Addr × Value) -> Prop:=Paired fun p q=>p.1 = q.1 /\ H q.2.1 = some (.tup (p.1.map kV)) /\ RelV p.2 q.2.2
theorem KT.val {H:Hp} {kvs:List (List Key × V)} {xs:List (List Key × Addr × Value)} (r:KT H kvs xs) (k:List Key):RelO (valV kvs k) ((atKey xs k).map (·.2)):=by
 induction r with
 | nil=>exact True.intro
 | @cons p q ps qs h t ih=>
  obtain ⟨h1,_,h2⟩:=h
  by_cases e:p.1 = k
  ·have e':q.1 = k:=h1.symm.trans e
   have b:atKey (q :: qs) k = some q.2:=by simp [atKey,List.find?_cons,e']
   rw [JbS e,b]; exact h2
  ·have e':¬ q.1 = k:=fun z=>e (h1.trans z)
   have b:atKey (q :: qs) k = atKey qs k:=by simp [atKey,List.find?_cons,e']
   rw [JbM e,b]; exact ih
theorem KT.repl {H:Hp} {kvs:List (List Key × V)} {xs:List (List Key × Addr × Value)} (r:KT H kvs xs) (k:List Key) {y:V} {u:Value} (ry:RelV y u) :
  KT H (kvs.map fun kv=>if kv.1 = k then (kv.1,y) else kv) (xs.map (putAt k u)):=by
 induction r with
 | nil=>exact .nil
 | @cons p q ps qs h t ih=>
  rw [List.map_cons,List.map_cons]
  refine .cons ?_ ih
  obtain ⟨h1,h2,h3⟩:=h
  unfold putAt
  by_cases e:p.1 = k
  ·rw [if_pos e,if_pos (h1.symm.trans e)]; exact ⟨h1,h2,ry⟩
  ·rw [if_neg e,if_neg (fun z=>e (h1.trans z))]; exact ⟨h1,h2,h3⟩
theorem KT.put {H:Hp} {kvs:List (List Key × V)} {xs:List (List Key × Addr × Value)} (r:KT H kvs xs) (k:List Key) {b:Addr} {y:V} {u:Value} (hb:H b = some (.tup (k.map kV))) (ry:RelV y u) :
  KT H (putK kvs k y) (storedH xs k b u):=by
 have e:(kvs.any fun kv=>decide (kv.1 = k)) = (atKey xs k).isSome:=by
  rw [JdR,(r.val k).isSome_eq,Option.isSome_map]
 unfold putK storedH
 rw [e]
 by_cases q:(atKey xs k).isSome = true
 ·rw [if_pos q,if_pos q]; exact r.repl k ry
 ·rw [if_neg q,if_neg q]; exact Paired.snoc r ⟨rfl,hb,ry⟩
section
variable {P:Program} {w:World} {H:Hp} {h:Heap} {a:Addr}
theorem key_of {ks:List Key} (ok:HOk P w H h) (e:H a = some (.tup (ks.map kV))):(tupleKind (mixKind P w)).is h ks a:=by
 obtain ⟨_,its,r,o,h1,h2,n,h3⟩:=(show ObjOk P w H h a (.tup (ks.map kV)) from ok a _ e)
 exact ⟨o,its.toArray,n,h1,h2,h3,by simpa using JcP r⟩
end
section
variable {X:Cx} {pins:List (Addr × Obj)} {σ:St} {H:Hp} {s:Shared} {a:Addr} {y v:V} {u r:Value} {o:Option V} {A:Around} {E:Value -> Shared -> Prop}
end
section
variable {X:Cx} {pins:List (Addr × Obj)} {σ:St} {H:Hp} {s:Shared} {a:Addr} {kvs:List (Key × V)} {k:Key} {u:Value} {A:Around} {E:Value -> Shared -> Prop}
end
def NoSl (i:Expr):Prop:=∀ ov iv,subscripted i false ov iv = operate [ov,iv] (getItem ov iv)
section
variable {X:Cx} {o i e value:Expr} {pos pos' tpos:Pos} {td ty tv:TE}
end
section
variable {X:Cx} {pos:Pos}
end
structure M2 (X:Cx) (o:Expr) (m:Str) (apos:Pos) (e f:Expr) (cpos:Pos):Prop where
 base:attributeBase o m X.env (eval o X.env) = eval o X.env
 few:((backTo cpos (starEach [e,f] X.env)).all (fun x=>!x.1) && (backToKw cpos (keywordEach [] X.env)).all (fun x=>x.1.isSome)
  && decide (([e,f]:List Expr).length + ([]:List Keyword).length + (if ([]:List Keyword).isEmpty then 0 else 1) < 30)) = true
 line:(apos.endLine == cpos.line) = true
 trees:backTo cpos (starEach [e,f] X.env) = [(false,eval e X.env),(false,eval f X.env)]
section
variable {X:Cx} {pins:List (Addr × Obj)} {σ:St} {H:Hp} {s:Shared} {a:Addr} {y d:V} {u r:Value} {o:Option V} {A:Around} {E:Value -> Shared -> Prop}
end
section
variable {X:Cx} {o e f:Expr} {apos cpos:Pos} {td ty tx:TE}
end
section
variable {X:Cx} {pins:List (Addr × Obj)} {σ:St} {H:Hp} {s:Shared} {a:Addr} {kvs:List (Key × V)} {A:Around} {E:Value -> Shared -> Prop}
end
section
variable {X:Cx} {pins:List (Addr × Obj)} {σ:St} {H:Hp} {s:Shared} {a:Addr} {y:V} {u:Value} {A:Around} {E:Value -> Shared -> Prop}
end
end L2
namespace L2
open PySem PySem.Spec PyProof.Rows
section
variable {X:Cx}
end
end L2
namespace Pu
open PySem
inductive D where
 | non | bl (b:Bool) | int (i:Int) | str (x:Str) | tup (ds:List D) | lst (ds:List D)
 /-- a dict,whose keys are tuples (t) or ints and texts,that no one changes any more (z) or not; a refusal that was taken; a def -/
 | dct (t z:Bool) (ks vs:List D) | exc (c:Str) | fn (x:Str) (i:Nat)
 deriving Inhabited
inductive Rs (α:Type) where
 | ok (a:α) | ex (c:Str) | stuck
def Rs.bind {α β:Type}:Rs α -> (α -> Rs β) -> Rs β
 | .ok a,f=>f a
 | .ex c,_=>.ex c
 | .stuck,_=>.stuck
def Rs.calm {α:Type}:Rs α -> Rs α
 | .ok a=>.ok a
 | .ex _=>.stuck
 | .stuck=>.stuck
@[simp] theorem Rs.calm_ok {α:Type} (a:α):(Rs.ok a).calm = .ok a:=rfl
def Rs.Good {α:Type} (r:Rs α) (P:α -> Prop) (E:Str -> Prop):Prop:=
 match r with
 | .ok a=>P a
 | .ex c=>E c
 | .stuck=>False
@[simp] theorem Rs.bind_ok {α β:Type} (a:α) (f:α -> Rs β):(Rs.ok a).bind f = f a:=rfl
@[simp] theorem Rs.bind_ex {α β:Type} (c:Str) (f:α -> Rs β):(Rs.ex c:Rs α).bind f = .ex c:=rfl
@[simp] theorem Rs.bind_stuck {α β:Type} (f:α -> Rs β):(Rs.stuck:Rs α).bind f = .stuck:=rfl
theorem Rs.bind_assoc {α β γ:Type} (r:Rs α) (f:α -> Rs β) (g:β -> Rs γ):(r.bind f).bind g = r.bind fun a=>(f a).bind g:=by
 cases r <;> rfl
theorem Rs.good_bind {α β:Type} {r:Rs α} {f:α -> Rs β} {P:β -> Prop} {E:Str -> Prop}:(r.bind f).Good P E ↔ r.Good (fun a=>(f a).Good P E) E:=by
 cases r <;> rfl
theorem Rs.good_calm {α:Type} {r:Rs α} {P:α -> Prop} {E E':Str -> Prop} (h:r.calm.Good P E):r.Good P E':=by
 cases r with
 | ok a=>exact h
 | ex c=>exact h.elim
 | stuck=>exact h
theorem Rs.Good.mono {α:Type} {r:Rs α} {P P':α -> Prop} {E E':Str -> Prop} (h:r.Good P E) (hp:∀ a,P a -> P' a) (he:∀ c,E c -> E' c):r.Good P' E':=by
 cases r with
 | ok a=>exact hp a h
 | ex c=>exact he c h
 | stuck=>exact h
theorem Rs.Good.imp {α:Type} {r:Rs α} {P P':α -> Prop} {E:Str -> Prop} (h:r.Good P E) (hp:∀ a,P a -> P' a):r.Good P' E:=h.mono hp fun _ x=>x
mutual
def D.eqv:D -> D -> Bool
 | .non,.non=>true
 | .bl a,.bl b=>a == b
 | .bl a,.int b=>(if a then 1 else 0) == b
 | .int a,.bl b=>a == (if b then 1 else 0)
 | .int a,.int b=>a == b
 | .str a,.str b=>a == b
 | .tup as,.tup bs=>eqvs as bs
 | .lst as,.lst bs=>eqvs as bs
 | _,_=>false
def eqvs:List D -> List D -> Bool
 | [],[]=>true
 | a :: as,b :: bs=>D.eqv a b && eqvs as bs
 | _,_=>false
end
mutual
def D.imm:D -> Bool
 | .tup ds=>imms ds
 | .lst _=>false
 | .dct _ z _ vs=>z && imms vs
 | _=>true
def imms:List D -> Bool
 | []=>true
 | d :: ds=>D.imm d && imms ds
end
mutual
def D.dep:D -> Nat
 | .tup ds=>deps ds + 1
 | .lst ds=>deps ds + 1
 | .dct _ _ _ _=>1000
 | .exc _=>1000
 | .fn _ _=>1000
 | _=>0
def deps:List D -> Nat
 | []=>0
 | d :: ds=>max (D.dep d) (deps ds)
end
def ixn (n:Nat) (i:Int):Option Nat:=if 0 <= i then (if i < n then some i.toNat else none) else if -(n:Int) <= i then some (i + n).toNat else none
def atD {α:Type} (xs:List α) (i:Int):Option α:=(ixn xs.length i).bind fun j=>xs[j]?
def six (n d:Nat):Option Int -> Nat
 | none=>d
 | some v=>if v < 0 then (v + (n:Int)).toNat else min v.toNat n
def cutD {α:Type} (xs:List α) (lo hi:Option Int):List α:=(xs.drop (six xs.length 0 lo)).take (six xs.length xs.length hi - six xs.length 0 lo)
def lineD:Nat:=16777216
def Rs.ofOpt {α:Type}:Option α -> Rs α
 | some a=>.ok a
 | none=>.stuck
def chars (x:Str):List D:=x.cps.toList.map fun c=>.str ⟨#[c]⟩
def D.walk:D -> Rs (List D)
 | .tup ds=>.ok ds
 | .lst ds=>.ok ds
 | .str x=>.ok (chars x)
 | _=>.stuck
def D.truth:D -> Rs Bool
 | .non=>.ok false
 | .bl b=>.ok b
 | .int i=>.ok (i != 0)
 | .str x=>if x.length <= lineD then .ok ((x.length:Int) != 0) else .stuck
 | .tup ds=>.ok (!ds.isEmpty)
 | .lst ds=>.ok (!ds.isEmpty)
 | _=>.stuck
def D.bound:D -> Rs (Option Int)
 | .non=>.ok none
 | .int i=>.ok (some i)
 | _=>.stuck
def ltS (a b:Str):Bool:=decide (a.cps.toList < b.cps.toList)
def insS (x:Str):List Str -> List Str
 | []=>[x]
 | y :: ys=>if x == y then y :: ys else if ltS x y then x :: y :: ys else y :: insS x ys
def sortS:List Str -> List Str
 | []=>[]
 | x :: xs=>insS x (sortS xs)
def strsOf:List D -> Option (List Str)
 | []=>some []
 | .str x :: ds=>(strsOf ds).map (x :: ·)
 | _ :: _=>none
inductive O1 where
 | neg | not | isN | notN | isT | notT | isF | notF | len | all | any | tuple | list | sset | lset | truth | isStr | isTup | isLst | isInt | isBool | range | enum | ints | asI | rows | asT
 | isC (cs:List Str) (c:Str) | items | dictP | rev | strI | join | rngT | dLen | minL | sortT | sumI | revT | dKeys
 deriving DecidableEq
inductive O2 where
 | add | sub | mul | fdiv | mod | pow | eq | ne | lt | le | gt | ge | isin | notin | idx | zip | starts | range2 | rep | repT | repU | repS | index | count | addI | dIn (t:Bool) | dNi (t:Bool) | dGet (t:Bool) | ltL | gtT | indexT | mulI
 deriving DecidableEq
def smallI (i:Int):Bool:=decide (-(2 ^ 64) < i) && decide (i < 2 ^ 64)
def midI (i:Int):Bool:=decide (-(2 ^ 62) <= i) && decide (i < 2 ^ 62)
def okDep (a:D):Bool:=decide (a.dep <= 20)
def upTo (lo:Int) (n:Nat):List D:=(List.range n).map fun (k:Nat)=>D.int (lo + (k:Int))
def enumFrom (k:Nat):List D -> List D
 | []=>[]
 | d :: ds=>.tup [.int k,d] :: enumFrom (k + 1) ds
def zipD:List D -> List D -> List D
 | a :: as,b :: bs=>.tup [a,b] :: zipD as bs
 | _,_=>[]
def blsOf:List D -> Option (List Bool)
 | []=>some []
 | .bl b :: ds=>(blsOf ds).map (b :: ·)
 | _ :: _=>none
def digs (cs:List Nat):Nat:=cs.foldl (fun acc c=>acc * 10 + (c - 48)) 0
def isFig (c:Nat):Bool:=decide (48 <= c) && decide (c <= 57)
def pieceD:D -> Option Str
 | .str x=>if x.length <= 1000 then some x else none
 | .int i=>if i.natAbs < 2 ^ 64 then some (toString i:String) else none
 | _=>none
def joinD:List D -> Option Str
 | []=>some Str.empty
 | d :: ds=>match pieceD d,joinD ds with
  | some x,some y=>if x.length + y.length <= 2000 then some (x ++ y) else none
  | _,_=>none
def rowsD:List D -> Option (List D × List D)
 | []=>some ([],[])
 | .tup [.str k,v] :: ds=>match rowsD ds with
  | some (ks,vs)=>some (.str k :: ks,v :: vs)
  | none=>none
 | _ :: _=>none
def banD (x:Str):Bool:=x == Str.ofString "any" || x == Str.ofString "number" || x == Str.ofString "one" || x == Str.ofString "rest" || x == Str.ofString "word"
def keyB:D -> Bool
 | .int _=>true
 | .str _=>true
 | _=>false
def keyI:D -> Bool
 | .int _=>true
 | _=>false
def keyS:D -> Bool
 | .str x=>!banD x
 | _=>false
def keyD (t:Bool):D -> Bool
 | .tup ds=>t && (ds.all keyI || ds.all keyS)
 | d=>!t && keyB d
def lookD (k:D):List D -> List D -> Option D
 | a :: ks,v :: vs=>if a.eqv k then some v else lookD k ks vs
 | _,_=>none
def setD (k v:D):List D -> List D -> List D
 | a :: ks,u :: vs=>(if a.eqv k then v else u) :: setD k v ks vs
 | _,vs=>vs
def putD (k v:D) (ks vs:List D):List D × List D:=if ks.any fun a=>a.eqv k then (ks,setD k v ks vs) else (ks ++ [k],vs ++ [v])
def idxD (x:D):List D -> Option Nat
 | []=>none
 | d :: ds=>if d.eqv x then some 0 else (idxD x ds).map (· + 1)
def minLen:List D -> Option (List D)
 | []=>none
 | .tup xs :: ds=>match minLen ds with
  | some ys=>if ys.length < xs.length then some ys else some xs
  | none=>if ds.isEmpty then some xs else none
 | _ :: _=>none
def rpS (x:Str) (k:Int):Str:=if k < 1 then Str.empty else if (k == 1 || x.length == 0) = true then x else ⟨List.foldl (fun a b=>a ++ b) #[] (List.replicate k.toNat x.cps)⟩
def intsOf:List D -> Option (List Int)
 | []=>some []
 | .int i :: ds=>(intsOf ds).map (i :: ·)
 | _ :: _=>none
def lexI:List Int -> List Int -> Bool
 | [],[]=>false
 | [],_ :: _=>true
 | _ :: _,[]=>false
 | i :: is,j :: js=>if i = j then lexI is js else decide (i < j)
def insK (x:List Int × D):List (List Int × D) -> List (List Int × D)
 | []=>[x]
 | y :: ys=>if lexI y.1 x.1 then y :: insK x ys else x :: y :: ys
def sortK:List (List Int × D) -> List (List Int × D)
 | []=>[]
 | x :: xs=>insK x (sortK xs)
def keysOf:List D -> Option (List (List Int))
 | []=>some []
 | .tup ks :: ds=>match intsOf ks,keysOf ds with
  | some k,some r=>some (k :: r)
  | _,_=>none
 | _ :: _=>none
def headsOf:List D -> Option (List Str)
 | []=>some []
 | .tup (.str x :: _) :: ds=>(headsOf ds).map (x :: ·)
 | _ :: _=>none
def insT (x:Str × D):List (Str × D) -> List (Str × D)
 | []=>[x]
 | y :: ys=>if ltS y.1 x.1 then y :: insT x ys else x :: y :: ys
def sortT:List (Str × D) -> List (Str × D)
 | []=>[]
 | x :: xs=>insT x (sortT xs)
def dictPD (ds:List D):Rs D:=match rowsD ds with
 | some (ks,vs)=>if ks.Pairwise (fun a b=>a.eqv b = false) /\ ks.length <= 1000 then .ok (.dct false true ks vs) else .stuck
 | none=>.stuck
def dspD (t:Bool) (ks vs:List D):Rs D:=match t with
 | true=>match ks,vs with
  | [k],[v]=>if keyD true k then .ok (.dct true true [k] [v]) else .stuck
  | _,_=>.stuck
 | false=>if ks.all keyB && decide (ks.Pairwise fun a b=>a.eqv b = false) && decide (ks.length = vs.length) && decide (ks.length <= 15) then .ok (.dct false true ks vs) else .stuck
def isiD (f:D -> Bool):D -> Rs D
 | .dct _ _ _ _=>.stuck
 | .exc _=>.stuck
 | .fn _ _=>.stuck
 | d=>.ok (.bl (f d))
def op1 (o:O1) (d:D):Rs D:=
 match o with
 | .neg=>match d with
  | .int i=>.ok (.int (-i))
  | _=>.stuck
 | .not=>match d with
  | .bl b=>.ok (.bl !b)
  | _=>.stuck
 | .isN=>match d with
  | .non=>.ok (.bl true)
  | _=>.ok (.bl false)
 | .notN=>match d with
  | .non=>.ok (.bl false)
  | _=>.ok (.bl true)
 | .isT=>match d with
  | .bl b=>.ok (.bl b)
  | _=>.stuck
 | .notT=>match d with
  | .bl b=>.ok (.bl !b)
  | _=>.stuck
 | .isF=>match d with
  | .bl b=>.ok (.bl !b)
  | _=>.stuck
 | .notF=>match d with
  | .bl b=>.ok (.bl b)
  | _=>.stuck
 | .len=>match d with
  | .tup ds=>.ok (.int ds.length)
  | .lst ds=>.ok (.int ds.length)
  | .str x=>if x.length <= lineD then .ok (.int x.length) else .stuck
  | _=>.stuck
 | .all=>match d with
  | .lst ds=>match blsOf ds with
   | some bs=>.ok (.bl (bs.all id))
   | none=>.stuck
  | _=>.stuck
 | .any=>match d with
  | .lst ds=>match blsOf ds with
   | some bs=>.ok (.bl (bs.any id))
   | none=>.stuck
  | _=>.stuck
 | .tuple=>match d with
  | .tup ds=>.ok (.tup ds)
  | .lst ds=>.ok (.tup ds)
  | _=>.stuck
 | .list=>match d with
  | .tup ds=>.ok (.lst ds)
  | .lst ds=>.ok (.lst ds)
  | _=>.stuck
 | .sset=>match d with
  | .lst ds=>match strsOf ds with
   | some ss=>if ss.length < 60 then .ok (.lst ((sortS ss).map .str)) else .stuck
   | none=>.stuck
  | _=>.stuck
 | .lset=>match d with
  | .lst ds=>match strsOf ds with
   | some ss=>if ss.length < 60 then .ok (.int (sortS ss).length) else .stuck
   | none=>.stuck
  | _=>.stuck
 | .truth=>d.truth.bind fun b=>.ok (.bl b)
 | .isStr=>isiD (fun d=>match d with
   | .str _=>true
   | _=>false) d
 | .isTup=>isiD (fun d=>match d with
   | .tup _=>true
   | _=>false) d
 | .isLst=>isiD (fun d=>match d with
   | .lst _=>true
   | _=>false) d
 | .isInt=>isiD (fun d=>match d with
   | .int _=>true
   | .bl _=>true
   | _=>false) d
 | .isBool=>isiD (fun d=>match d with
   | .bl _=>true
   | _=>false) d
 | .range=>match d with
  | .int i=>if midI i then .ok (.lst (upTo 0 i.toNat)) else .stuck
  | _=>.stuck
 | .enum=>match d with
  | .tup ds=>.ok (.lst (enumFrom 0 ds))
  | .lst ds=>.ok (.lst (enumFrom 0 ds))
  | _=>.stuck
 | .ints=>match d with
  | .str x=>if x.cps.toList.all isFig && decide (x.cps.toList ≠ []) && decide (x.cps.toList.length <= 640) then .ok (.int (digs x.cps.toList)) else .stuck
  | _=>.stuck
 | .asI=>match d with
  | .int i=>.ok (.int i)
  | _=>.stuck
 | .rows=>match d with
  | .tup ds=>.ok (.tup ds)
  | .lst ds=>.ok (.lst ds)
  | _=>.stuck
 | .asT=>match d with
  | .tup ds=>.ok (.tup ds)
  | _=>.stuck
 | .dKeys=>match d with
  | .dct true _ ks _=>.ok (.lst ks)
  | _=>.stuck
 | .dLen=>match d with
  | .dct _ _ ks _=>.ok (.int ks.length)
  | _=>.stuck
 | .isC cs c=>match d with
  | .exc c'=>if cs.contains c' then .ok (.bl (c == Str.ofString "ValueError" || c' == c)) else .stuck
  | _=>.stuck
 | .items=>match d with
  | .dct _ true ks vs=>.ok (.lst (zipD ks vs))
  | _=>.stuck
 | .dictP=>match d with
  | .tup ds=>dictPD ds
  | .lst ds=>dictPD ds
  | _=>.stuck
 | .rev=>match d with
  | .lst ds=>.ok (.lst ds.reverse)
  | _=>.stuck
 | .strI=>match d with
  | .str x=>if x.length <= 1000 then .ok (.str x) else .stuck
  | .int i=>if i.natAbs < 2 ^ 64 then .ok (.str (toString i:String)) else .stuck
  | _=>.stuck
 | .join=>match d with
  | .lst ds=>match joinD ds with
   | some x=>.ok (.str x)
   | none=>.stuck
  | _=>.stuck
 | .minL=>match d with
  | .lst []=>.ok .non
  | .lst (d :: ds)=>match minLen (d :: ds) with
   | some xs=>.ok (.tup xs)
   | none=>.stuck
  | _=>.stuck
 | .sortT=>match d with
  | .lst ds=>match headsOf ds with
   | some xs=>if xs.Nodup /\ ds.length <= 6 then .ok (.lst ((sortT (xs.zip ds)).map (·.2))) else .stuck
   | none=>.stuck
  | _=>.stuck
 | .revT=>match d with
  | .tup ds=>.ok (.tup ds.reverse)
  | _=>.stuck
 | .sumI=>match d with
  | .lst ds=>match intsOf ds with
   | some is=>if is.all (fun i=>decide (0 <= i /\ i <= 1000000)) && decide (is.length <= 1000) then .ok (.int is.sum) else .stuck
   | none=>.stuck
  | _=>.stuck
 | .rngT=>match d with
  | .int i=>if 0 <= i /\ i <= 1000 then .ok (.tup (upTo 0 i.toNat)) else .stuck
  | _=>.stuck
def repS (x:Str) (k:Int):Str:=⟨(List.replicate k.toNat x.cps).foldl (· ++ ·) #[]⟩
def hasSign (x:Str) (c:Nat):Bool:=decide (c ∈ x.cps.toList)
def op2 (o:O2) (a b:D):Rs D:=
 match o with
 | .add=>match a,b with
  | .int i,.int j=>.ok (.int (i + j))
  | .str x,.str y=>if x.length + y.length <= lineD then .ok (.str (x ++ y)) else .stuck
  | .tup xs,.tup ys=>if xs.length + ys.length <= lineD then .ok (.tup (xs ++ ys)) else .stuck
  | .lst xs,.lst ys=>if xs.length + ys.length <= lineD then .ok (.lst (xs ++ ys)) else .stuck
  | _,_=>.stuck
 | .addI=>match a,b with
  | .int i,.int j=>.ok (.int (i + j))
  | _,_=>.stuck
 | .sub=>match a,b with
  | .int i,.int j=>.ok (.int (i - j))
  | _,_=>.stuck
 | .mul=>match a,b with
  | .int i,.int j=>if smallI i || smallI j then .ok (.int (i * j)) else .stuck
  | .str x,.int k=>if 2 <= k /\ k <= 1000 /\ 1 <= x.length /\ x.length <= 1000 then .ok (.str (repS x k)) else .stuck
  | _,_=>.stuck
 | .fdiv=>match a,b with
  | .int i,.int j=>if 0 < j /\ j < 1073741824 then .ok (.int (i / j)) else .stuck
  | _,_=>.stuck
 | .mod=>match a,b with
  | .int i,.int j=>if 0 < j then .ok (.int (i % j)) else .stuck
  | _,_=>.stuck
 | .pow=>match a,b with
  | .int i,.int j=>if 0 <= j /\ j <= 1000000 /\ i.natAbs < 2 ^ 64 then .ok (.int (i ^ j.toNat)) else .stuck
  | _,_=>.stuck
 | .eq=>if okDep a && okDep b then .ok (.bl (a.eqv b)) else .stuck
 | .ne=>if okDep a && okDep b then .ok (.bl (!a.eqv b)) else .stuck
 | .lt=>match a,b with
  | .int i,.int j=>.ok (.bl (decide (i < j)))
  | .str x,.str y=>.ok (.bl (ltS x y))
  | _,_=>.stuck
 | .ltL=>match a,b with
  | .lst xs,.lst ys=>match intsOf xs,intsOf ys with
   | some is,some js=>if is.length <= 1000 /\ js.length <= 1000 then .ok (.bl (lexI is js)) else .stuck
   | _,_=>.stuck
  | _,_=>.stuck
 | .gtT=>match a,b with
  | .tup [.lst xs,.int i],.tup [.lst ys,.int j]=>match intsOf xs,intsOf ys with
   | some is,some js=>if is.length <= 1000 /\ js.length <= 1000 then .ok (.bl (if is = js then decide (j < i) else lexI js is)) else .stuck
   | _,_=>.stuck
  | _,_=>.stuck
 | .le=>match a,b with
  | .int i,.int j=>.ok (.bl (decide (i <= j)))
  | _,_=>.stuck
 | .gt=>match a,b with
  | .int i,.int j=>.ok (.bl (decide (j < i)))
  | _,_=>.stuck
 | .ge=>match a,b with
  | .int i,.int j=>.ok (.bl (decide (j <= i)))
  | _,_=>.stuck
 | .isin=>match a,b with
  | .str x,.str y=>if x.cps = #[x.cps.getD 0 0] then .ok (.bl (hasSign y (x.cps.getD 0 0))) else .stuck
  | a,.tup ds=>if okDep (.tup ds) && okDep a then .ok (.bl (ds.any fun d=>d.eqv a)) else .stuck
  | a,.lst ds=>if okDep (.lst ds) && okDep a then .ok (.bl (ds.any fun d=>d.eqv a)) else .stuck
  | _,_=>.stuck
 | .notin=>match a,b with
  | .str x,.str y=>if x.cps = #[x.cps.getD 0 0] then .ok (.bl (!hasSign y (x.cps.getD 0 0))) else .stuck
  | a,.tup ds=>if okDep (.tup ds) && okDep a then .ok (.bl (!ds.any fun d=>d.eqv a)) else .stuck
  | a,.lst ds=>if okDep (.lst ds) && okDep a then .ok (.bl (!ds.any fun d=>d.eqv a)) else .stuck
  | _,_=>.stuck
 | .idx=>match a,b with
  | .tup ds,.int i=>Rs.ofOpt (atD ds i)
  | .lst ds,.int i=>Rs.ofOpt (atD ds i)
  | .str x,.int i=>if x.length <= lineD then Rs.ofOpt ((atD x.cps.toList i).map fun c=>.str ⟨#[c]⟩) else .stuck
  | _,_=>.stuck
 | .zip=>match a,b with
  | .tup xs,.tup ys=>.ok (.lst (zipD xs ys))
  | .lst xs,.lst ys=>.ok (.lst (zipD xs ys))
  | .tup xs,.lst ys=>.ok (.lst (zipD xs ys))
  | .lst xs,.tup ys=>.ok (.lst (zipD xs ys))
  | _,_=>.stuck
 | .starts=>match a,b with
  | .str x,.str y=>.ok (.bl (decide (0 + y.length <= x.length) && (x.cps.extract 0 (0 + y.length) == y.cps)))
  | _,_=>.stuck
 | .rep=>match a,b with
  | .lst ds,.int k=>if midI k && decide (ds.length * k.toNat <= lineD) then .ok (.lst (List.replicate k.toNat ds).flatten) else .stuck
  | _,_=>.stuck
 | .repT=>match a,b with
  | .tup ds,.int k=>if decide (2 <= k) && decide (ds ≠ []) && decide (ds.length * k.toNat <= lineD) then .ok (.tup (List.replicate k.toNat ds).flatten) else .stuck
  | _,_=>.stuck
 | .repU=>match a,b with
  | .tup ds,.int k=>if decide (0 <= k) && decide (ds ≠ []) && decide (ds.length * k.toNat <= lineD) then .ok (.tup (List.replicate k.toNat ds).flatten) else .stuck
  | _,_=>.stuck
 | .repS=>match a,b with
  | .str x,.int k=>if decide (0 <= k) && decide (k <= 100) && decide (x.length <= 100) then .ok (.str (rpS x k)) else .stuck
  | _,_=>.stuck
 | .dIn t'=>match a,b with
  | k,.dct t _ ks _=>if t = t' /\ keyD t k = true then .ok (.bl (ks.any fun d=>d.eqv k)) else .stuck
  | _,_=>.stuck
 | .dNi t'=>match a,b with
  | k,.dct t _ ks _=>if t = t' /\ keyD t k = true then .ok (.bl (!ks.any fun d=>d.eqv k)) else .stuck
  | _,_=>.stuck
 | .dGet t'=>match a,b with
  | .dct t _ ks vs,k=>if t = t' /\ keyD t k = true then Rs.ofOpt (lookD k ks vs) else .stuck
  | _,_=>.stuck
 | .mulI=>match a,b with
  | .int i,.int j=>if smallI i || smallI j then .ok (.int (i * j)) else .stuck
  | _,_=>.stuck
 | .indexT=>match a,b with
  | .tup ds,x=>if okDep (.tup ds) && okDep x && decide (ds.length <= 1000) then Rs.ofOpt ((idxD x ds).map fun n=>.int n) else .stuck
  | _,_=>.stuck
 | .index=>match a,b with
  | .lst ds,x=>if okDep (.lst ds) && okDep x && decide (ds.length <= 1000) then Rs.ofOpt ((idxD x ds).map fun n=>.int n) else .stuck
  | _,_=>.stuck
 | .count=>match a,b with
  | .lst ds,x=>if okDep (.lst ds) && okDep x && decide (ds.length <= 1000) then .ok (.int (ds.countP fun d=>d.eqv x)) else .stuck
  | _,_=>.stuck
 | .range2=>match a,b with
  | .int i,.int j=>if midI i && midI j then .ok (.lst (upTo i (j - i).toNat)) else .stuck
  | _,_=>.stuck
inductive Px where
 | var (i:Nat) | con (d:D)
 | un (o:O1) (a:Px) | bi (o:O2) (a b:Px)
 | and (a b:Px) | or (a b:Px) | ite (c a b:Px)
 | nil | cons (a as:Px) | tup (as:Px) | dis (as:Px)
 | call (f:Nat) (as:Px)
 | sl (a lo hi:Px)
 | walk (a:Px)
 | comp (nt:Nat) (src c e:Px)
 | dsp (t:Bool) (ks vs:Px)
 /-- a call of what is in a name; sorted by a def -/
 | callv (fs:List (Str × Nat)) (a as:Px) | sortK (f:Nat) (a:Px)
 deriving Inhabited
def usesP:Px -> Nat -> Bool
 | .var j,i=>j == i
 | .con _,_=>false
 | .un _ a,i=>usesP a i
 | .bi _ a b,i=>usesP a i || usesP b i
 | .and a b,i=>usesP a i || usesP b i
 | .or a b,i=>usesP a i || usesP b i
 | .ite c a b,i=>usesP c i || usesP a i || usesP b i
 | .nil,_=>false
 | .cons a b,i=>usesP a i || usesP b i
 | .tup a,i=>usesP a i
 | .dis a,i=>usesP a i
 | .call _ a,i=>usesP a i
 | .sl a b c,i=>usesP a i || usesP b i || usesP c i
 | .walk a,i=>usesP a i
 | .comp nt s c e,i=>usesP s i || usesP c (i + (if nt = 0 then 1 else nt)) || usesP e (i + (if nt = 0 then 1 else nt))
 | .dsp _ a b,i=>usesP a i || usesP b i
 | .callv _ a b,i=>usesP a i || usesP b i
 | .sortK _ a,i=>usesP a i
def sepP (M:List Nat) (p:Px):Bool:=M.all fun i=>!usesP p i
abbrev Fm:=List (Option D)
def bindT (nt:Nat) (d:D):Rs Fm:=
 if nt = 0 then .ok [some d] else match d with
  | .tup ds=>if ds.length = nt then .ok (ds.map some) else .stuck
  | _=>.stuck
theorem Jek {nt:Nat} {d:D} {c:Str} (h:bindT nt d = .ex c):False:=by
 unfold bindT at h
 split at h
 ·cases h
 ·split at h
  ·split at h <;> cases h
  ·cases h
def compL (nt:Nat) (c e:Fm -> Rs D) (env:Fm):List D -> Rs (List D)
 | []=>.ok []
 | d :: ds=>(bindT nt d).bind fun new=>(c (new ++ env)).calm.bind fun b=>match b with
  | .bl true=>(e (new ++ env)).calm.bind fun y=>(compL nt c e env ds).bind fun ys=>.ok (y :: ys)
  | .bl false=>compL nt c e env ds
  | _=>.stuck
abbrev CallD:=Nat -> List D -> Rs D
def D.asL:D -> Rs (List D)
 | .lst ds=>.ok ds
 | _=>.stuck
def mapR (f:D -> Rs D):List D -> Rs (List D)
 | []=>.ok []
 | d :: ds=>(f d).bind fun y=>(mapR f ds).bind fun ys=>.ok (y :: ys)
def evD (call:CallD):Px -> Fm -> Rs D
 | .var i,env=>match env[i]? with
  | some (some d)=>.ok d
  | _=>.stuck
 | .con d,_=>.ok d
 | .un o a,env=>(evD call a env).bind (op1 o)
 | .bi o a b,env=>(evD call a env).bind fun x=>(evD call b env).bind fun y=>op2 o x y
 | .and a b,env=>(evD call a env).bind fun x=>match x with
  | .bl true=>evD call b env
  | .bl false=>.ok (.bl false)
  | _=>.stuck
 | .or a b,env=>(evD call a env).bind fun x=>match x with
  | .bl true=>.ok (.bl true)
  | .bl false=>evD call b env
  | _=>.stuck
 | .ite c a b,env=>(evD call c env).bind fun x=>match x with
  | .bl true=>evD call a env
  | .bl false=>evD call b env
  | _=>.stuck
 | .nil,_=>.ok (.lst [])
 | .cons a as,env=>(evD call a env).bind fun x=>(evD call as env).bind fun y=>y.asL.bind fun ds=>.ok (.lst (x :: ds))
 | .tup as,env=>(evD call as env).bind fun y=>y.asL.bind fun ds=>if ds.length <= lineD then .ok (.tup ds) else .stuck
 | .dis as,env=>(evD call as env).bind fun y=>y.asL.bind fun ds=>if ds.length <= lineD then .ok (.lst ds) else .stuck
 | .call f as,env=>(evD call as env).bind fun y=>y.asL.bind fun ds=>call f ds
 | .sl a lo hi,env=>(evD call a env).bind fun x=>(evD call lo env).bind fun l=>l.bound.bind fun l=>(evD call hi env).bind fun h=>h.bound.bind fun h=>match x with
  | .tup ds=>.ok (.tup (cutD ds l h))
  | .lst ds=>.ok (.lst (cutD ds l h))
  | _=>.stuck
 | .walk a,env=>(evD call a env).bind fun x=>x.walk.bind fun ds=>.ok (.lst ds)
 | .comp nt src c e,env=>(evD call src env).bind fun s=>s.asL.bind fun ds=>if ds.length <= lineD then (compL nt (evD call c) (evD call e) env ds).bind fun ys=>.ok (.lst ys) else .stuck
 | .dsp t k v,env=>(evD call k env).bind fun x=>(evD call v env).bind fun y=>x.asL.bind fun ks=>y.asL.bind fun vs=>dspD t ks vs
 | .callv fs a as,env=>(evD call a env).bind fun x=>match x with
  | .fn n i=>if fs.contains (n,i) then (evD call as env).bind fun y=>y.asL.bind fun ds=>call i ds else .stuck
  | _=>.stuck
 | .sortK f a,env=>(evD call a env).bind fun x=>x.walk.bind fun ds=>(mapR (fun d=>call f [d]) ds).calm.bind fun ks=>match keysOf ks with
  | some is=>if ds.length <= 6 then .ok (.lst ((sortK (is.zip ds)).map (·.2))) else .stuck
  | none=>.stuck
inductive Sx where
 | skip | seq (a b:Sx)
 /-- m: the expression reads what is changed here; then nothing that can be changed comes out of it -/
 | set (m:Bool) (i:Nat) (e:Px) | own (i:Nat) (e:Px)
 | app (m:Bool) (i:Nat) (e:Px) | ext (m:Bool) (i:Nat) (e:Px)
 | eff (e:Px) | ret (e:Px) | retN
 | ite (c:Px) (a b:Sx)
 | loop (m:Bool) (ts:List Nat) (nt:Nat) (src:Px) (body:Sx)
 | brk | cnt | raise (c:Str) (p:Px)
 | whl (n:Nat) (c:Px) (body:Sx)
 | put (m t:Bool) (i:Nat) (k v:Px) | ownD (t:Bool) (i:Nat) | retF (i:Nat)
 | tryC (i:Nat) (e:Px) (j:Nat) (cs:List Str)
 | mov (i j:Nat)
 /-- a list's item set,taken out,put in -/
 | seti (i:Nat) (k v:Px) | popi (t i:Nat) (k:Px) | insi (i:Nat) (k v:Px)
 /-- from here on other places are own ones; those in is are forgotten -/
 | sw (is:List Nat) (b:Sx)
 deriving Inhabited
inductive Fw where
 | nx | rt (d:D) | bk | ct
def setAll:List Nat -> List (Option D) -> Fm -> Fm
 | i :: is,s :: ss,env=>setAll is ss (env.set i s)
 | _,_,env=>env
def forL (ts:List Nat) (nt:Nat) (body:Fm -> Rs (Fw × Fm)):List D -> Fm -> Rs (Fw × Fm)
 | [],env=>.ok (.nx,env)
 | d :: ds,env=>(bindT nt d).bind fun new=>(body (setAll ts new env)).bind fun r=>match r with
  | (.nx,env2)=>forL ts nt body ds env2
  | (.ct,env2)=>forL ts nt body ds env2
  | (.bk,env2)=>.ok (.nx,env2)
  | (.rt d,env2)=>.ok (.rt d,env2)
def whlL (c:Fm -> Rs D) (body:Fm -> Rs (Fw × Fm)):Nat -> Fm -> Rs (Fw × Fm)
 | 0,_=>.stuck
 | n + 1,env=>(c env).bind fun b=>match b with
  | .bl true=>(body env).bind fun r=>match r with
   | (.nx,env2)=>whlL c body n env2
   | (.ct,env2)=>whlL c body n env2
   | (.bk,env2)=>.ok (.nx,env2)
   | (.rt d,env2)=>.ok (.rt d,env2)
  | .bl false=>.ok (.nx,env)
  | _=>.stuck
def txtOk:D -> Bool
 | .str x=>decide (x.length <= 1000) && x.cps.toList.all fun c=>decide (c < 256)
 | _=>false
def msgOk:D -> Bool
 | .lst ds=>ds.all txtOk
 | _=>false
def catchC (j:Nat) (cs:List Str) (env:Fm):Rs (Fw × Fm) -> Rs (Fw × Fm)
 | .ex c=>if cs.contains c then .ok (.nx,(env.map fun _=>none).set j (some (.exc c))) else .stuck
 | r=>r
def mutS:Sx -> Bool
 | .seq a b=>mutS a || mutS b
 | .app _ _ _=>true
 | .ext _ _ _=>true
 | .ite _ a b=>mutS a || mutS b
 | .loop _ _ _ _ b=>mutS b
 | .whl _ _ b=>mutS b
 | .put _ _ _ _ _=>true
 | .seti _ _ _=>true
 | .popi _ _ _=>true
 | .insi _ _ _=>true
 | _=>false
def blankD (M:List Nat):Nat -> Fm -> Fm
 | _,[]=>[]
 | j,s :: env=>(if j ∈ M then none else s) :: blankD M (j + 1) env
def swOut:Rs (Fw × Fm) -> Rs (Fw × Fm)
 | .ok (.rt d,env)=>.ok (.rt d,env)
 | .ok _=>.stuck
 | .ex c=>.ex c
 | .stuck=>.stuck
def exD (call:CallD):Sx -> Fm -> Rs (Fw × Fm)
 | .skip,env=>.ok (.nx,env)
 | .seq a b,env=>(exD call a env).bind fun r=>match r with
  | (.nx,env2)=>exD call b env2
  | r=>.ok r
 | .set m i e,env=>(evD call e env).bind fun d=>if m && !d.imm then .stuck else .ok (.nx,env.set i (some d))
 | .own i e,env=>(evD call e env).bind fun d=>match d with
  | .lst ds=>if !imms ds then .stuck else .ok (.nx,env.set i (some (.lst ds)))
  | _=>.stuck
 | .ownD t i,env=>.ok (.nx,env.set i (some (.dct t false [] [])))
 | .retF i,env=>match env[i]? with
  | some (some (.dct t false ks vs))=>.ok (.rt (.dct t true ks vs),env)
  | _=>.stuck
 | .app m i e,env=>match env[i]? with
  | some (some (.lst ds))=>(evD call e env).bind fun d=>if (m && !d.imm) || !decide (ds.length < lineD) then .stuck else .ok (.nx,env.set i (some (.lst (ds ++ [d]))))
  | _=>.stuck
 | .ext m i e,env=>match env[i]? with
  | some (some (.lst ds))=>(evD call e env).bind fun y=>y.asL.bind fun es=>if (m && !imms es) || !decide (ds.length + es.length <= lineD) then .stuck else .ok (.nx,env.set i (some (.lst (ds ++ es))))
  | _=>.stuck
 | .eff e,env=>(evD call e env).bind fun _=>.ok (.nx,env)
 | .ret e,env=>(evD call e env).bind fun d=>.ok (.rt d,env)
 | .retN,env=>.ok (.rt .non,env)
 | .ite c a b,env=>(evD call c env).bind fun x=>match x with
  | .bl true=>exD call a env
  | .bl false=>exD call b env
  | _=>.stuck
 | .loop m ts nt src body,env=>(evD call src env).bind fun s=>s.asL.bind fun ds=>if m && (mutS body || !imms ds) then .stuck else forL ts nt (exD call body) ds env
 | .brk,env=>.ok (.bk,env)
 | .cnt,env=>.ok (.ct,env)
 | .raise c p,env=>(evD call p env).bind fun d=>if msgOk d then .ex c else .stuck
 | .whl n c body,env=>whlL (evD call c) (exD call body) n env
 | .put m t' i k v,env=>match env[i]? with
  | some (some (.dct t false ks vs))=>(evD call v env).bind fun y=>(evD call k env).bind fun x=>if (m && !y.imm) || !(t == t') || !keyD t x || !decide (ks.length < 1000) then .stuck else .ok (.nx,env.set i (some (.dct t false (putD x y ks vs).1 (putD x y ks vs).2)))
  | _=>.stuck
 | .tryC i e j cs,env=>catchC j cs env ((evD call e env).bind fun d=>.ok (.nx,env.set i (some d)))
 | .mov i j,env=>match env[j]? with
  | some (some (.lst ds))=>.ok (.nx,(env.set i (some (.lst ds))).set j none)
  | _=>.stuck
 | .sw is b,env=>swOut (exD call b (blankD is 0 env))
 | .seti i k v,env=>match env[i]? with
  | some (some (.lst ds))=>(evD call v env).bind fun y=>(evD call k env).bind fun x=>match x with
   | .int n=>match ixn ds.length n with
    | some j=>.ok (.nx,env.set i (some (.lst (ds.set j y))))
    | none=>.stuck
   | _=>.stuck
  | _=>.stuck
 | .popi t i k,env=>match env[i]? with
  | some (some (.lst ds))=>(evD call k env).bind fun x=>match x with
   | .int n=>match ixn ds.length n with
    | some j=>match ds[j]? with
     | some d=>.ok (.nx,(env.set i (some (.lst (ds.eraseIdx j)))).set t (some d))
     | none=>.stuck
    | none=>.stuck
   | _=>.stuck
  | _=>.stuck
 | .insi i k v,env=>match env[i]? with
  | some (some (.lst ds))=>(evD call k env).bind fun x=>(evD call v env).bind fun y=>match x with
   | .int n=>if midI n && decide (ds.length < 1000) then .ok (.nx,env.set i (some (.lst (cutD ds none (some n) ++ y :: cutD ds (some n) none)))) else .stuck
   | _=>.stuck
  | _=>.stuck
theorem JaT {M:List Nat}:∀ (env:Fm) (j i:Nat),(blankD M j env)[i]? = (env[i]?).map fun s=>if j + i ∈ M then none else s
 | [],_,_=>by simp [blankD]
 | s :: env,j,0=>by simp [blankD]
 | s :: env,j,i + 1=>by
  have:=JaT (M:=M) env (j + 1) i
  simp only [blankD,List.getElem?_cons_succ,this]
  rw [show j + 1 + i = j + (i + 1) by omega]
theorem JfN {nt:Nat} {d:D} {new:Fm} (h:bindT nt d = .ok new):new.length = if nt = 0 then 1 else nt:=by
 unfold bindT at h
 split at h
 ·rename_i q; cases h; simp [q]
 ·rename_i q
  split at h
  ·split at h
   ·rename_i e; cases h; simp [q,e]
   ·cases h
  ·cases h
theorem JaY {nt:Nat} {c e c' e':Fm -> Rs D} {env env':Fm} (hc:∀ new:Fm,new.length = (if nt = 0 then 1 else nt) -> c (new ++ env) = c' (new ++ env')) (he:∀ new:Fm,new.length = (if nt = 0 then 1 else nt) -> e (new ++ env) = e' (new ++ env')) :
  ∀ ds,compL nt c e env ds = compL nt c' e' env' ds
 | []=>rfl
 | d :: ds=>by
  have ih:=JaY hc he ds
  unfold compL
  cases hb:bindT nt d with
  | ok new=>
   have hl:=JfN hb
   simp only [Rs.bind_ok,hc new hl,he new hl,ih]
  | ex x=>rfl
  | stuck=>rfl
theorem JfU (call:CallD):∀ (p:Px) (env env':Fm),(∀ i,usesP p i = true -> env[i]? = env'[i]?) -> evD call p env = evD call p env':=by
 intro p
 induction p with
 | var j=>intro env env' h; simp only [evD,h j (by simp [usesP])]
 | con d=>intro env env' h; rfl
 | un o a iha=>intro env env' h; simp only [evD,iha env env' fun i q=>h i (by simp [usesP,q])]
 | bi o a b iha ihb=>intro env env' h; simp only [evD,iha env env' fun i q=>h i (by simp [usesP,q]),ihb env env' fun i q=>h i (by simp [usesP,q])]
 | and a b iha ihb=>intro env env' h; simp only [evD,iha env env' fun i q=>h i (by simp [usesP,q]),ihb env env' fun i q=>h i (by simp [usesP,q])]
 | or a b iha ihb=>intro env env' h; simp only [evD,iha env env' fun i q=>h i (by simp [usesP,q]),ihb env env' fun i q=>h i (by simp [usesP,q])]
 | ite c a b ihc iha ihb=>intro env env' h; simp only [evD,ihc env env' fun i q=>h i (by simp [usesP,q]),iha env env' fun i q=>h i (by simp [usesP,q]),ihb env env' fun i q=>h i (by simp [usesP,q])]
 | nil=>intro env env' h; rfl
 | cons a b iha ihb=>intro env env' h; simp only [evD,iha env env' fun i q=>h i (by simp [usesP,q]),ihb env env' fun i q=>h i (by simp [usesP,q])]
 | tup a iha=>intro env env' h; simp only [evD,iha env env' fun i q=>h i (by simp [usesP,q])]
 | dis a iha=>intro env env' h; simp only [evD,iha env env' fun i q=>h i (by simp [usesP,q])]
 | call f a iha=>intro env env' h; simp only [evD,iha env env' fun i q=>h i (by simp [usesP,q])]
 | sl a b c iha ihb ihc=>intro env env' h; simp only [evD,iha env env' fun i q=>h i (by simp [usesP,q]),ihb env env' fun i q=>h i (by simp [usesP,q]),ihc env env' fun i q=>h i (by simp [usesP,q])]
 | walk a iha=>intro env env' h; simp only [evD,iha env env' fun i q=>h i (by simp [usesP,q])]
 | dsp t a b iha ihb=>intro env env' h; simp only [evD,iha env env' fun i q=>h i (by simp [usesP,q]),ihb env env' fun i q=>h i (by simp [usesP,q])]
 | callv fs a b iha ihb=>intro env env' h; simp only [evD,iha env env' fun i q=>h i (by simp [usesP,q]),ihb env env' fun i q=>h i (by simp [usesP,q])]
 | sortK f a iha=>intro env env' h; simp only [evD,iha env env' fun i q=>h i (by simp [usesP,q])]
 | comp nt s c e ihs ihc ihe=>
  intro env env' h
  have app:∀ (u:Px),(∀ i,usesP u (i + (if nt = 0 then 1 else nt)) = true -> env[i]? = env'[i]?) -> ∀ new:Fm,new.length = (if nt = 0 then 1 else nt) -> ∀ i,usesP u i = true -> (new ++ env)[i]? = (new ++ env')[i]?:=fun u hu new hl i hi=>by
   by_cases q:i < new.length
   ·rw [List.getElem?_append_left q,List.getElem?_append_left q]
   ·rw [List.getElem?_append_right (by omega),List.getElem?_append_right (by omega)]
    refine hu _ ?_
    rw [show i - new.length + (if nt = 0 then 1 else nt) = i by omega]
    exact hi
  simp only [evD,ihs env env' fun i q=>h i (by simp [usesP,q])]
  rw [show compL nt (evD call c) (evD call e) env = compL nt (evD call c) (evD call e) env' from funext fun ds=>JaY (fun new hl=>ihc _ _ (app c (fun i q=>h i (by simp [usesP,q])) new hl)) (fun new hl=>ihe _ _ (app e (fun i q=>h i (by simp [usesP,q])) new hl)) ds]
theorem JZ (call:CallD) {M:List Nat} {p:Px} (env:Fm) (h:sepP M p = true):evD call p (blankD M 0 env) = evD call p env:=by
 refine JfU call p _ _ fun i hi=>?_
 have hn:i ∉ M:=fun hm=>by
  have:=List.all_eq_true.mp h i hm
  rw [hi] at this; simp at this
 rw [JaT]
 simp only [Nat.zero_add,if_neg hn]
 cases env[i]? <;> rfl
def answerD:Rs (Fw × Fm) -> Rs D
 | .ok (.nx,_)=>.ok .non
 | .ok (.rt d,_)=>.ok d
 | .ok _=>.stuck
 | .ex c=>.ex c
 | .stuck=>.stuck
structure DefD where
 slots:Nat
 params:Nat
 body:Sx
def startD (n:Nat) (ds:List D):Fm:=ds.map some ++ List.replicate (n - ds.length) none
def runD (defs:List DefD):Nat -> CallD
 | 0=>fun _ _=>.stuck
 | k + 1=>fun f ds=>match defs[f]? with
  | some d=>if ds.length = d.params then answerD (exD (runD defs k) d.body (startD d.slots ds)) else .stuck
  | none=>.stuck
end Pu
namespace Pu
open PySem
theorem Rs.ofOpt_ex {α:Type} {o:Option α} {c:Str}:Rs.ofOpt o ≠ .ex c:=by cases o <;> simp [Rs.ofOpt]
theorem Jle (o:O2) (a b:D) (c:Str):op2 o a b ≠ .ex c:=by
 unfold op2
 split
 all_goals repeat' (first | (intro h; cases h; done) | exact Rs.ofOpt_ex | split)
theorem Jfh (d:D) (c:Str):d.truth ≠ .ex c:=by
 unfold D.truth
 split
 all_goals repeat' (first | (intro h; cases h; done) | split)
theorem JjS (f:D -> Bool) (d:D) (c:Str):isiD f d ≠ .ex c:=by
 unfold isiD
 split <;> (intro h; cases h)
theorem JfX (ds:List D) (c:Str):dictPD ds ≠ .ex c:=by
 unfold dictPD
 repeat' (first | (intro h; cases h; done) | split)
theorem Jlu (o:O1) (d:D) (c:Str):op1 o d ≠ .ex c:=by
 unfold op1
 split
 all_goals repeat' (first | (intro h; cases h; done) | exact JjS _ _ _ | exact JfX _ _ | (intro h; cases q:D.truth _ with | ok b=>(rw [q] at h; cases h) | ex e=>exact Jfh _ _ q | stuck=>(rw [q] at h; cases h)) | split)
def noEx:Px -> Bool
 | .var _=>true
 | .con _=>true
 | .un _ a=>noEx a
 | .bi _ a b=>noEx a && noEx b
 | _=>false
theorem Jbb (call:CallD):∀ (p:Px) (env:Fm) (c:Str),noEx p = true -> evD call p env ≠ .ex c
 | .var i,env,c,_=>by
  simp only [evD]
  cases env[i]? with
  | none=>intro h; cases h
  | some o=>cases o <;> (intro h; cases h)
 | .con d,env,c,_=>by simp only [evD]; intro h; cases h
 | .un o a,env,c,h=>by
  simp only [evD]
  cases q:evD call a env with
  | ok d=>exact Jlu o d c
  | ex e=>exact absurd q (Jbb call a env e h)
  | stuck=>intro h; cases h
 | .bi o a b,env,c,h=>by
  simp only [noEx,Bool.and_eq_true] at h
  simp only [evD]
  cases q:evD call a env with
  | ok d=>
   simp only [Rs.bind_ok]
   cases q2:evD call b env with
   | ok d2=>exact Jle o d d2 c
   | ex e=>exact absurd q2 (Jbb call b env e h.2)
   | stuck=>intro h; cases h
  | ex e=>exact absurd q (Jbb call a env e h.1)
  | stuck=>intro h; cases h
end Pu
namespace Pu
open PySem
theorem JbL (x:Str):∀ (l:List Str) (w:Str),w ∈ insS x l ↔ w = x \/ w ∈ l
 | [],w=>by simp [insS]
 | y :: ys,w=>by
  unfold insS
  split
  ·next h=>
   have:x = y:=by simpa using h
   subst this
   simp
  ·split
   ·simp
   ·simp only [List.mem_cons,JbL x ys w]
    constructor
    ·rintro (h | h | h) <;> simp [h]
    ·rintro (h | h | h) <;> simp [h]
theorem JH:∀ (l:List Str) (w:Str),w ∈ sortS l ↔ w ∈ l
 | [],w=>Iff.rfl
 | y :: ys,w=>by
  unfold sortS
  rw [JbL,JH ys w]
  simp
def LtS (a b:Str):Prop:=a.cps.toList < b.cps.toList
theorem LtS.irrefl (a:Str):¬ LtS a a:=List.lt_irrefl _
theorem LtS.trans {a b c:Str} (h:LtS a b) (h':LtS b c):LtS a c:=List.lt_trans h h'
theorem LtS.asymm {a b:Str} (h:LtS a b) (h':LtS b a):False:=LtS.irrefl a (h.trans h')
theorem LtS.total {a b:Str} (h:¬ LtS a b) (hn:a ≠ b):LtS b a:=by
 by_cases z:LtS b a
 ·exact z
 ·exfalso
  apply hn
  have e:a.cps.toList = b.cps.toList:=List.le_antisymm (List.not_lt.mp z) (List.not_lt.mp h)
  cases a with
  | mk x=>cases b with
   | mk y=>
    have:x = y:=Array.toList_inj.mp e
    rw [this]
theorem Jco (x:Str):∀ l:List Str,l.Pairwise LtS -> (insS x l).Pairwise LtS
 | [],_=>by simp [insS]
 | y :: ys,h=>by
  obtain ⟨h1,h2⟩:=List.pairwise_cons.mp h
  unfold insS
  split
  ·exact h
  ·next hne=>
   have hne:x ≠ y:=by simpa using hne
   split
   ·next hl=>
    have hl:LtS x y:=of_decide_eq_true (p:=x.cps.toList < y.cps.toList) hl
    refine List.pairwise_cons.mpr ⟨fun z hz=>?_,h⟩
    rcases List.mem_cons.mp hz with rfl | hz
    ·exact hl
    ·exact hl.trans (h1 z hz)
   ·next hl=>
    have hl:¬ LtS x y:=fun z=>hl (decide_eq_true (p:=x.cps.toList < y.cps.toList) z)
    refine List.pairwise_cons.mpr ⟨fun z hz=>?_,Jco x ys h2⟩
    rcases (JbL x ys z).mp hz with rfl | hz
    ·exact LtS.total hl hne
    ·exact h1 z hz
theorem Jat:∀ l:List Str,(sortS l).Pairwise LtS
 | []=>List.Pairwise.nil
 | x :: xs=>Jco x _ (Jat xs)
theorem JcF:∀ xs ys:List Str,xs.Pairwise LtS -> ys.Pairwise LtS -> (∀ k,k ∈ xs ↔ k ∈ ys) -> xs = ys
 | [],[],_,_,_=>rfl
 | [],y :: ys,_,_,h=>by
  have:=(h y).mpr (by simp)
  simp at this
 | x :: xs,[],_,_,h=>by
  have:=(h x).mp (by simp)
  simp at this
 | x :: xs,y :: ys,hx,hy,h=>by
  obtain ⟨x1,x2⟩:=List.pairwise_cons.mp hx
  obtain ⟨y1,y2⟩:=List.pairwise_cons.mp hy
  have e:x = y:=by
   rcases List.mem_cons.mp ((h x).mp (by simp)) with e | e
   ·exact e
   ·rcases List.mem_cons.mp ((h y).mpr (by simp)) with e' | e'
    ·exact e'.symm
    ·exact ((y1 x e).asymm (x1 y e')).elim
  subst e
  rw [JcF xs ys x2 y2 fun k=>?_]
  constructor
  ·intro hk
   rcases List.mem_cons.mp ((h k).mp (by simp [hk])) with e | e
   ·subst e; exact ((LtS.irrefl _) (x1 _ hk)).elim
   ·exact e
  ·intro hk
   rcases List.mem_cons.mp ((h k).mpr (by simp [hk])) with e | e
   ·subst e; exact ((LtS.irrefl _) (y1 _ hk)).elim
   ·exact e
theorem Jgc:∀ l:List Str,(sortS l).length <= l.length:=by
 have ins:∀ (x:Str) (l:List Str),(insS x l).length <= l.length + 1:=by
  intro x l
  induction l with
  | nil=>simp [insS]
  | cons y ys ih=>
   unfold insS
   split
   ·simp
   ·split
    ·simp
    ·simp only [List.length_cons]; omega
 intro l
 induction l with
 | nil=>simp [sortS]
 | cons x xs ih=>
  unfold sortS
  have:=ins x (sortS xs)
  simp only [List.length_cons]
  omega
end Pu
namespace Rd
open PySem PySem.Spec PyProof.Rows L2 PySem.W
theorem HOk.onB {P:Program} {w:World} {H:Hp} {B h h':Heap} (ok:HOk P w H h) (tr:∀ b u,H b = some u -> ∃ o,B.get? b = some o) (k1:B.StaysIn h) (k2:B.StaysIn h'):HOk P w H h':=fun a o e=>
 ObjOk.stay (ok a o e) (fun b u hb q=>by
  have ht:∃ o,B.get? b = some o:=by
   rcases hb with rfl | hb
   ·exact tr _ _ e
   ·exact tr _ _ hb
  obtain ⟨ob,hob⟩:=ht
  have h1:=k1 b ob hob
  rw [q] at h1
  cases h1
  exact k2 b _ hob) (fun _ z=>z) (fun _ _ z=>z)
theorem ObjOk.has {P:Program} {w:World} {H:Hp} {h:Heap} {a:Addr} {o:HO} (x:ObjOk P w H h a o):∃ ob,h.get? a = some ob:=by
 cases o with
 | lst xs=>obtain ⟨_,_,_,_,e⟩:=x; exact ⟨_,e⟩
 | tup xs=>obtain ⟨_,_,_,ob,e,_⟩:=x; exact ⟨_,e⟩
 | dK kvs=>obtain ⟨_,_,_,_,ob,_,_,e,_⟩:=x; exact ⟨_,e⟩
 | dT kvs=>obtain ⟨_,_,_,_,ob,_,_,e,_⟩:=x; exact ⟨_,e⟩
 | set S n=>obtain ⟨ob,_,_,_,e,_⟩:=x; exact ⟨_,e⟩
 | ins C dx fs=>obtain ⟨_,_,_,e,_⟩:=x; exact ⟨_,e⟩
 | own y=>obtain ⟨_,e⟩:=x; exact ⟨_,e⟩
 | xd fs=>obtain ⟨_,⟨_,_,_,e,_⟩,_⟩:=x; exact ⟨_,e⟩
 | rng lo hi=>obtain ⟨_,_,_,e⟩:=x; exact ⟨_,e⟩
 | frz ob u=>obtain ⟨e,_⟩:=x; exact ⟨_,e⟩
 | tbl ps=>exact ⟨_,(show h.get? a = some _ from x)⟩
 | met f y=>exact ⟨_,(show h.get? a = some _ from x)⟩
 | ext φ=>obtain ⟨_,⟨_,e⟩,_⟩:=x; exact ⟨_,e⟩
theorem HOk.has {P:Program} {w:World} {H:Hp} {h:Heap} (ok:HOk P w H h) {b:Addr} {u:HO} (e:H b = some u):∃ o,h.get? b = some o:=ObjOk.has (ok b u e)
def CXr (P:Program) (w:World):CXT:=fun outer H s E e s'=>∃ (a C:Addr) (H':Hp) (B:Heap) (a0:Value),e = .ref a /\ s'.os = s.os /\ AllBare s'.gens /\ Un (frs outer) [] H H' s.heap s'.heap /\ HOk P w H' s'.heap /\
 Heap.FlyingW B outer a (.ref C) a0 s'.heap /\ (∀ b u,H' b = some u -> ∃ o,B.get? b = some o) /\ (∀ b o,s.heap.get? b = some o -> b ∉ frs outer -> (H b = none -> B.get? b = some o) /\ ∃ o',B.get? b = some o') /\ E (.ref C) none H'
structure FlyIn (X:Cx) (C a:Addr) (H':Hp) (s':Shared):Prop where
 inv:∃ pins σ,Inv X pins σ H' s' /\ ((∃ h vs,Heap.MadeExcOf h s'.heap a (.ref C) vs /\ Inv X pins σ H' { s' with heap:=h }) \/
  ∃ B a0,Heap.FlyingW B X.stack a (.ref C) a0 s'.heap /\ (∀ b u,H' b = some u -> ∃ o,B.get? b = some o) /\ (∀ b o,X.s₀.heap.get? b = some o -> b ∉ frs X.stack -> b ∉ X.ex -> (X.H₀ b = none -> B.get? b = some o) /\ ∃ o',B.get? b = some o') /\ ∀ p ∈ X.pn,B.get? p.1 = some p.2)
section
variable {P:Program} {w:World} {K:PySem.W.Frag} {mg:Str -> Option Value} {base:Heap} {N:List Str} {qual:Str} {scope:Scope} {f:Addr} {cd:Value} {A:Around} {outer:List Env} {s:Shared} {H H':Hp} {E:XK} {C a:Addr} {s':Shared}
theorem Jfs {pins:List (Addr × Obj)} {σ:L2.St} {B h1 h':Heap} {a0:Value} (I:Inv (cxOf (CXr P w) P w K mg base N qual scope f cd A outer s H E) pins σ H' { s' with heap:=h1 })
  (fl:Heap.FlyingW B outer a (.ref C) a0 h') (k1:B.StaysIn h1) (up:h1.UpToSlots h') (tr:∀ b u,H' b = some u -> ∃ o,B.get? b = some o)
  (kp:∀ b o,s.heap.get? b = some o -> b ∉ frs (envOfC qual scope s.heap.objs.size f cd :: outer) -> (H b = none -> B.get? b = some o) /\ ∃ o',B.get? b = some o') (hE:E (.ref C) none H'):CXr P w outer H s E (.ref a) { s' with heap:=h' }:=by
 have hloc:∀ b o,s.heap.get? b = some o -> b ∉ frs outer -> b ∉ frs (envOfC qual scope s.heap.objs.size f cd :: outer):=fun b o hb hn hm=>by
  have hf:(envOfC qual scope s.heap.objs.size f cd).frame = some s.heap.objs.size:=rfl
  unfold frs at hm
  rw [List.filterMap_cons,hf] at hm
  rcases List.mem_cons.mp hm with e | hm
  ·have:=Heap.lt_size hb
   rw [e] at this
   exact absurd this (Nat.lt_irrefl _)
  ·exact hn hm
 have u:=I.base
 refine ⟨a,C,H',B,a0,rfl,I.os,I.bare,⟨?_,?_,?_,?_,u.tups,u.frzs,u.tbls⟩,HOk.onB I.hok tr k1 fl.1,fl,tr,fun b o hb hn=>kp b o hb (hloc b o hb hn),hE⟩
 ·intro b o hb hn hf _
  exact fl.1 b o ((kp b o hb (hloc b o hb hf)).1 hn)
 ·intro b o hb hn hf _
  obtain ⟨sl,e1⟩:=u.slot b o hb hn hf (by show b ∉ ([]:List Addr); simp)
  obtain ⟨_,o1,ho1,hd⟩:=(show s.heap.FunFrames base outer from I.ok.funs).mem hf
  rw [hb] at ho1
  cases ho1
  obtain ⟨sl2,e2⟩:=up b _ e1 hd
  exact ⟨sl2,e2⟩
 ·intro b o hb hn _
  exact u.free b o hb hn (by show b ∉ ([]:List Addr); simp)
 ·intro b o hb _
  by_cases hf:b ∈ frs outer
  ·obtain ⟨_,o1,ho1,hd⟩:=(show s.heap.FunFrames base outer from I.ok.funs).mem hf
   rw [hb] at ho1
   cases ho1
   obtain ⟨sl,e1⟩:=u.slot b o hb (I.ok.frf b hf) hf (by show b ∉ ([]:List Addr); simp)
   obtain ⟨sl2,e2⟩:=up b _ e1 hd
   exact ⟨_,e2⟩
  ·obtain ⟨o',e⟩:=(kp b o hb (hloc b o hb hf)).2
   exact ⟨o',fl.1 b o' e⟩
theorem JiJ (F:FlyIn (cxOf (CXr P w) P w K mg base N qual scope f cd A outer s H E) C a H' s') (hE:E (.ref C) none H'):(cxOf (CXr P w) P w K mg base N qual scope f cd A outer s H E).xe (.ref a) s':=by
 obtain ⟨pins,σ,I,hx⟩:=F.inv
 have hst:(cxOf (CXr P w) P w K mg base N qual scope f cd A outer s H E).stack = envOfC qual scope s.heap.objs.size f cd :: outer:=rfl
 show wpAny (model P w) (A.deeper (envOfC qual scope s.heap.objs.size f cd)) (leaving (envOfC qual scope s.heap.objs.size f cd) (.ref a)) _ _ s'
 have hfr:(A.deeper (envOfC qual scope s.heap.objs.size f cd)).frames = some (envOfC qual scope s.heap.objs.size f cd :: outer):=I.ok.frames
 rcases hx with ⟨h,vs,hm,Ih⟩ | ⟨B,a0,fl,tr,kp,_⟩
 ·have hin:∀ env ∈ (envOfC qual scope s.heap.objs.size f cd :: outer),∀ b,env.frame = some b -> b ∈ frs (envOfC qual scope s.heap.objs.size f cd :: outer):=fun env he b hb=>List.mem_filterMap.mpr ⟨env,he,hb⟩
  have hk:(hideAll h (frs (envOfC qual scope s.heap.objs.size f cd :: outer))).StaysIn h:=fun b o q=>of_hideAll _ q
  refine wpAny_leaves_madeW hfr rfl hk (funFrames_hide Ih.stack hin) hm fun h' t fl _ _ up=>?_
  refine Jfs (B:=hideAll h (frs (envOfC qual scope s.heap.objs.size f cd :: outer))) (h1:=h) Ih fl hk ((Heap.UpToSlots.of_keeps hm.keeps).trans up) (fun b u e=>?_) (fun b o hb hn=>⟨fun h0=>?_,?_⟩) hE
  ·obtain ⟨o,ho⟩:=HOk.has Ih.hok e
   exact ⟨o,hideAll_get _ ho fun z=>by rw [Ih.stkFree b z] at e; cases e⟩
  ·refine hideAll_get _ (Ih.base.keep b o hb h0 (fun z=>hn ?_) (by show b ∉ ([]:List Addr); simp)) hn
   exact List.mem_filterMap.mpr (by obtain ⟨e,he,hf⟩:=List.mem_filterMap.mp z; exact ⟨e,.tail _ he,hf⟩)
  ·obtain ⟨o',e⟩:=Ih.base.there b o hb (by show b ∉ ([]:List Addr); simp)
   exact ⟨o',hideAll_get _ e hn⟩
 ·refine wpAny_leaves_onW hfr rfl fl fun h' fl' up=>?_
  exact Jfs (h1:=s'.heap) I fl' fl.1 up tr (fun b o hb hn=>kp b o hb hn (by show b ∉ ([]:List Addr); simp)) hE
end
theorem Jec {X:Cx} {pins:List (Addr × Obj)} {σ:L2.St} {H:Hp} {s s':Shared} {E:XK} {e:Value} (I:Inv X pins σ H s) (h:CXr X.prog X.w X.stack H s E e s'):∃ a C H',e = .ref a /\ FlyIn X C a H' s' /\ E (.ref C) none H':=by
 obtain ⟨a,C,H',B,a0,rfl,ho,hg,u,hok,fl,tr,kp,hE⟩:=h
 have I':Inv X pins σ H' s':=I.call' ho u hok hg (fun b z=>absurd z (by simp))
 have hstk:∀ b,b ∉ X.fs -> b ≠ X.env.locals -> b ∉ frs X.stack:=fun b h1 h2 hm=>by
  rcases List.mem_cons.mp (I.stkSub b hm) with e | e
  ·exact h2 e
  ·exact h1 e
 refine ⟨a,C,H',rfl,⟨pins,σ,I',.inr ⟨B,a0,fl,tr,fun b o hb hn hnx=>?_,fun p hp=>?_⟩⟩,hE⟩
 rotate_left
 ·obtain ⟨q1,q2,q3,q4,_⟩:=I.pin p (List.mem_append_left _ hp)
  exact (kp p.1 p.2 q1 (hstk p.1 q4 q3)).1 q2
 have hnf:b ∉ X.fs:=fun z=>hn (by
  rcases I.ok.stk with e | ⟨e,_⟩
  ·rw [e]; exact z
  ·rw [e]
   obtain ⟨e',he,hf⟩:=List.mem_filterMap.mp z
   exact List.mem_filterMap.mpr ⟨e',.tail _ he,hf⟩)
 constructor
 ·intro h0
  have e1:=I.base.keep b o hb h0 hnf hnx
  exact (kp b o e1 hn).1 (I.base.free b o hb h0 hnx)
 ·obtain ⟨o1,e1⟩:=I.base.there b o hb hnx
  exact (kp b o1 e1 hn).2
section
variable {X:Cx} {x:Str} {C:Addr} {e:Expr} {te:TE} {np cpos pos:Pos} {bs0:List Value} {Bn nid iid:String}
end
end Rd
namespace Rd
open PySem PySem.Spec PyProof.Rows L2 Pu
def keyV:L2.Key -> D
 | .inl n=>.int n
 | .inr x=>.str x
def DK (H:Hp) (a:Addr) (t z:Bool) (ks:List D) (xs:List V):Prop:=match t with
 | true=>∃ kvs:List (List L2.Key × V),(match z with
  | true=>∃ o,H a = some (.frz o (.dT kvs))
  | false=>H a = some (.dT kvs)) /\ ks = kvs.map (fun p=>.tup (p.1.map keyV)) /\ xs = kvs.map (·.2)
 | false=>∃ kvs:List (L2.Key × V),(match z with
  | true=>∃ o,H a = some (.frz o (.dK kvs))
  | false=>H a = some (.dK kvs)) /\ ks = kvs.map (fun p=>keyV p.1) /\ xs = kvs.map (·.2)
theorem DK.mono {H H':Hp} {a:Addr} {t z:Bool} {ks:List D} {xs:List V} (e:∀ o,H a = some o -> H' a = some o) (h:DK H a t z ks xs):DK H' a t z ks xs:=by
 cases t <;> cases z <;> obtain ⟨kvs,h1,h2⟩:=h
 ·exact ⟨kvs,e _ h1,h2⟩
 ·exact ⟨kvs,let ⟨o,h⟩:=h1; ⟨o,e _ h⟩,h2⟩
 ·exact ⟨kvs,e _ h1,h2⟩
 ·exact ⟨kvs,let ⟨o,h⟩:=h1; ⟨o,e _ h⟩,h2⟩
mutual
def Rep (K:PySem.W.Frag) (H:Hp):D -> V -> Prop
 | .non,v=>v = .non
 | .bl b,v=>v = .bl b
 | .int i,v=>v = .int i
 | .str x,v=>v = .str x
 | .tup ds,v=>∃ a xs,v = .ref a /\ SqT K H a xs /\ Reps K H ds xs
 | .lst ds,v=>∃ a xs,v = .ref a /\ SqL K H a xs /\ Reps K H ds xs
 | .dct t z ks vs,v=>∃ a xs,v = .ref a /\ DK H a t z ks xs /\ Reps K H vs xs
 | .exc c,v=>∃ a o C,v = .ref a /\ H a = some (.frz o (.ext fun _=>True)) /\ o.cls = .ref C /\ PySem.W.nsIn K mainGlobals c = some (some (.ref C))
 | .fn x _,v=>∃ f,v = .ref f /\ PySem.W.nsIn K mainGlobals x = some (some (.ref f))
def Reps (K:PySem.W.Frag) (H:Hp):List D -> List V -> Prop
 | [],xs=>xs = []
 | d :: ds,xs=>∃ x r,xs = x :: r /\ Rep K H d x /\ Reps K H ds r
end
theorem SqT.same {K:PySem.W.Frag} {H H':Hp} {a:Addr} {xs:List V} (e:Same H H') (h:SqT K H a xs):SqT K H' a xs:=by
 rcases h with h | h
 ·exact .inl (e _ _ h)
 ·exact .inr h
mutual
theorem Rep.mono {K:PySem.W.Frag} {H H':Hp} (e:Same H H'):∀ (d:D) {v:V},Rep K H d v -> Rep K H' d v
 | .non,_,h=>h
 | .bl _,_,h=>h
 | .int _,_,h=>h
 | .str _,_,h=>h
 | .tup ds,_,⟨a,xs,e1,h1,h2⟩=>⟨a,xs,e1,SqT.same e h1,Reps.mono e ds h2⟩
 | .lst ds,_,⟨a,xs,e1,h1,h2⟩=>⟨a,xs,e1,e.seq h1,Reps.mono e ds h2⟩
 | .dct t z ks vs,_,⟨a,xs,e1,h1,h2⟩=>⟨a,xs,e1,h1.mono (e a),Reps.mono e vs h2⟩
 | .exc c,_,⟨a,o,C,e1,h1,h2⟩=>⟨a,o,C,e1,e _ _ h1,h2⟩
 | .fn x _,_,h=>h
theorem Reps.mono {K:PySem.W.Frag} {H H':Hp} (e:Same H H'):∀ (ds:List D) {xs:List V},Reps K H ds xs -> Reps K H' ds xs
 | [],_,h=>h
 | d :: ds,_,⟨x,r,e1,h1,h2⟩=>⟨x,r,e1,Rep.mono e d h1,Reps.mono e ds h2⟩
end
theorem Reps.length {K:PySem.W.Frag} {H:Hp}:∀ {ds:List D} {xs:List V},Reps K H ds xs -> xs.length = ds.length
 | [],_,h=>by cases h; rfl
 | d :: ds,_,⟨x,r,e1,h1,h2⟩=>by subst e1; simp [Reps.length h2]
theorem Reps.get {K:PySem.W.Frag} {H:Hp}:∀ {ds:List D} {xs:List V} {i:Nat} {d:D},Reps K H ds xs -> ds[i]? = some d -> ∃ x,xs[i]? = some x /\ Rep K H d x
 | [],_,_,_,_,e=>by simp at e
 | d :: ds,_,0,d',⟨x,r,e1,h1,h2⟩,e=>by subst e1; simp at e; subst e; exact ⟨x,rfl,h1⟩
 | d :: ds,_,i + 1,d',⟨x,r,e1,h1,h2⟩,e=>by
  subst e1
  obtain ⟨y,h3,h4⟩:=Reps.get (i:=i) h2 (by simpa using e)
  exact ⟨y,by simpa using h3,h4⟩
theorem Reps.get' {K:PySem.W.Frag} {H:Hp}:∀ {ds:List D} {xs:List V} {i:Nat} {x:V},Reps K H ds xs -> xs[i]? = some x -> ∃ d,ds[i]? = some d /\ Rep K H d x
 | [],_,_,_,h,e=>by cases h; simp at e
 | d :: ds,_,0,d',⟨x,r,e1,h1,h2⟩,e=>by subst e1; simp at e; subst e; exact ⟨d,rfl,h1⟩
 | d :: ds,_,i + 1,d',⟨x,r,e1,h1,h2⟩,e=>by
  subst e1
  obtain ⟨y,h3,h4⟩:=Reps.get' (i:=i) h2 (by simpa using e)
  exact ⟨y,by simpa using h3,h4⟩
theorem Reps.append {K:PySem.W.Frag} {H:Hp}:∀ {ds es:List D} {xs ys:List V},Reps K H ds xs -> Reps K H es ys -> Reps K H (ds ++ es) (xs ++ ys)
 | [],_,_,_,h,h'=>by cases h; exact h'
 | d :: ds,es,_,ys,⟨x,r,e1,h1,h2⟩,h'=>by subst e1; exact ⟨x,r ++ ys,rfl,h1,Reps.append h2 h'⟩
theorem Reps.take {K:PySem.W.Frag} {H:Hp}:∀ (n:Nat) {ds:List D} {xs:List V},Reps K H ds xs -> Reps K H (ds.take n) (xs.take n)
 | 0,_,_,h=>by simp [Reps]
 | n + 1,[],_,h=>by cases h; simp [Reps]
 | n + 1,d :: ds,_,⟨x,r,e1,h1,h2⟩=>by subst e1; exact ⟨x,r.take n,rfl,h1,Reps.take n h2⟩
theorem Reps.drop {K:PySem.W.Frag} {H:Hp}:∀ (n:Nat) {ds:List D} {xs:List V},Reps K H ds xs -> Reps K H (ds.drop n) (xs.drop n)
 | 0,_,_,h=>by simpa using h
 | n + 1,[],_,h=>by cases h; simp [Reps]
 | n + 1,d :: ds,_,⟨x,r,e1,h1,h2⟩=>by subst e1; exact Reps.drop n h2
theorem Reps.nil_iff {K:PySem.W.Frag} {H:Hp} {ds:List D} {xs:List V} (h:Reps K H ds xs):xs = [] ↔ ds = []:=by
 have:=h.length
 constructor
 ·intro e; subst e; cases ds with
  | nil=>rfl
  | cons _ _=>simp at this
 ·intro e; subst e; exact h
theorem Reps.one {K:PySem.W.Frag} {H:Hp} {d:D} {v:V} (h:Rep K H d v):Reps K H [d] [v]:=⟨v,[],rfl,h,rfl⟩
def Tups (K:PySem.W.Frag) (H H':Hp):Prop:=(∀ a xs,SqT K H a xs -> SqT K H' a xs) /\ ∀ a o u,H a = some (.frz o u) -> H' a = some (.frz o u)
theorem Tups.of {K:PySem.W.Frag} {H H':Hp} (e:Same H H'):Tups K H H':=⟨fun _ _ h=>SqT.same e h,fun _ _ _ h=>e _ _ h⟩
theorem Tups.trans {K:PySem.W.Frag} {H H1 H2:Hp} (a:Tups K H H1) (b:Tups K H1 H2):Tups K H H2:=⟨fun c o h=>b.1 c o (a.1 c o h),fun c o u h=>b.2 c o u (a.2 c o u h)⟩
mutual
theorem Rep.tups {K:PySem.W.Frag} {H H':Hp} (e:Tups K H H'):∀ (d:D) {v:V},d.imm = true -> Rep K H d v -> Rep K H' d v
 | .non,_,_,h=>h
 | .bl _,_,_,h=>h
 | .int _,_,_,h=>h
 | .str _,_,_,h=>h
 | .tup ds,_,i,⟨a,xs,e1,h1,h2⟩=>⟨a,xs,e1,e.1 _ _ h1,Reps.tups e ds (by simpa [D.imm] using i) h2⟩
 | .lst ds,_,i,_=>by simp [D.imm] at i
 | .dct t z ks vs,_,i,⟨a,xs,e1,h1,h2⟩=>by
  simp only [D.imm,Bool.and_eq_true] at i
  refine ⟨a,xs,e1,?_,Reps.tups e vs i.2 h2⟩
  obtain ⟨rfl,_⟩:=i
  cases t <;> obtain ⟨kvs,⟨o,h3⟩,h4⟩:=h1
  ·exact ⟨kvs,⟨o,e.2 _ _ _ h3⟩,h4⟩
  ·exact ⟨kvs,⟨o,e.2 _ _ _ h3⟩,h4⟩
 | .exc c,_,_,⟨a,o,C,e1,h1,h2⟩=>⟨a,o,C,e1,e.2 _ _ _ h1,h2⟩
 | .fn x _,_,_,h=>h
theorem Reps.tups {K:PySem.W.Frag} {H H':Hp} (e:Tups K H H'):∀ (ds:List D) {xs:List V},imms ds = true -> Reps K H ds xs -> Reps K H' ds xs
 | [],_,_,h=>h
 | d :: ds,_,i,⟨x,r,e1,h1,h2⟩=>by
  simp only [imms,Bool.and_eq_true] at i
  exact ⟨x,r,e1,Rep.tups e d i.1 h1,Reps.tups e ds i.2 h2⟩
end
def hid (L:List Addr) (H:Hp):Hp:=fun a=>if a ∈ L then none else H a
def Chgb:HO -> Prop
 | .lst _=>True
 | .dK _=>True
 | .dT _=>True
 | _=>False
def Ows (L:List Addr) (H:Hp):Prop:=∀ a ∈ L,∃ o,H a = some o /\ Chgb o
def ItOk (J:It):Prop:=∀ (L:List Addr) (i:Nat) (H:Hp) (x:V) (H':Hp),Ows L H -> J.yld i H x H' -> J.yld i (hid L H) x (hid L H')
section
variable {L L':List Addr} {H H' H1:Hp} {a:Addr} {o:HO}
theorem Jh (h:a ∉ L):hid L H a = H a:=by unfold hid; rw [if_neg h]
theorem Jal (h:a ∈ L):hid L H a = none:=by unfold hid; rw [if_pos h]
theorem JbU (h:hid L H a = some o):a ∉ L /\ H a = some o:=by
 unfold hid at h
 split at h
 ·cases h
 ·rename_i q; exact ⟨q,h⟩
theorem hid_same:Same (hid L H) H:=fun a o h=>(JbU h).2
theorem Jiu (k:∀ a o,H a = some o -> a ∉ L -> H' a = some o /\ a ∉ L'):Same (hid L H) (hid L' H'):=fun a o h=>by
 obtain ⟨h1,h2⟩:=JbU h
 obtain ⟨q1,q2⟩:=k a o h2 h1
 rw [Jh q2]; exact q1
theorem Jky:hid [] H = H:=by funext a; exact Jh (by simp)
theorem JgU (h:a ∉ L):hid L (upd H a o) = upd (hid L H) a o:=by
 funext b
 by_cases q:b = a
 ·subst q; rw [Jh h,Ji,Ji]
 ·rw [Ja q]
  by_cases r:b ∈ L
  ·rw [Jal r,Jal r]
  ·rw [Jh r,Jh r,Ja q]
end
def ReadOk (K:PySem.W.Frag) (H:Hp) (σ:L2.St) (env:Fm):Prop:=∀ (i:Nat) (d:D),env[i]? = some (some d) -> ∃ v,σ[i]? = some (some v) /\ Rep K H d v
theorem ReadOk.mono {K:PySem.W.Frag} {H H':Hp} {σ:L2.St} {env:Fm} (r:ReadOk K H σ env) (e:Same H H'):ReadOk K H' σ env:=fun i d h=>
 let ⟨v,h1,h2⟩:=r i d h
 ⟨v,h1,h2.mono e⟩
def XE (X:Cx) (C:Addr) (H:Hp):Prop:=∀ a s',FlyIn X C a H s' -> X.xe (.ref a) s'
def XW (X:Cx) (H:Hp) (c:Str):Prop:=∀ C H',X.mg c = some (.ref C) -> Same H H' -> XE X C H'
theorem XW.mono {X:Cx} {H H':Hp} {c:Str} (e:Same H H') (h:XW X H c):XW X H' c:=fun C H2 hm s=>h C H2 hm (e.trans s)
def Out (X:Cx) (H:Hp) (Q:VK) (d:D):Prop:=∀ v H',Same H H' -> Rep X.K H' d v -> Q v H'
theorem Out.mono {X:Cx} {H H1:Hp} {Q:VK} {d:D} (h:Out X H Q d) (e:Same H H1):Out X H1 Q d:=fun v H' e' r=>h v H' (e.trans e') r
theorem Out.now {X:Cx} {H:Hp} {Q:VK} {d:D} {v:V} (h:Out X H Q d) (r:Rep X.K H d v):Q v H:=h v H (Same.refl H) r
def tI (X:Cx) (call:CallD) (p:Px):TE:=fun σ H Q=>∃ env,ReadOk X.K H σ env /\ (evD call p env).Good (Out X H Q) (XW X H)
def tT (X:Cx) (call:CallD) (p:Px):TT:=fun σ H Q=>∃ env,ReadOk X.K H σ env /\ (evD call p env).Good (fun d=>∃ b,d = .bl b /\ ∀ H',Same H H' -> Q b H') (XW X H)
def tA (X:Cx) (call:CallD) (p:Px):TA:=fun σ H Q=>∃ env,ReadOk X.K H σ env /\ (evD call p env).Good (fun d=>∃ ds,d = .lst ds /\ ∀ vs H',Same H H' -> Reps X.K H' ds vs -> Q vs H') (XW X H)
section
variable {X:Cx} {call:CallD} {e a b c:Expr} {es:List Expr} {p pa pb pc:Px} {pos:Pos}
theorem PE.weak {t t':TE} (h:PE X e t) (hm:∀ σ H Q,t' σ H Q -> t σ H Q):PE X e t':=fun pins s σ H Q I hw=>h pins s σ H Q I (hm σ H Q hw)
theorem PT.weak {t t':TT} (h:PT X e t) (hm:∀ σ H Q,t' σ H Q -> t σ H Q):PT X e t':=fun pins s σ H Q I hw=>h pins s σ H Q I (hm σ H Q hw)
theorem PW.weak {t t':TT} (h:PW X e t) (hm:∀ σ H Q,t' σ H Q -> t σ H Q):PW X e t':=fun w pins s σ H Q I hw=>h w pins s σ H Q I (hm σ H Q hw)
theorem PA.weak {t t':TA} (h:PA X es t) (hm:∀ σ H Q,t' σ H Q -> t σ H Q):PA X es t':=fun p pins s σ H Q I hw=>h p pins s σ H Q I (hm σ H Q hw)
theorem tI.then {σ:L2.St} {H:Hp} {env:Fm} {Q:VK} {k:D -> Rs D} (r:ReadOk X.K H σ env) (h:((evD call p env).bind k).Good (Out X H Q) (XW X H)) {Q':VK}
  (hk:∀ d v H',Same H H' -> Rep X.K H' d v -> ReadOk X.K H' σ env -> (k d).Good (Out X H' Q) (XW X H') -> Q' v H'):tI X call p σ H Q':=by
 refine ⟨env,r,(Rs.good_bind.mp h).imp fun d hd v H' s rv=>hk d v H' s rv (r.mono s) (hd.mono (fun d' o=>o.mono s) fun c x=>x.mono s)⟩
theorem JkB {i:Nat} {x:Str} (hN:X.N[i]? = some x) (hv:Vis X.env.scope x) (hd:(x == ("__debug__" : Str)) = false) (hcd:(x == ("__classdict__" : Str)) = false):PE X (.Name x pos) (tI X call (.var i)):=by
 refine PE.weak (JdG hN hv hd hcd) fun σ H Q ⟨env,r,h⟩=>?_
 simp only [evD] at h
 cases q:env[i]? with
 | none=>rw [q] at h; exact h.elim
 | some o=>
  cases o with
  | none=>rw [q] at h; exact h.elim
  | some d=>
   rw [q] at h
   obtain ⟨v,h1,h2⟩:=r i d q
   exact ⟨v,h1,Out.now h h2⟩
theorem Jlr {i:Int} {j}:PE X (.Constant (.int i) j pos) (tI X call (.con (.int i))):=PE.weak JkP fun σ H Q ⟨env,r,h⟩=>Out.now h rfl
theorem pI_bl {i:Bool} {j}:PE X (.Constant (.bool i) j pos) (tI X call (.con (.bl i))):=PE.weak pe_bl fun σ H Q ⟨env,r,h⟩=>Out.now h rfl
theorem Jmp {j}:PE X (.Constant .none j pos) (tI X call (.con .non)):=PE.weak JkX fun σ H Q ⟨env,r,h⟩=>Out.now h rfl
theorem JkN {x:Str} {j}:PE X (.Constant (.str x) j pos) (tI X call (.con (.str x))):=PE.weak Jmw fun σ H Q ⟨env,r,h⟩=>Out.now h rfl
def GlobIs (X:Cx) (x:Str) (d:D):Prop:=∃ v u,X.mg x = some u /\ RelV v u /\ ∀ H,Rep X.K H d v
theorem JjB {x:Str} {d:D} (hg:Gl X x) (h:GlobIs X x d) (hd:(x == ("__debug__" : Str)) = false):PE X (.Name x pos) (tI X call (.con d)):=by
 obtain ⟨v,u,hm,r,hv⟩:=h
 exact PE.weak (Jkk hg hm r hd) fun σ H Q ⟨env,r,h⟩=>Out.now h (hv H)
def rD2 (X:Cx) (o:O2):R2:=fun x y H Q=>∃ dx dy,Rep X.K H dx x /\ Rep X.K H dy y /\ (op2 o dx dy).Good (Out X H Q) (XW X H)
theorem tI.two {o:O2} {σ:L2.St} {H:Hp} {Q:VK} (h:tI X call (.bi o pa pb) σ H Q):tOp (rD2 X o) (tI X call pa) (tI X call pb) σ H Q:=by
 obtain ⟨env,r,h⟩:=h
 simp only [evD] at h
 refine tI.then r h fun dx x H1 s1 r1 q1 h1=>?_
 refine tI.then q1 h1 fun dy y H2 s2 r2 q2 h2=>?_
 exact ⟨dx,dy,r1.mono s2,r2,h2⟩
theorem JcR {o:O2} {op:Operator} (ho:OpR X (binaryOp op) (rD2 X o)) (ha:PE X a (tI X call pa)) (hb:PE X b (tI X call pb)):PE X (.BinOp a op b pos) (tI X call (.bi o pa pb)):=
 PE.weak (pe_op ho ha hb) fun σ H Q h=>h.two
theorem JbX {o:O2} {op:CmpOp} (ho:OpR X (compareOp op) (rD2 X o)) (ha:PE X a (tI X call pa)) (hb:PE X b (tI X call pb)) (hm:behindInMarks op b = false):PE X (.Compare a [op] [b] pos) (tI X call (.bi o pa pb)):=
 PE.weak (JjF ho ha hb hm) fun σ H Q h=>h.two
theorem tT.asTest {σ:L2.St} {H:Hp} {Q:Bool -> Hp -> Prop} (h:tT X call p σ H Q):tI X call p σ H fun x H'=>∃ k,x = .bl k /\ Q k H':=by
 obtain ⟨env,r,h⟩:=h
 refine ⟨env,r,h.imp fun d hd v H' s rv=>?_⟩
 obtain ⟨b,e,q⟩:=hd
 subst e
 exact ⟨b,rv,q H' s⟩
theorem Jbc {o:O2} {op:CmpOp} (ho:OpR X (compareOp op) (rD2 X o)) (ha:PE X a (tI X call pa)) (hb:PE X b (tI X call pb)) (hm:behindInMarks op b = false):PT X (.Compare a [op] [b] pos) (tT X call (.bi o pa pb)):=
 PT.weak (Jjs ho ha hb hm) fun σ H Q h=>h.asTest.two
theorem pI_ix {o:O2} (hr:IxR X (rD2 X o)) (ha:PE X a (tI X call pa)) (hb:PE X b (tI X call pb)) (hs:PlainIx b):PE X (.Subscript a b pos) (tI X call (.bi o pa pb)):=
 PE.weak (pe_ix hr ha hb hs) fun σ H Q h=>h.two
theorem tT.and {σ:L2.St} {H:Hp} {Q:Bool -> Hp -> Prop} (h:tT X call (.and pa pb) σ H Q):tAnd (tT X call pa) (tT X call pb) σ H Q:=by
 obtain ⟨env,r,h⟩:=h
 simp only [evD] at h
 refine ⟨env,r,(Rs.good_bind.mp h).imp fun d hd=>?_⟩
 cases d with
 | bl b=>
  refine ⟨b,rfl,fun H' s=>?_⟩
  cases b with
  | true=>exact iteT ⟨env,r.mono s,hd.mono (fun d ⟨b',e,q⟩=>⟨b',e,fun H2 s2=>q H2 (s.trans s2)⟩) fun c x=>x.mono s⟩
  | false=>
   obtain ⟨b',e,q⟩:=hd
   cases e
   exact iteF (q H' s)
 | _=>exact hd.elim
theorem tT.or {σ:L2.St} {H:Hp} {Q:Bool -> Hp -> Prop} (h:tT X call (.or pa pb) σ H Q):tOr (tT X call pa) (tT X call pb) σ H Q:=by
 obtain ⟨env,r,h⟩:=h
 simp only [evD] at h
 refine ⟨env,r,(Rs.good_bind.mp h).imp fun d hd=>?_⟩
 cases d with
 | bl b=>
  refine ⟨b,rfl,fun H' s=>?_⟩
  cases b with
  | false=>exact iteF ⟨env,r.mono s,hd.mono (fun d ⟨b',e,q⟩=>⟨b',e,fun H2 s2=>q H2 (s.trans s2)⟩) fun c x=>x.mono s⟩
  | true=>
   obtain ⟨b',e,q⟩:=hd
   cases e
   exact iteT (q H' s)
 | _=>exact hd.elim
theorem Jmg {op} (ha:PT X a (tT X call pa)):PW X (.BoolOp op [a] pos) (tT X call pa):=by
 cases op
 ·exact Jkt ha
 ·exact Jls ha
theorem Jmc {rest:List Expr} (ha:PT X a (tT X call pa)) (hb:PW X (.BoolOp .And (b :: rest) pos) (tT X call pb)):PW X (.BoolOp .And (a :: b :: rest) pos) (tT X call (.and pa pb)):=
 PW.weak (JlP ha hb) fun σ H Q h=>h.and
theorem pW_or {rest:List Expr} (ha:PT X a (tT X call pa)) (hb:PW X (.BoolOp .Or (b :: rest) pos) (tT X call pb)):PW X (.BoolOp .Or (a :: b :: rest) pos) (tT X call (.or pa pb)):=
 PW.weak (pw_or ha hb) fun σ H Q h=>h.or
theorem JkQ (ha:PT X a (tT X call pa)):PT X (.UnaryOp .Not a pos) (tT X call (.un .not pa)):=by
 refine PT.weak (Jlg ha) fun σ H Q ⟨env,r,h⟩=>?_
 simp only [evD] at h
 refine ⟨env,r,(Rs.good_bind.mp h).imp fun d hd=>?_⟩
 cases d with
 | bl b=>
  obtain ⟨b',e,q⟩:=hd
  cases e
  exact ⟨b,rfl,q⟩
 | _=>exact hd.elim
theorem Jkv {K:PySem.W.Frag} {H:Hp} {d:D} {v:V} {b:Bool} (r:Rep K H d v) (h:d.truth = .ok b):TruV K v H b:=by
 cases d with
 | non=>cases r; simp only [D.truth] at h; cases h; rfl
 | bl c=>cases r; simp only [D.truth] at h; cases h; rfl
 | int i=>cases r; simp only [D.truth] at h; cases h; rfl
 | str x=>
  cases r
  simp only [D.truth] at h
  split at h
  ·rename_i q
   cases h
   exact ⟨by rw [sizeLine_eq]; exact q,rfl⟩
  ·cases h
 | tup ds=>
  obtain ⟨a,xs,rfl,h1,h2⟩:=r
  simp only [D.truth] at h
  cases h
  refine .inr (.inl ⟨xs,h1,?_⟩)
  have:=h2.length
  cases ds <;> cases xs <;> simp_all
 | lst ds=>
  obtain ⟨a,xs,rfl,h1,h2⟩:=r
  simp only [D.truth] at h
  cases h
  refine .inl ⟨xs,h1,?_⟩
  have:=h2.length
  cases ds <;> cases xs <;> simp_all
 | _=>simp only [D.truth] at h; cases h
theorem Jhs {d:D} {c:Str} (h:d.truth = .ex c):False:=by
 cases d <;> simp only [D.truth] at h <;> first | cases h | (split at h <;> cases h)
theorem Jjr {d:D} {c:Str} (h:d.walk = .ex c):False:=by
 cases d <;> simp only [D.walk] at h <;> cases h
theorem JlA (ha:PE X a (tI X call pa)) (he:∀ whole,isTrue a X.env whole = (do let v <- whole; standAt a.pos; holding [v] (truthy v))):PT X a (tT X call (.un .truth pa)):=by
 refine PT.weak (Jhv ha he) fun σ H Q ⟨env,r,h⟩=>?_
 simp only [evD] at h
 refine ⟨env,r,(Rs.good_bind.mp h).imp fun d hd v H' s rv=>?_⟩
 simp only [op1] at hd
 cases ht:d.truth with
 | ok b=>
  rw [ht] at hd
  obtain ⟨b',e,q⟩:=hd
  cases e
  exact ⟨b,Jkv rv ht,q H' s⟩
 | ex c=>exact (Jhs ht).elim
 | stuck=>rw [ht] at hd; exact hd.elim
theorem Jly {op} (ha:PE X a (tI X call pa)):PE X (.BoolOp op [a] pos) (tI X call pa):=JkG ha
theorem Jme {rest:List Expr} (ha:PE X a (tI X call pa)) (hb:PE X (.BoolOp .And (b :: rest) pos) (tI X call pb)):PE X (.BoolOp .And (a :: b :: rest) pos) (tI X call (.and pa pb)):=by
 refine PE.weak (JkV ha hb) fun σ H Q ⟨env,r,h⟩=>?_
 simp only [evD] at h
 refine tI.then r h fun d v H' s rv q hd=>?_
 cases d with
 | bl b=>
  cases rv
  refine ⟨b,rfl,?_⟩
  cases b with
  | true=>exact iteT ⟨env,q,hd⟩
  | false=>exact iteF (Out.now hd rfl)
 | _=>exact hd.elim
theorem pI_or {rest:List Expr} (ha:PE X a (tI X call pa)) (hb:PE X (.BoolOp .Or (b :: rest) pos) (tI X call pb)):PE X (.BoolOp .Or (a :: b :: rest) pos) (tI X call (.or pa pb)):=by
 refine PE.weak (pe_or ha hb) fun σ H Q ⟨env,r,h⟩=>?_
 simp only [evD] at h
 refine tI.then r h fun d v H' s rv q hd=>?_
 cases d with
 | bl b=>
  cases rv
  refine ⟨b,rfl,?_⟩
  cases b with
  | true=>exact iteT (Out.now hd rfl)
  | false=>exact iteF ⟨env,q,hd⟩
 | _=>exact hd.elim
theorem JlD (ha:PE X a (tI X call pa)):PE X (.UnaryOp .Not a pos) (tI X call (.un .not pa)):=by
 refine PE.weak (JkK ha) fun σ H Q ⟨env,r,h⟩=>?_
 simp only [evD] at h
 refine tI.then r h fun d v H' s rv q hd=>?_
 cases d with
 | bl b=>cases rv; exact ⟨b,rfl,Out.now hd rfl⟩
 | _=>exact hd.elim
theorem pI_if (hc:PT X c (tT X call pc)) (ha:PE X a (tI X call pa)) (hb:PE X b (tI X call pb)):PE X (.IfExp c a b pos) (tI X call (.ite pc pa pb)):=by
 refine PE.weak (Jhw hc ha hb) fun σ H Q ⟨env,r,h⟩=>?_
 simp only [evD] at h
 refine ⟨env,r,(Rs.good_bind.mp h).imp fun d hd=>?_⟩
 cases d with
 | bl b=>
  refine ⟨b,rfl,fun H' s=>?_⟩
  cases b with
  | true=>exact iteT ⟨env,r.mono s,hd.mono (fun d o=>o.mono s) fun c x=>x.mono s⟩
  | false=>exact iteF ⟨env,r.mono s,hd.mono (fun d o=>o.mono s) fun c x=>x.mono s⟩
 | _=>exact hd.elim
theorem Jbw:PA X [] (tA X call .nil):=by
 refine PA.weak JaD fun σ H Q ⟨env,r,h⟩=>?_
 obtain ⟨ds,e,q⟩:=h
 cases e
 exact q [] H (Same.refl H) rfl
theorem JQ (ha:PE X e (tI X call pa)) (hr:PA X es (tA X call pb)) (hs:starEach (e :: es) X.env = (false,eval e X.env) :: starEach es X.env:=by rfl):PA X (e :: es) (tA X call (.cons pa pb)):=by
 refine PA.weak (JD ha hr hs) fun σ H Q ⟨env,r,h⟩=>?_
 simp only [evD] at h
 refine ⟨env,r,(Rs.good_bind.mp h).imp fun d hd v H' s rv=>?_⟩
 refine ⟨env,r.mono s,((Rs.good_bind.mp hd).imp fun y hy=>?_).mono (fun _ x=>x) fun c x=>x.mono s⟩
 cases y with
 | lst ds=>
  refine ⟨ds,rfl,fun vs H2 s2 rs=>?_⟩
  obtain ⟨ds',e,q⟩:=hy
  cases e
  exact q (v :: vs) H2 (s.trans s2) ⟨v,vs,rfl,rv.mono s2,rs⟩
 | _=>exact hy.elim
theorem JeD {H:Hp} {a:Addr} {ds:List D} {xs:List V} {K:PySem.W.Frag} (h:H a = none) (r:Reps K H ds xs):Same H (upd H a (.tup xs)) /\ Rep K (upd H a (.tup xs)) (.tup ds) (.ref a):=by
 have s:Same H (upd H a (.tup xs)):=fun b o e=>by rw [Ja (Jg e h)]; exact e
 exact ⟨s,a,xs,rfl,SqT.of Ji,r.mono s⟩
theorem Jci {H:Hp} {a:Addr} {ds:List D} {xs:List V} {K:PySem.W.Frag} (h:H a = none) (r:Reps K H ds xs):Same H (upd H a (.lst xs)) /\ Rep K (upd H a (.lst xs)) (.lst ds) (.ref a):=by
 have s:Same H (upd H a (.lst xs)):=fun b o e=>by rw [Ja (Jg e h)]; exact e
 exact ⟨s,a,xs,rfl,SqL.of Ji,r.mono s⟩
theorem JlR {k:Nat} (h:PA X es (tA X call p)):PE X (.Tuple es k pos) (tI X call (.tup p)):=by
 refine PE.weak (Jmt h) fun σ H Q ⟨env,r,h⟩=>?_
 simp only [evD] at h
 refine ⟨env,r,(Rs.good_bind.mp h).imp fun d hd=>?_⟩
 cases d with
 | lst ds=>
  simp only [D.asL,Rs.bind_ok] at hd
  refine ⟨ds,rfl,fun vs H' s rs=>?_⟩
  split at hd
  ·rename_i hz
   refine ⟨by rw [rs.length,sizeLine_eq]; exact hz,fun a ha=>?_⟩
   obtain ⟨s2,r2⟩:=JeD ha rs
   exact hd _ _ (s.trans s2) r2
  ·exact hd.elim
 | _=>exact hd.elim
def OutF (X:Cx) (H:Hp) (Q:VK) (d:D):Prop:=∃ ds,d = .lst ds /\ ∀ l xs H',Same H H' -> H l = none -> H' l = some (.lst xs) -> Reps X.K H' ds xs -> Q (.ref l) H'
def tF (X:Cx) (call:CallD) (p:Px):TE:=fun σ H Q=>∃ env,ReadOk X.K H σ env /\ (evD call p env).Good (OutF X H Q) (XW X H)
end
end Rd
namespace Rd
open PySem PySem.Spec PyProof.Rows L2 Pu
structure Gw where
 prog:Program
 w:World
 K:PySem.W.Frag
 mg:Str -> Option Value
 base:Heap
 A:Around
def gwOf (X:Cx):Gw:=⟨X.prog,X.w,X.K,X.mg,X.base,X.A⟩
def visB (nm:List (Str × NameKind)) (x:Str):Bool:=match nm.lookup x with
 | some .local=>true
 | some .cell=>true
 | some .free=>true
 | _=>false
def celB (nm:List (Str × NameKind)) (x:Str):Bool:=match nm.lookup x with
 | some .cell=>true
 | some .free=>true
 | _=>false
def locB (nm:List (Str × NameKind)) (x:Str):Bool:=match nm.lookup x with
 | some .local=>true
 | some .cell=>true
 | _=>false
def gloB (nm:List (Str × NameKind)) (x:Str):Bool:=match nm.lookup x with
 | some .globalImplicit=>true
 | _=>false
structure Ctx (X:Cx) (G:Gw) (N:List Str) (nm:List (Str × NameKind)):Prop where
 g:gwOf X = G
 hN:X.N = N
 nd:N.Nodup
 vis:∀ x,visB nm x = true -> Vis X.env.scope x
 cel:∀ x,celB nm x = true -> X.env.kindOf x = some .cell \/ X.env.kindOf x = some .free
 glo:∀ x,gloB nm x = true -> Gl X x
 sto:∀ x,locB nm x = true -> Loc X.env.scope x /\ (X.fn x = true \/ X.env.scope.names.lookup x = some .local)
 calm:X.calm = true
 un:X.A.units + 64 < cLine
theorem Ctx.K {X:Cx} {G:Gw} {N:List Str} {nm:List (Str × NameKind)} (C:Ctx X G N nm):X.K = G.K:=by rw [<- C.g]; rfl
theorem Ctx.mg {X:Cx} {G:Gw} {N:List Str} {nm:List (Str × NameKind)} (C:Ctx X G N nm):X.mg = G.mg:=by rw [<- C.g]; rfl
def Walk (K:PySem.W.Frag) (J:It) (H:Hp) (ds:List D):Prop:=∀ H',Same H H' ->
 (∀ i,i < ds.length -> J.go i H') /\ J.stop ds.length H' /\ ∀ i x H'',i < ds.length -> J.yld i H' x H'' -> Same H' H'' /\ ∃ d,ds[i]? = some d /\ Rep K H'' d x
def tW (X:Cx) (call:CallD) (p:Px):TI:=fun σ H R=>∃ env,ReadOk X.K H σ env /\ (evD call p env).Good (fun d=>∃ ds,d = .lst ds /\ ∀ J H',Same H H' -> Walk X.K J H' ds -> ItOk J -> R J H') (XW X H)
def closL (cs:List (Str × Addr)):List (Str × NameKind) -> List (Str × Addr) -> List (Str × Addr)
 | [],acc=>acc
 | (n,k) :: r,acc=>match k,cs.lookup n with
  | .free,some a=>closL cs r ((n,a) :: acc)
  | _,_=>closL cs r acc
theorem Jy {env:Env}:∀ (names:List (Str × NameKind)) (acc:List (Str × Addr)),(∀ y ∈ names,y.2 = .free -> ∃ c,env.cells.lookup y.1 = some c) ->
  (forIn names acc fun x r=>if (x.2 == NameKind.free) = true then do let a <- cellOf env x.1; pure (ForInStep.yield ((x.1,a) :: r)) else pure (ForInStep.yield r):Sem (List (Str × Addr))) = pure (closL env.cells names acc)
 | [],acc,_=>rfl
 | (n,k) :: r,acc,h=>by
  rw [List.forIn_cons]
  by_cases hk:k = .free
  ·subst hk
   obtain ⟨c,hc⟩:=h (n,.free) (.head _) rfl
   have hc':env.cells.lookup n = some c:=hc
   have e1:cellOf env n = pure c:=by unfold cellOf; rw [hc']
   simp only [beq_self_eq_true,if_true,e1]
   have ih:=Jy r ((n,c) :: acc) fun y hy=>h y (.tail _ hy)
   simp only [closL,hc']
   exact ih
  ·have hb:(k == NameKind.free) = false:=by simpa using hk
   simp only [hb,Bool.false_eq_true,if_false]
   have ih:=Jy r acc fun y hy=>h y (.tail _ hy)
   have e2:closL env.cells ((n,k) :: r) acc = closL env.cells r acc:=by
    cases k <;> first | rfl | exact absurd rfl hk
   rw [e2]
   exact ih
theorem Jbu {scope:Scope} {env:Env} (h:∀ y ∈ scope.names,y.2 = .free -> ∃ c,env.cells.lookup y.1 = some c):closureFor scope env = pure (closL env.cells scope.names []):=by
 have e:=Jy (env:=env) scope.names [] h
 unfold closureFor
 simp only [bind_pure]
 exact e
theorem Jak {cs:List (Str × Addr)}:∀ (names:List (Str × NameKind)) (acc:List (Str × Addr)),(∀ x c,acc.lookup x = some c -> cs.lookup x = some c) -> ∀ x c,(closL cs names acc).lookup x = some c -> cs.lookup x = some c
 | [],acc,h=>h
 | (n,k) :: r,acc,h=>by
  intro x c
  have keep:=Jak r acc h x c
  unfold closL
  split
  ·rename_i a ha
   refine Jak r _ (fun y d e=>?_) x c
   by_cases hy:y = n
   ·subst hy
    simp only [List.lookup_cons,beq_self_eq_true] at e
    cases e
    exact ha
   ·have hb:(y == n) = false:=by simpa using hy
    simp only [List.lookup_cons,hb] at e
    exact h y d e
  ·exact keep
theorem Jav {cs:List (Str × Addr)}:∀ (names:List (Str × NameKind)) (acc:List (Str × Addr)) (x:Str),(∃ c,acc.lookup x = some c) -> ∃ c,(closL cs names acc).lookup x = some c
 | [],acc,x,h=>h
 | (n,k) :: r,acc,x,h=>by
  unfold closL
  split
  ·refine Jav r _ x ?_
   by_cases hy:x = n
   ·subst hy; exact ⟨_,by simp only [List.lookup_cons,beq_self_eq_true]; rfl⟩
   ·have hb:(x == n) = false:=by simpa using hy
    obtain ⟨c,hc⟩:=h
    exact ⟨c,by simp only [List.lookup_cons,hb]; exact hc⟩
  ·exact Jav r acc x h
theorem JT {cs:List (Str × Addr)}:∀ (names:List (Str × NameKind)) (acc:List (Str × Addr)) (x:Str),(x,NameKind.free) ∈ names -> (∃ c,cs.lookup x = some c) -> ∃ c,(closL cs names acc).lookup x = some c
 | [],acc,x,h,_=>nomatch h
 | (n,k) :: r,acc,x,h,hc=>by
  rcases List.mem_cons.mp h with e | h'
  ·cases e
   obtain ⟨c,hc⟩:=hc
   unfold closL
   rw [hc]
   exact Jav r _ _ ⟨c,by simp only [List.lookup_cons,beq_self_eq_true]⟩
  ·unfold closL
   split
   ·exact JT r _ x h' hc
   ·exact JT r acc x h' hc
def relk (env:Env) (p:Str × NameKind):Str × NameKind:=if (p.2 == NameKind.free && env.scope.kind == .function && env.kindOf p.1 == some .cell) = true then (p.1,NameKind.cell) else (p.1,p.2)
theorem Jdc (env:Env) (n:Str) (k:NameKind):relk env (n,k) = (n,k) \/ (k = .free /\ relk env (n,k) = (n,.cell)):=by
 unfold relk
 split
 ·rename_i hc
  simp only [Bool.and_eq_true,beq_iff_eq] at hc
  exact .inr ⟨hc.1.1,rfl⟩
 ·exact .inl rfl
theorem JbA (scope:Scope) (env:Env):(relabel scope env).names = scope.names.map (relk env):=rfl
theorem JS {env:Env} {x:Str}:∀ {names:List (Str × NameKind)} {k:NameKind},names.lookup x = some k -> (names.map (relk env)).lookup x = some k \/ (k = .free /\ (names.map (relk env)).lookup x = some .cell)
 | [],_,h=>by simp at h
 | (n,k') :: r,k,h=>by
  rw [List.map_cons]
  by_cases hx:x = n
  ·subst hx
   simp only [List.lookup_cons,beq_self_eq_true] at h
   cases h
   rcases Jdc env x k' with e | ⟨e1,e⟩
   ·rw [e]; exact .inl (by simp only [List.lookup_cons,beq_self_eq_true])
   ·rw [e]; exact .inr ⟨e1,by simp only [List.lookup_cons,beq_self_eq_true]⟩
  ·have hb:(x == n) = false:=by simpa using hx
   simp only [List.lookup_cons,hb] at h
   have ih:=JS (env:=env) h
   rcases Jdc env n k' with e | ⟨_,e⟩ <;> rw [e] <;> simp only [List.lookup_cons,hb] <;> exact ih
theorem Jcc {env:Env} {x:Str}:∀ {names:List (Str × NameKind)},names.lookup x = none -> (names.map (relk env)).lookup x = none
 | [],_=>rfl
 | (n,k') :: r,h=>by
  rw [List.map_cons]
  by_cases hx:x = n
  ·subst hx; simp only [List.lookup_cons,beq_self_eq_true] at h; cases h
  ·have hb:(x == n) = false:=by simpa using hx
   simp only [List.lookup_cons,hb] at h
   have ih:=Jcc (env:=env) h
   rcases Jdc env n k' with e | ⟨_,e⟩ <;> rw [e] <;> simp only [List.lookup_cons,hb] <;> exact ih
theorem Jb {scope:Scope} {env:Env} {x:Str} {k:NameKind} (h:scope.names.lookup x = some k):(relabel scope env).names.lookup x = some k \/ (k = .free /\ (relabel scope env).names.lookup x = some .cell):=JS h
theorem Jk {scope:Scope} {env:Env} {x:Str} {k:NameKind} (h:(relabel scope env).names.lookup x = some k):scope.names.lookup x = some k \/ (k = .cell /\ scope.names.lookup x = some .free):=by
 rw [JbA] at h
 cases q:scope.names.lookup x with
 | none=>rw [Jcc q] at h; cases h
 | some k'=>
  rcases JS (env:=env) q with z | ⟨z1,z2⟩
  ·rw [z] at h; cases h; exact .inl rfl
  ·rw [z2] at h; cases h; subst z1; exact .inr ⟨rfl,rfl⟩
theorem mem_of_lookup {α:Type}:∀ {l:List (Str × α)} {x:Str} {a:α},l.lookup x = some a -> (x,a) ∈ l
 | [],_,_,h=>by simp at h
 | (n,b) :: r,x,a,h=>by
  by_cases hx:x = n
  ·subst hx; simp only [List.lookup_cons,beq_self_eq_true] at h; cases h; exact .head _
  ·have hb:(x == n) = false:=by simpa using hx
   simp only [List.lookup_cons,hb] at h
   exact .tail _ (mem_of_lookup h)
theorem Jcr {prog:Program} {w:World} {A:Around} {R:Result -> Shared -> Prop} {s:Shared} {elt target iter:Expr} {ifs:List Expr} {scope:Scope} {pos:Pos} {it acc:Value} {env:Env} (I:Nat -> Shared -> Prop)
  (turn:∀ n s,I n s -> wpAny (model prog w) A (pyNext it) (fun r s₁=>match r with
   | none=>R (.ok .next) s₁
   | some v=>wpAny (model prog w) A (letOwnedTupleGo target it v) (fun _ s₁'=>wpAny (model prog w) A (assign target env v) (fun _ s₂=>
     wpAny (model prog w) A (forIn ifs true fun c r=>if r = true then do let ok <- isTrue c env (eval c env); pure (ForInStep.yield ok) else pure (ForInStep.yield r)) (fun ok s₃=>
      if ok = true then wpAny (model prog w) A (eval elt env) (fun x s₄=>
       wpAny (model prog w) A (PySem.call (.builtin "list.append") [acc,x]) (fun _ s₅=>∃ m,m < n /\ I m s₅) (notedBy (model prog w) A env fun e s'=>R (.error e) s') s₄) (notedBy (model prog w) A env fun e s'=>R (.error e) s') s₃
      else ∃ m,m < n /\ I m s₃) (notedBy (model prog w) A env fun e s'=>R (.error e) s') s₂) (notedBy (model prog w) A env fun e s'=>R (.error e) s') s₁') (notedBy (model prog w) A env fun e s'=>R (.error e) s') s₁) (notedBy (model prog w) A env fun e s'=>R (.error e) s') s)
  (n:Nat) (h:I n s) :
  codeAny (model prog w) A (.compLoop (.ListComp elt [⟨target,iter,ifs,0⟩] scope pos) 0 it acc env) R s:=by
 refine codeAny_loop rfl I (fun n s hI=>?_) n h
 show wpAny _ A ((compTurn (.ListComp elt [⟨target,iter,ifs,0⟩] scope pos) 0 it acc env).onRaise (fun x=>do noteFrame x env; theTreesLotGoes x)) _ _ s
 refine wpAny_noted ?_
 rw [compTurn_list]
 refine wpAny_bind (wpAny_standAt (wpAny_bind (wpAny_mono (turn n s hI) (fun r s₁ h₁=>?_) fun _ _ h'=>h')))
 cases r with
 | none=>exact wpAny_pure h₁
 | some v=>
  refine wpAny_bind (wpAny_mono h₁ (fun _ s₁' h₁'=>?_) fun _ _ h'=>h')
  refine wpAny_bind (wpAny_mono h₁' (fun _ s₂ h₂=>wpAny_bind (wpAny_mono h₂ (fun ok s₃ h₃=>?_) fun _ _ h'=>h')) fun _ _ h'=>h')
  cases ok with
  | false=>exact wpAny_pure ⟨rfl,h₃⟩
  | true=>
   exact wpAny_bind (wpAny_bind (wpAny_mono h₃ (fun x s₄ h₄=>wpAny_bind (wpAny_mono h₄ (fun _ s₅ h₅=>wpAny_pure (wpAny_pure ⟨rfl,h₅⟩)) fun _ _ h'=>h')) fun _ _ h'=>h'))
def dum (n:Str):Str:=⟨n.cps.push 0⟩
def hidN (ls N:List Str):List Str:=N.map fun n=>if ls.contains n then dum n else n
theorem Jdj:∀ (names:List (Str × NameKind)) (n:Nat) (acc:List (Str × Addr)) (x:Str) (c:Addr),(cellsFrom n names acc).lookup x = some c -> acc.lookup x = some c \/ (n <= c /\ (x,NameKind.cell) ∈ names)
 | [],_,_,_,_,h=>.inl h
 | (y,k) :: r,n,acc,x,c,h=>by
  unfold cellsFrom at h
  split at h
  ·rename_i hk
   rw [beq_iff_eq] at hk
   subst hk
   rcases Jdj r (n + 1) _ x c h with q | ⟨q1,q2⟩
   ·by_cases hx:x = y
    ·subst hx
     simp only [List.lookup_cons,beq_self_eq_true,Option.some.injEq] at q
     subst q
     exact .inr ⟨Nat.le_refl _,by simp⟩
    ·have hb:(x == y) = false:=by simpa using hx
     simp only [List.lookup_cons,hb] at q
     exact .inl q
   ·exact .inr ⟨Nat.le_of_succ_le q1,by simp [q2]⟩
  ·rcases Jdj r n acc x c h with q | ⟨q1,q2⟩
   ·exact .inl q
   ·exact .inr ⟨q1,by simp [q2]⟩
theorem JgW:∀ (names:List (Str × NameKind)) (n:Nat) (acc:List (Str × Addr)),(∀ x c,acc.lookup x = some c -> c < n) -> (∀ x y c,acc.lookup x = some c -> acc.lookup y = some c -> x = y) -> ∀ x y c,(cellsFrom n names acc).lookup x = some c -> (cellsFrom n names acc).lookup y = some c -> x = y
 | [],_,_,_,h=>h
 | (z,k) :: r,n,acc,hlt,h=>by
  unfold cellsFrom
  split
  ·refine JgW r (n + 1) _ (fun x c e=>?_) fun x y c e1 e2=>?_
   ·by_cases hx:x = z
    ·subst hx
     simp only [List.lookup_cons,beq_self_eq_true,Option.some.injEq] at e
     subst e; exact Nat.lt_succ_self _
    ·have hb:(x == z) = false:=by simpa using hx
     simp only [List.lookup_cons,hb] at e
     exact Nat.lt_succ_of_lt (hlt x c e)
   ·by_cases hx:x = z <;> by_cases hy:y = z
    ·rw [hx,hy]
    ·subst hx
     have hb:(y == x) = false:=by simpa using hy
     simp only [List.lookup_cons,beq_self_eq_true,Option.some.injEq] at e1
     simp only [List.lookup_cons,hb] at e2
     subst e1
     exact absurd (hlt y _ e2) (Nat.lt_irrefl _)
    ·subst hy
     have hb:(x == y) = false:=by simpa using hx
     simp only [List.lookup_cons,beq_self_eq_true,Option.some.injEq] at e2
     simp only [List.lookup_cons,hb] at e1
     subst e2
     exact absurd (hlt x _ e1) (Nat.lt_irrefl _)
    ·have hb:(x == z) = false:=by simpa using hx
     have hb2:(y == z) = false:=by simpa using hy
     simp only [List.lookup_cons,hb] at e1
     simp only [List.lookup_cons,hb2] at e2
     exact h x y c e1 e2
  ·exact JgW r n acc hlt h
theorem Jdw:∀ (names:List (Str × NameKind)) (n:Nat) (acc:List (Str × Addr)) (x:Str),(x,NameKind.cell) ∉ names -> (cellsFrom n names acc).lookup x = acc.lookup x
 | [],_,_,_,_=>rfl
 | (y,k) :: r,n,acc,x,h=>by
  unfold cellsFrom
  split
  ·rename_i hk
   rw [beq_iff_eq] at hk
   rw [Jdw r _ _ x fun q=>h (by simp [q])]
   have hx:x ≠ y:=fun e=>h (by simp [e,hk])
   have hb:(x == y) = false:=by simpa using hx
   simp only [List.lookup_cons,hb]
  ·exact Jdw r _ _ x fun q=>h (by simp [q])
theorem JbI:∀ (names:List (Str × NameKind)) (n:Nat) (acc:List (Str × Addr)) (x:Str),(∃ c,acc.lookup x = some c) -> ∃ c,(cellsFrom n names acc).lookup x = some c
 | [],_,_,_,h=>h
 | (y,k) :: r,n,acc,x,h=>by
  unfold cellsFrom
  split
  ·refine JbI r _ _ x ?_
   by_cases hx:x = y
   ·exact ⟨n,by simp [List.lookup_cons,hx]⟩
   ·have hb:(x == y) = false:=by simpa using hx
    simpa only [List.lookup_cons,hb] using h
  ·exact JbI r _ _ x h
theorem JiZ:∀ (names:List (Str × NameKind)) (n:Nat) (acc:List (Str × Addr)) (x:Str),(x,NameKind.cell) ∈ names -> ∃ c,(cellsFrom n names acc).lookup x = some c
 | [],_,_,_,h=>by cases h
 | (y,k) :: r,n,acc,x,h=>by
  unfold cellsFrom
  rcases List.mem_cons.mp h with q | q
  ·cases q
   simp only [beq_self_eq_true,if_true]
   exact JbI r _ _ _ ⟨n,by simp [List.lookup_cons]⟩
  ·split <;> exact JiZ r _ _ x q
theorem Jdg:∀ (names:List (Str × NameKind)) (h:Heap) (acc:List (Str × Addr)) (x:Str) (c:Addr),(cellsFrom h.objs.size names acc).lookup x = some c -> acc.lookup x = some c \/ (h.objs.size <= c /\ (pushCells h names).IsCell c none)
 | [],_,_,_,_,e=>.inl e
 | (y,k) :: r,h,acc,x,c,e=>by
  unfold cellsFrom at e
  unfold pushCells
  split at e
  ·rename_i hk
   rw [if_pos hk]
   have hsz:(h.push { cls:=.type "cell",data:=.cell none }).objs.size = h.objs.size + 1:=Heap.size_push ..
   rw [<- hsz] at e
   rcases Jdg r (h.push { cls:=.type "cell",data:=.cell none }) _ x c e with q | ⟨q1,q2⟩
   ·by_cases hx:x = y
    ·subst hx
     simp only [List.lookup_cons,beq_self_eq_true,Option.some.injEq] at q
     subst q
     exact .inr ⟨Nat.le_refl _,_,pushCells_keeps _ _ _ _ (Heap.get?_push_size _ rfl),rfl⟩
    ·have hb:(x == y) = false:=by simpa using hx
     simp only [List.lookup_cons,hb] at q
     exact .inl q
   ·exact .inr ⟨by omega,q2⟩
  ·rename_i hk
   rw [if_neg hk]
   exact Jdg r h acc x c e
theorem Jge {lo:Nat}:∀ (names:List (Str × NameKind)) (n:Nat) (acc:List (Str × Addr)) (x:Str),lo <= n -> ((x,NameKind.cell) ∈ names \/ ∀ c,acc.lookup x = some c -> lo <= c) -> ∀ c,(cellsFrom n names acc).lookup x = some c -> lo <= c
 | [],_,_,_,_,h,c,e=>by
  rcases h with h | h
  ·cases h
  ·exact h c e
 | (y,k) :: r,n,acc,x,hn,h,c,e=>by
  unfold cellsFrom at e
  split at e
  ·refine Jge r (n + 1) _ x (Nat.le_succ_of_le hn) ?_ c e
   by_cases hx:x = y
   ·refine .inr fun c' e'=>?_
    subst hx
    simp only [List.lookup_cons,beq_self_eq_true,Option.some.injEq] at e'
    subst e'; exact hn
   ·have hb:(x == y) = false:=by simpa using hx
    rcases h with h | h
    ·rcases List.mem_cons.mp h with q | q
     ·cases q; exact absurd rfl hx
     ·exact .inl q
    ·refine .inr fun c' e'=>?_
     simp only [List.lookup_cons,hb] at e'
     exact h c' e'
  ·rename_i hk
   refine Jge r n acc x hn ?_ c e
   rcases h with h | h
   ·rcases List.mem_cons.mp h with q | q
    ·cases q; exact absurd (beq_self_eq_true _) hk
    ·exact .inl q
   ·exact .inr h
def cxComp (X:Cx) (ls:List Str) (scope:Scope) (C:Addr) (s:Shared) (H:Hp) (fp:List Addr) (E:Value -> Shared -> Prop):Cx:=
 { X with N:=ls ++ hidN ls X.N,s₀:=s,H₀:=H,env:=compEnvC scope (cellsFrom (C + 1) scope.names (closL X.env.cells scope.names [])) C X.env,outer:=X.stack,ex:=fp,fn:=fun x=>scope.names.lookup x == some .cell,pn:=[],xe:=E }
def scOkB (N:List Str) (nm:List (Str × NameKind)) (ls:List Str) (sc:List (Str × NameKind)):Bool:=
 sc.all fun y=>(y.2 != .cell || (sc.lookup y.1 == some .cell && ls.contains y.1)) && (y.2 != .free || celB nm y.1) && (y.2 != .local || (sc.lookup y.1 == some .local && (ls.contains y.1 || !N.contains y.1)))
structure ScOk (N:List Str) (nm:List (Str × NameKind)) (ls:List Str) (sc:Scope):Prop where
 kind:sc.kind = .function
 nd:(ls ++ hidN ls N).Nodup
 all:scOkB N nm ls sc.names = true
 no:∀ n ∈ N,ls.contains n = true -> sc.names.lookup (dum n) = none
section
variable {N:List Str} {nm:List (Str × NameKind)} {ls:List Str} {sc:Scope}
theorem ScOk.at (h:ScOk N nm ls sc) {y:Str × NameKind} (hy:y ∈ sc.names):(y.2 = .cell -> sc.names.lookup y.1 = some .cell /\ y.1 ∈ ls) /\ (y.2 = .free -> celB nm y.1 = true) /\ (y.2 = .local -> sc.names.lookup y.1 = some .local /\ (y.1 ∈ ls \/ y.1 ∉ N)):=by
 have q:=List.all_eq_true.mp h.all y hy
 simp only [Bool.and_eq_true,bne_iff_ne,Bool.or_eq_true,beq_iff_eq,Bool.not_eq_true',List.contains_eq_mem,decide_eq_true_eq,decide_eq_false_iff_not] at q
 refine ⟨fun e=>?_,fun e=>?_,fun e=>?_⟩
 ·rcases q.1.1 with z | z
  ·exact absurd e z
  ·exact z
 ·rcases q.1.2 with z | z
  ·exact absurd e z
  ·exact z
 ·rcases q.2 with z | z
  ·exact absurd e z
  ·exact z
theorem ScOk.fcell (h:ScOk N nm ls sc) {x:Str} (hx:sc.names.lookup x = some .free):(x,NameKind.cell) ∉ sc.names:=fun q=>by
 have:=((h.at q).1 rfl).1
 rw [hx] at this; cases this
variable {X:Cx} {G:Gw}
theorem ScOk.cells (h:ScOk N nm ls sc) (C:Ctx X G N nm) (ok:X.Ok):∀ y ∈ sc.names,y.2 = .free -> ∃ c,X.env.cells.lookup y.1 = some c:=fun y hy e=>ok.has _ (C.cel _ ((h.at hy).2.1 e))
theorem JhP {Cd:Addr} {s:Shared} {H:Hp} {fp:List Addr} {E:Value -> Shared -> Prop} (C:Ctx X G N nm) (h:ScOk N nm ls sc):Ctx (cxComp X ls sc Cd s H fp E) G (ls ++ hidN ls N) sc.names where
 g:=C.g
 hN:=by show ls ++ hidN ls X.N = _; rw [C.hN]
 nd:=h.nd
 vis:=fun x hx=>by
  show Vis (relabel sc X.env) x
  unfold visB at hx
  split at hx
  ·rename_i e
   rcases Jb (env:=X.env) e with z | ⟨z,_⟩
   ·exact .inl z
   ·cases z
  ·rename_i e
   rcases Jb (env:=X.env) e with z | ⟨z,_⟩
   ·exact .inr (.inl z)
   ·cases z
  ·rename_i e
   rcases Jb (env:=X.env) e with z | ⟨_,z⟩
   ·exact .inr (.inr z)
   ·exact .inr (.inl z)
  ·cases hx
 cel:=fun x hx=>by
  show (relabel sc X.env).names.lookup x = some .cell \/ (relabel sc X.env).names.lookup x = some .free
  unfold celB at hx
  split at hx
  ·rename_i e
   rcases Jb (env:=X.env) e with z | ⟨z,_⟩
   ·exact .inl z
   ·cases z
  ·rename_i e
   rcases Jb (env:=X.env) e with z | ⟨_,z⟩
   ·exact .inr z
   ·exact .inl z
  ·cases hx
 glo:=fun x hx=>by
  show (relabel sc X.env).names.lookup x = some .globalImplicit
  unfold gloB at hx
  split at hx
  ·rename_i e
   rcases Jb (env:=X.env) e with z | ⟨z,_⟩
   ·exact z
   ·cases z
  ·cases hx
 sto:=fun x hx=>by
  show Loc (relabel sc X.env) x /\ ((sc.names.lookup x == some .cell) = true \/ (relabel sc X.env).names.lookup x = some .local)
  unfold locB at hx
  split at hx
  ·rename_i e
   rcases Jb (env:=X.env) e with z | ⟨z,_⟩
   ·exact ⟨.inl z,.inr z⟩
   ·cases z
  ·rename_i e
   rcases Jb (env:=X.env) e with z | ⟨z,_⟩
   ·exact ⟨.inr z,.inl (by rw [e]; rfl)⟩
   ·cases z
  ·cases hx
 calm:=C.calm
 un:=C.un
abbrev listObj (its:List Value) (n:Nat):Obj:={ cls:=.type "list",dict:=none,data:=.seq its.toArray n }
theorem Jil {pins:List (Addr × Obj)} {σ:L2.St} {H:Hp} {s:Shared} {h₁:Heap} {tk:Nat} {fp:List Addr} {E:Value -> Shared -> Prop} {m:Str -> Option Value} {Cd:Addr} {h0:Heap} (C:Ctx X G N nm) (h:ScOk N nm ls sc) (hh:h₁ = pushCells h0 sc.names) (h0s:h0.objs.size = Cd + 1) (I:Inv X pins σ H s)
  (hf:∀ b ∈ fp,FpOk X pins H b) (ho:∀ b ∈ fp,∃ o,s.heap.get? b = some o) (hC:Cd = s.heap.objs.size + 1) (hns:h₁.Ns Cd m) (keep:∀ b o,s.heap.get? b = some o -> h₁.get? b = some o)
  (hacc:h₁.get? s.heap.objs.size = some (listObj [] 0)) :
  Inv (cxComp X ls sc Cd s H fp E) [(s.heap.objs.size,listObj [] 0)] (List.replicate ls.length none ++ σ) H { s with heap:=h₁,toks:=tk }:=by
 subst hC
 have sub:∀ x c,(closL X.env.cells sc.names []).lookup x = some c -> X.env.cells.lookup x = some c:=Jak sc.names [] fun x c e=>by simp at e
 have old':∀ x c,(closL X.env.cells sc.names []).lookup x = some c -> c < s.heap.objs.size:=fun x c e=>by
  obtain ⟨v,o,h1,h2⟩:=I.cell x c (sub x c e)
  exact Heap.lt_size h1
 have sub':∀ x c,(cellsFrom (s.heap.objs.size + 1 + 1) sc.names (closL X.env.cells sc.names [])).lookup x = some c -> X.env.cells.lookup x = some c \/ (s.heap.objs.size + 1 + 1 <= c /\ h₁.IsCell c none):=fun x c e=>by
  rw [<- h0s] at e
  rcases Jdg sc.names h0 _ x c e with q | ⟨q1,q2⟩
  ·exact .inl (sub x c q)
  ·exact .inr ⟨h0s ▸ q1,hh ▸ q2⟩
 have stk:∀ b ∈ frs X.stack,b < s.heap.objs.size:=fun b hb=>by
  obtain ⟨_,o,ho,_⟩:=I.stack.mem hb
  exact Heap.lt_size ho
 refine ⟨⟨I.ok.mod,h.kind,I.ok.glob,I.ok.blt,Nat.le_succ _,JgW _ _ _ (fun x c e=>Nat.lt_succ_of_lt (Nat.lt_succ_of_lt (old' x c e))) fun x y c e1 e2=>I.ok.inj x y c (sub x c e1) (sub y c e2),fun x hk=>?_,fun x c z e=>?_,I.ok.hd,I.ok.frames,.inl rfl,fun b hb=>?_,I.bs,Nat.le_trans I.ok.bsz I.sz,fun b o e hb=>?_,fun b hb hz=>?_,I.stack,I.stkFree⟩,
  rfl,I.bare,Un.kept keep,⟨m,hns,fun i x v hN hσ hv=>?_⟩,fun x c e=>?_,?_,fun x c e=>?_,fun p hp=>?_,I.hok.kept keep,?_⟩
 ·-- every cell name has its cell
  have hk':(relabel sc X.env).names.lookup x = some .cell \/ (relabel sc X.env).names.lookup x = some .free:=hk
  have hfr:sc.names.lookup x = some .free \/ sc.names.lookup x = some .cell:=by
   rcases hk' with z | z
   ·rcases Jk z with q | ⟨_,q⟩
    ·exact .inr q
    ·exact .inl q
   ·rcases Jk z with q | ⟨q,_⟩
    ·exact .inl q
    ·cases q
  rcases hfr with hfr | hfr
  ·have hm:=mem_of_lookup hfr
   exact JbI _ _ _ _ (JT sc.names [] x hm (h.cells C I.ok (x,.free) hm rfl))
  ·exact JiZ _ _ _ _ (mem_of_lookup hfr)
 ·have z':sc.names.lookup x = some .cell:=by
   have z2:(sc.names.lookup x == some .cell) = true:=z
   simpa using z2
  have e':(cellsFrom (s.heap.objs.size + 1 + 1) sc.names (closL X.env.cells sc.names [])).lookup x = some c:=e
  have:=Jge (lo:=s.heap.objs.size + 1 + 1) _ _ _ _ (Nat.le_refl _) (.inl (mem_of_lookup z')) c e'
  show s.heap.objs.size <= c
  omega
 ·obtain ⟨o,e⟩:=ho b hb
  refine ⟨Nat.ne_of_lt (Nat.lt_succ_of_lt (Heap.lt_size e)),fun x c e'=>?_⟩
  rcases sub' x c e' with q | ⟨q,_⟩
  ·exact (hf b hb).2.2.2.2.1 x c q
  ·have:=Heap.lt_size e
   exact fun ee=>Nat.lt_irrefl _ (Nat.lt_of_lt_of_le (Nat.lt_succ_of_lt (Nat.lt_succ_of_lt this)) (ee ▸ q))
 ·rcases (hf b hb).2.2.2.1 with z | z
  ·exact I.ok.noex b o e z
  ·exact absurd (Nat.lt_of_lt_of_le (Heap.lt_size (I.ok.bs b o e).1) z) (Nat.lt_irrefl _)
 ·rcases List.mem_cons.mp (I.stkSub b hz) with z | z
  ·exact (hf b hb).2.1 z
  ·exact (hf b hb).2.2.1 z
 ·-- a name that the block sees
  have hN':(ls ++ hidN ls X.N)[i]? = some x:=hN
  by_cases hi:i < ls.length
  ·rw [List.getElem?_append_left (by simpa using hi)] at hσ
   rw [List.getElem?_replicate] at hσ
   split at hσ <;> cases hσ
  ·have hi':ls.length <= i:=Nat.le_of_not_lt hi
   rw [List.getElem?_append_right hi'] at hN'
   rw [List.getElem?_append_right (by simpa using hi')] at hσ
   rw [List.length_replicate] at hσ
   obtain ⟨hN',hxl⟩:X.N[i - ls.length]? = some x /\ x ∉ ls:=by
    unfold hidN at hN'
    rw [List.getElem?_map] at hN'
    cases q:X.N[i - ls.length]? with
    | none=>rw [q] at hN'; cases hN'
    | some n=>
     rw [q] at hN'
     simp only [Option.map_some,Option.some.injEq] at hN'
     by_cases hc:ls.contains n = true
     ·rw [if_pos hc] at hN'
      have hno:=h.no n (by rw [<- C.hN]; exact List.mem_of_getElem? q) hc
      rw [hN'] at hno
      have hv':(relabel sc X.env).names.lookup x = some .local \/ (relabel sc X.env).names.lookup x = some .cell \/ (relabel sc X.env).names.lookup x = some .free:=hv
      exfalso
      rcases hv' with z | z | z <;> rcases Jk z with q | ⟨_,q⟩ <;> (rw [hno] at q; cases q)
     ·rw [if_neg hc] at hN'
      subst hN'
      exact ⟨rfl,by simpa using hc⟩
   have hxN:x ∈ N:=by rw [<- C.hN]; exact List.mem_of_getElem? hN'
   have hfr:sc.names.lookup x = some .free:=by
    have hv':(relabel sc X.env).names.lookup x = some .local \/ (relabel sc X.env).names.lookup x = some .cell \/ (relabel sc X.env).names.lookup x = some .free:=hv
    rcases hv' with z | z | z
    ·rcases Jk z with q | ⟨q,_⟩
     ·have w:=((h.at (mem_of_lookup q)).2.2 rfl).2
      rcases w with w | w
      ·exact absurd w hxl
      ·exact absurd hxN w
     ·cases q
    ·rcases Jk z with q | ⟨_,q⟩
     ·exact absurd ((h.at (mem_of_lookup q)).1 rfl).2 hxl
     ·exact q
    ·rcases Jk z with q | ⟨q,_⟩
     ·exact q
     ·cases q
   have hm:=mem_of_lookup hfr
   have hk:=C.cel x ((h.at hm).2.1 rfl)
   have hvX:Vis X.env.scope x:=by
    rcases hk with z | z
    ·exact .inr (.inl z)
    ·exact .inr (.inr z)
   obtain ⟨m0,_,hl⟩:=I.loc
   obtain ⟨u,r,l⟩:=hl (i - ls.length) x v hN' hσ hvX
   refine ⟨u,r,.inr ⟨?_,?_⟩⟩
   ·show (relabel sc X.env).names.lookup x = some .cell \/ (relabel sc X.env).names.lookup x = some .free
    rcases Jb (env:=X.env) hfr with z | ⟨_,z⟩
    ·exact .inr z
    ·exact .inl z
   ·rcases l with ⟨z,_⟩ | ⟨_,c,e,z⟩
    ·rcases hk with w | w <;> (rw [w] at z; cases z)
    ·obtain ⟨c',e'⟩:=JT (cs:=X.env.cells) sc.names [] x hm ⟨c,e⟩
     have e2:=sub x c' e'
     rw [e] at e2
     cases e2
     obtain ⟨o,h1,h2⟩:=z
     exact ⟨c,(Jdw _ _ _ _ (h.fcell hfr)).trans e',o,keep _ _ h1,h2⟩
 ·rcases sub' x c e with q | ⟨_,q⟩
  ·obtain ⟨v,o,h1,h2⟩:=I.cell x c q
   exact ⟨v,o,keep _ _ h1,h2⟩
  ·exact ⟨none,q⟩
 ·exact I.hok.fresh (Nat.le_succ _)
 ·rcases sub' x c e with q | ⟨q,_⟩
  ·exact I.freeC x c q
  ·exact I.hok.fresh (by omega)
 ·have e:p = (s.heap.objs.size,listObj [] 0):=by simpa [cxComp] using hp
  subst e
  exact ⟨hacc,I.hok.fresh (Nat.le_refl _),Nat.ne_of_lt (Nat.lt_succ_self _),fun hb=>Nat.lt_irrefl _ (stk _ hb),fun v z=>(by cases z)⟩
 ·show (List.replicate ls.length none ++ σ).length = (ls ++ hidN ls X.N).length
  rw [List.length_append,List.length_append,List.length_replicate,I.len]
  unfold hidN
  rw [List.length_map]
end
end Rd
namespace Rd
open PySem PySem.Spec PyProof.Rows L2 Pu
open PySem.SeqAt (EqAt RcAt RcNeAt)
mutual
theorem JbB:∀ d:D,d.dep < 1000 -> d.eqv d = true
 | .non,_=>rfl
 | .bl b,_=>by simp [D.eqv]
 | .int i,_=>by simp [D.eqv]
 | .str x,_=>by simp [D.eqv]
 | .tup ds,h=>by simp only [D.dep] at h; simp [D.eqv,JaV ds (by omega)]
 | .lst ds,h=>by simp only [D.dep] at h; simp [D.eqv,JaV ds (by omega)]
 | .dct _ _ _ _,h=>by simp [D.dep] at h
 | .exc _,h=>by simp [D.dep] at h
 | .fn _ _,h=>by simp [D.dep] at h
theorem JaV:∀ ds:List D,deps ds < 1000 -> eqvs ds ds = true
 | [],_=>rfl
 | d :: ds,h=>by simp only [deps] at h; simp [eqvs,JbB d (by omega),JaV ds (by omega)]
end
theorem Jef:∀ {as bs:List D},eqvs as bs = true -> as.length = bs.length
 | [],[],_=>rfl
 | [],_ :: _,h=>by simp [eqvs] at h
 | _ :: _,[],h=>by simp [eqvs] at h
 | a :: as,b :: bs,h=>by
  simp only [eqvs,Bool.and_eq_true] at h
  simp [Jef h.2]
theorem Jao:∀ as bs:List D,as.length = bs.length -> eqvs as bs = (List.range as.length).all fun j=>(as.getD j .non).eqv (bs.getD j .non)
 | [],[],_=>rfl
 | a :: as,b :: bs,h=>by
  have ih:=Jao as bs (by simpa using h)
  rw [List.length_cons,List.range_succ_eq_map,List.all_cons,List.all_map]
  simp only [eqvs,ih]
  rfl
theorem Jfu {as bs:List D} (h:as.length ≠ bs.length):eqvs as bs = false:=by
 cases e:eqvs as bs with
 | false=>rfl
 | true=>exact absurd (Jef e) h
theorem Jw:∀ {ds:List D} {n j:Nat},deps ds <= n -> (ds.getD j .non).dep <= n
 | [],n,j,_=>by simp [D.dep]
 | d :: ds,n,0,h=>by simp only [deps] at h; simp; omega
 | d :: ds,n,j + 1,h=>by
  simp only [deps] at h
  have:=Jw (ds:=ds) (n:=n) (j:=j) (by omega)
  simpa using this
section
variable {X:Cx} {pins:List (Addr × Obj)} {σ:L2.St} {H:Hp} {s:Shared}
theorem JcU (I:L2.Inv X pins σ H s) {a:Addr} {xs ys:List V} (h1:SqL X.K H a xs) (h2:SqT X.K H a ys):False:=by
 obtain ⟨its,_,p1,_⟩:=I.list h1
 obtain ⟨its2,_,p2,_⟩:=I.tuple h2
 obtain ⟨o,e,c,_⟩:=p1.isList
 obtain ⟨o2,e2,c2,_⟩:=p2
 rw [e] at e2
 cases e2
 rw [c] at c2
 injection c2 with c3
 exact absurd c3 (by decide)
mutual
theorem Rep.inj (I:L2.Inv X pins σ H s):∀ (d:D) {d':D} {v:V},d.dep < 1000 -> d'.dep < 1000 -> Rep X.K H d v -> Rep X.K H d' v -> d = d'
 | .dct _ _ _ _,_,_,p,_,_,_=>by simp [D.dep] at p
 | .exc _,_,_,p,_,_,_=>by simp [D.dep] at p
 | .fn _ _,_,_,p,_,_,_=>by simp [D.dep] at p
 | .non,d',v,p,p',h,h'=>by
  cases h
  cases d' <;> first | rfl | (simp [D.dep] at p'; done) | (cases h'; done) | (obtain ⟨_,_,e,_⟩:=h'; cases e)
 | .bl b,d',v,p,p',h,h'=>by
  cases h
  cases d' <;> first | (simp [D.dep] at p'; done) | (cases h'; rfl) | (cases h'; done) | (obtain ⟨_,_,e,_⟩:=h'; cases e)
 | .int b,d',v,p,p',h,h'=>by
  cases h
  cases d' <;> first | (simp [D.dep] at p'; done) | (cases h'; rfl) | (cases h'; done) | (obtain ⟨_,_,e,_⟩:=h'; cases e)
 | .str b,d',v,p,p',h,h'=>by
  cases h
  cases d' <;> first | (simp [D.dep] at p'; done) | (cases h'; rfl) | (cases h'; done) | (obtain ⟨_,_,e,_⟩:=h'; cases e)
 | .tup ds,d',v,p,p',⟨a,xs,e,h1,h2⟩,h'=>by
  subst e
  simp only [D.dep] at p
  cases d' with
  | tup es=>
   simp only [D.dep] at p'
   obtain ⟨a',ys,e',h3,h4⟩:=h'
   cases e'
   have:=I.tuple_inj h1 h3
   subst this
   rw [Reps.inj I ds (by omega) (by omega) h2 h4]
  | lst es=>
   obtain ⟨a',ys,e',h3,h4⟩:=h'
   cases e'
   exact (JcU I h3 h1).elim
  | dct _ _ _ _=>simp [D.dep] at p'
  | exc _=>simp [D.dep] at p'
  | fn _ _=>simp [D.dep] at p'
  | _=>cases h'
 | .lst ds,d',v,p,p',⟨a,xs,e,h1,h2⟩,h'=>by
  subst e
  simp only [D.dep] at p
  cases d' with
  | lst es=>
   simp only [D.dep] at p'
   obtain ⟨a',ys,e',h3,h4⟩:=h'
   cases e'
   have:=I.list_inj h1 h3
   subst this
   rw [Reps.inj I ds (by omega) (by omega) h2 h4]
  | tup es=>
   obtain ⟨a',ys,e',h3,h4⟩:=h'
   cases e'
   exact (JcU I h1 h3).elim
  | dct _ _ _ _=>simp [D.dep] at p'
  | exc _=>simp [D.dep] at p'
  | fn _ _=>simp [D.dep] at p'
  | _=>cases h'
theorem Reps.inj (I:L2.Inv X pins σ H s):∀ (ds:List D) {es:List D} {xs:List V},deps ds < 1000 -> deps es < 1000 -> Reps X.K H ds xs -> Reps X.K H es xs -> ds = es
 | [],es,xs,_,_,h,h'=>by
  cases h
  have:=Reps.length h'
  cases es with
  | nil=>rfl
  | cons _ _=>simp at this
 | d :: ds,es,xs,p,p',⟨x,r,e,h1,h2⟩,h'=>by
  subst e
  cases es with
  | nil=>cases h'
  | cons e' es=>
   simp only [deps] at p p'
   obtain ⟨x',r',e1,h3,h4⟩:=h'
   cases e1
   rw [Rep.inj I d (by omega) (by omega) h1 h3,Reps.inj I ds (by omega) (by omega) h2 h4]
end
theorem JaH (I:L2.Inv X pins σ H s) {ds:List D} {xs:List V} {its:List Value} (hr:Reps X.K H ds xs) (hv:Vals xs its) {j:Nat} (h:j < its.toArray.size):∃ v,Rep X.K H (ds.getD j .non) v /\ RelV v its.toArray[j]:=by
 have h':j < its.length:=by simpa using h
 have l1:=hv.length
 have l2:=hr.length
 have hd:ds[j]? = some (ds.getD j .non):=by
  rw [List.getD_eq_getElem?_getD,List.getElem?_eq_getElem (by omega)]
  rfl
 obtain ⟨v,h1,h2⟩:=hr.get hd
 obtain ⟨u,h3,h4⟩:=hv.get h1
 refine ⟨v,h2,?_⟩
 have:its.toArray[j] = u:=by
  have e:its[j]? = some u:=h3
  rw [List.getElem?_eq_getElem h'] at e
  simpa using e
 rw [this]
 exact h4
theorem JiL (I:L2.Inv X pins σ H s):∀ (n:Nat) (A:Around) (d d':D) {v v':V} {u u':Value},d.dep <= n -> d.dep < 1000 -> d'.dep < 1000 -> Rep X.K H d v -> Rep X.K H d' v' -> RelV v u -> RelV v' u' -> A.units + n + 1 < cLine ->
  RcAt A s u u' (d.eqv d') /\ RcNeAt A s u u' (!d.eqv d') /\ EqAt A s u u' (d.eqv d'):=by
 intro n
 induction n with
 | zero=>
  intro A d d' v v' u u' hd pd pd' r r' q q' hu
  have hu0:A.units < cLine:=by omega
  cases d with
  | tup ds=>simp [D.dep] at hd
  | lst ds=>simp [D.dep] at hd
  | dct _ _ _ _=>simp [D.dep] at hd
  | exc _=>simp [D.dep] at hd
  | fn _ _=>simp [D.dep] at hd
  | non=>
   cases r; cases q
   cases d' with
   | dct _ _ _ _=>simp [D.dep] at pd'
   | exc _=>simp [D.dep] at pd'
   | fn _ _=>simp [D.dep] at pd'
   | non=>cases r'; cases q'; exact ⟨RcAt.none_none,RcNeAt.none_none,EqAt.same _⟩
   | bl b=>cases r'; cases q'; exact ⟨RcAt.none_bool b,RcNeAt.none_bool b,EqAt.none_bool b⟩
   | int b=>cases r'; obtain ⟨t,rfl⟩:=q'; exact ⟨RcAt.none_int b t,RcNeAt.none_int b t,EqAt.none_int b t⟩
   | str b=>cases r'; obtain ⟨t,rfl⟩:=q'; exact ⟨RcAt.none_str b t,RcNeAt.none_str b t,EqAt.none_str b t⟩
   | tup es=>obtain ⟨a,xs,rfl,h1,_⟩:=r'; cases q'; obtain ⟨its,_,p,_⟩:=I.tuple h1; exact ⟨RcAt.none_tuple p hu0,RcNeAt.none_tuple p hu0,EqAt.none_tuple p hu0⟩
   | lst es=>obtain ⟨a,xs,rfl,h1,_⟩:=r'; cases q'; obtain ⟨its,_,p,_⟩:=I.list h1; exact ⟨RcAt.none_list p.isList hu0,RcNeAt.none_list p.isList hu0,EqAt.none_list p.isList hu0⟩
  | bl c=>
   cases r; cases q
   cases d' with
   | dct _ _ _ _=>simp [D.dep] at pd'
   | exc _=>simp [D.dep] at pd'
   | fn _ _=>simp [D.dep] at pd'
   | non=>cases r'; cases q'; exact ⟨RcAt.bool_none c,RcNeAt.bool_none c,EqAt.bool_none c⟩
   | bl b=>cases r'; cases q'; exact ⟨RcAt.bool_bool c b,RcNeAt.bool_bool c b,EqAt.bool_bool c b⟩
   | int b=>cases r'; obtain ⟨t,rfl⟩:=q'; exact ⟨RcAt.bool_int c b t,RcNeAt.bool_int c b t,EqAt.bool_int c b t⟩
   | str b=>cases r'; obtain ⟨t,rfl⟩:=q'; exact ⟨RcAt.bool_str c b t,RcNeAt.bool_str c b t,EqAt.bool_str c b t⟩
   | tup es=>obtain ⟨a,xs,rfl,h1,_⟩:=r'; cases q'; obtain ⟨its,_,p,_⟩:=I.tuple h1; exact ⟨RcAt.bool_tuple c p hu0,RcNeAt.bool_tuple c p hu0,EqAt.bool_tuple c p hu0⟩
   | lst es=>obtain ⟨a,xs,rfl,h1,_⟩:=r'; cases q'; obtain ⟨its,_,p,_⟩:=I.list h1; exact ⟨RcAt.bool_list c p.isList hu0,RcNeAt.bool_list c p.isList hu0,EqAt.bool_list c p.isList hu0⟩
  | int c=>
   cases r; obtain ⟨w,rfl⟩:=q
   cases d' with
   | dct _ _ _ _=>simp [D.dep] at pd'
   | exc _=>simp [D.dep] at pd'
   | fn _ _=>simp [D.dep] at pd'
   | non=>cases r'; cases q'; exact ⟨RcAt.int_none c w,RcNeAt.int_none c w,EqAt.int_none c w⟩
   | bl b=>cases r'; cases q'; exact ⟨RcAt.int_bool c w b,RcNeAt.int_bool c w b,EqAt.int_bool c w b⟩
   | int b=>cases r'; obtain ⟨t,rfl⟩:=q'; exact ⟨RcAt.int_int c w b t,RcNeAt.int_int c w b t,EqAt.int_int c w b t⟩
   | str b=>cases r'; obtain ⟨t,rfl⟩:=q'; exact ⟨RcAt.int_str c w b t,RcNeAt.int_str c w b t,EqAt.int_str c w b t⟩
   | tup es=>obtain ⟨a,xs,rfl,h1,_⟩:=r'; cases q'; obtain ⟨its,_,p,_⟩:=I.tuple h1; exact ⟨RcAt.int_tuple c w p hu0,RcNeAt.int_tuple c w p hu0,EqAt.int_tuple c w p hu0⟩
   | lst es=>obtain ⟨a,xs,rfl,h1,_⟩:=r'; cases q'; obtain ⟨its,_,p,_⟩:=I.list h1; exact ⟨RcAt.int_list c w p.isList hu0,RcNeAt.int_list c w p.isList hu0,EqAt.int_list c w p.isList hu0⟩
  | str c=>
   cases r; obtain ⟨w,rfl⟩:=q
   cases d' with
   | dct _ _ _ _=>simp [D.dep] at pd'
   | exc _=>simp [D.dep] at pd'
   | fn _ _=>simp [D.dep] at pd'
   | non=>cases r'; cases q'; exact ⟨RcAt.str_none c w,RcNeAt.str_none c w,EqAt.str_none c w⟩
   | bl b=>cases r'; cases q'; exact ⟨RcAt.str_bool c w b,RcNeAt.str_bool c w b,EqAt.str_bool c w b⟩
   | int b=>cases r'; obtain ⟨t,rfl⟩:=q'; exact ⟨RcAt.str_int c w b t,RcNeAt.str_int c w b t,EqAt.str_int c w b t⟩
   | str b=>cases r'; obtain ⟨t,rfl⟩:=q'; exact ⟨RcAt.str_str c w b t,RcNeAt.str_str c w b t,EqAt.str_str c w b t⟩
   | tup es=>obtain ⟨a,xs,rfl,h1,_⟩:=r'; cases q'; obtain ⟨its,_,p,_⟩:=I.tuple h1; exact ⟨RcAt.str_tuple c w p hu0,RcNeAt.str_tuple c w p hu0,EqAt.str_tuple c w p hu0⟩
   | lst es=>obtain ⟨a,xs,rfl,h1,_⟩:=r'; cases q'; obtain ⟨its,_,p,_⟩:=I.list h1; exact ⟨RcAt.str_list c w p.isList hu0,RcNeAt.str_list c w p.isList hu0,EqAt.str_list c w p.isList hu0⟩
 | succ n ih=>
  intro A d d' v v' u u' hd pd pd' r r' q q' hu
  have hu0:A.units < cLine:=by omega
  have flat:d.dep <= n -> _:=fun h=>ih A d d' h pd pd' r r' q q' (by omega)
  have hin:A.in1.units + n + 1 < cLine:=by show A.units + 1 + n + 1 < cLine; omega
  cases d with
  | non=>exact flat (Nat.zero_le _)
  | bl _=>exact flat (Nat.zero_le _)
  | int _=>exact flat (Nat.zero_le _)
  | str _=>exact flat (Nat.zero_le _)
  | dct _ _ _ _=>simp [D.dep] at pd
  | exc _=>simp [D.dep] at pd
  | fn _ _=>simp [D.dep] at pd
  | tup ds=>
   have hds:deps ds <= n:=by simp only [D.dep] at hd; omega
   have pds:deps ds < 1000:=by simp only [D.dep] at pd; omega
   obtain ⟨a,xs,rfl,h1,h2⟩:=id r
   cases q
   obtain ⟨its,rv,p,_⟩:=I.tuple h1
   cases d' with
   | dct _ _ _ _=>simp [D.dep] at pd'
   | exc _=>simp [D.dep] at pd'
   | fn _ _=>simp [D.dep] at pd'
   | non=>cases r'; cases q'; exact ⟨RcAt.tuple_none p hu0,RcNeAt.tuple_none p hu0,EqAt.tuple_none p hu0⟩
   | bl b=>cases r'; cases q'; exact ⟨RcAt.tuple_bool b p hu0,RcNeAt.tuple_bool b p hu0,EqAt.tuple_bool b p hu0⟩
   | int b=>cases r'; obtain ⟨t,rfl⟩:=q'; exact ⟨RcAt.tuple_int b t p hu0,RcNeAt.tuple_int b t p hu0,EqAt.tuple_int b t p hu0⟩
   | str b=>cases r'; obtain ⟨t,rfl⟩:=q'; exact ⟨RcAt.tuple_str b t p hu0,RcNeAt.tuple_str b t p hu0,EqAt.tuple_str b t p hu0⟩
   | lst es=>obtain ⟨a',ys,rfl,h3,_⟩:=r'; cases q'; obtain ⟨its2,_,p2,_⟩:=I.list h3; exact ⟨RcAt.tuple_list p p2.isList hu0,RcNeAt.tuple_list p p2.isList hu0,EqAt.tuple_list p p2.isList hu0⟩
   | tup es=>
    have pes:deps es < 1000:=by simp only [D.dep] at pd'; omega
    obtain ⟨a',ys,rfl,h3,h4⟩:=id r'
    cases q'
    obtain ⟨its2,rv2,p2,_⟩:=I.tuple h3
    have l1:its.toArray.size = ds.length:=by rw [List.size_toArray,<- rv.length,h2.length]
    have l2:its2.toArray.size = es.length:=by rw [List.size_toArray,<- rv2.length,h4.length]
    have he:∀ j (g1:j < its.toArray.size) (g2:j < its2.toArray.size),EqAt A.in1 s its.toArray[j] its2.toArray[j] ((ds.getD j .non).eqv (es.getD j .non)):=fun j g1 g2=>by
     obtain ⟨w1,k1,k2⟩:=JaH I h2 rv g1
     obtain ⟨w2,k3,k4⟩:=JaH I h4 rv2 g2
     exact (ih A.in1 _ _ (Jw hds) (Nat.lt_of_le_of_lt (Jw (Nat.le_refl _)) pds) (Nat.lt_of_le_of_lt (Jw (Nat.le_refl _)) pes) k1 k3 k2 k4 hin).2.2
    have ev:((List.range (min its.toArray.size its2.toArray.size)).all (fun j=>(ds.getD j .non).eqv (es.getD j .non)) && its.toArray.size == its2.toArray.size) = (D.tup ds).eqv (.tup es):=by
     rw [l1,l2]
     show _ = eqvs ds es
     by_cases hl:ds.length = es.length
     ·rw [Jao ds es hl,<- hl,Nat.min_self]; simp
     ·rw [Jfu hl]; simp [hl]
    have R1:=RcAt.tuples (e:=fun j=>(ds.getD j .non).eqv (es.getD j .non)) p p2 hu0 he
    have R2:=RcNeAt.tuples (e:=fun j=>(ds.getD j .non).eqv (es.getD j .non)) p p2 hu0 he
    rw [ev] at R1 R2
    refine ⟨R1,R2,?_⟩
    by_cases hab:a = a'
    ·subst hab
     have:=Rep.inj I _ pd pd' r r'
     rw [<- this,JbB _ pd]
     exact EqAt.same _
    ·exact EqAt.of_refs hab R1
  | lst ds=>
   have hds:deps ds <= n:=by simp only [D.dep] at hd; omega
   have pds:deps ds < 1000:=by simp only [D.dep] at pd; omega
   obtain ⟨a,xs,rfl,h1,h2⟩:=id r
   cases q
   obtain ⟨its,rv,p,_⟩:=I.list h1
   have pl:=p.isList
   cases d' with
   | dct _ _ _ _=>simp [D.dep] at pd'
   | exc _=>simp [D.dep] at pd'
   | fn _ _=>simp [D.dep] at pd'
   | non=>cases r'; cases q'; exact ⟨RcAt.list_none pl hu0,RcNeAt.list_none pl hu0,EqAt.list_none pl hu0⟩
   | bl b=>cases r'; cases q'; exact ⟨RcAt.list_bool b pl hu0,RcNeAt.list_bool b pl hu0,EqAt.list_bool b pl hu0⟩
   | int b=>cases r'; obtain ⟨t,rfl⟩:=q'; exact ⟨RcAt.list_int b t pl hu0,RcNeAt.list_int b t pl hu0,EqAt.list_int b t pl hu0⟩
   | str b=>cases r'; obtain ⟨t,rfl⟩:=q'; exact ⟨RcAt.list_str b t pl hu0,RcNeAt.list_str b t pl hu0,EqAt.list_str b t pl hu0⟩
   | tup es=>obtain ⟨a',ys,rfl,h3,_⟩:=r'; cases q'; obtain ⟨its2,_,p2,_⟩:=I.tuple h3; exact ⟨RcAt.list_tuple pl p2 hu0,RcNeAt.list_tuple pl p2 hu0,EqAt.list_tuple pl p2 hu0⟩
   | lst es=>
    have pes:deps es < 1000:=by simp only [D.dep] at pd'; omega
    obtain ⟨a',ys,rfl,h3,h4⟩:=id r'
    cases q'
    obtain ⟨its2,rv2,p2,_⟩:=I.list h3
    have l1:its.toArray.size = ds.length:=by rw [List.size_toArray,<- rv.length,h2.length]
    have l2:its2.toArray.size = es.length:=by rw [List.size_toArray,<- rv2.length,h4.length]
    have R12:RcAt A s (.ref a) (.ref a') ((D.lst ds).eqv (.lst es)) /\ RcNeAt A s (.ref a) (.ref a') (!(D.lst ds).eqv (.lst es)):=by
     show RcAt A s (.ref a) (.ref a') (eqvs ds es) /\ RcNeAt A s (.ref a) (.ref a') (!eqvs ds es)
     by_cases hl:ds.length = es.length
     ·have he:∀ j (g1:j < its.toArray.size) (g2:j < its2.toArray.size),EqAt A.in1 s its.toArray[j] its2.toArray[j] ((ds.getD j .non).eqv (es.getD j .non)):=fun j g1 g2=>by
       obtain ⟨w1,k1,k2⟩:=JaH I h2 rv g1
       obtain ⟨w2,k3,k4⟩:=JaH I h4 rv2 g2
       exact (ih A.in1 _ _ (Jw hds) (Nat.lt_of_le_of_lt (Jw (Nat.le_refl _)) pds) (Nat.lt_of_le_of_lt (Jw (Nat.le_refl _)) pes) k1 k3 k2 k4 hin).2.2
      have R1:=RcAt.lists (e:=fun j=>(ds.getD j .non).eqv (es.getD j .non)) pl p2.isList (by rw [l1,l2,hl]) hu0 he
      have R2:=RcNeAt.lists (e:=fun j=>(ds.getD j .non).eqv (es.getD j .non)) pl p2.isList (by rw [l1,l2,hl]) hu0 he
      rw [l1,<- Jao ds es hl] at R1 R2
      exact ⟨R1,R2⟩
     ·rw [Jfu hl]
      have hb:(its.toArray.size != its2.toArray.size) = true:=by rw [l1,l2]; simpa using hl
      exact ⟨RcAt.lists_lengths pl p2.isList hb hu0,RcNeAt.lists_lengths pl p2.isList hb hu0⟩
    refine ⟨R12.1,R12.2,?_⟩
    by_cases hab:a = a'
    ·subst hab
     have:=Rep.inj I _ pd pd' r r'
     rw [<- this,JbB _ pd]
     exact EqAt.same _
    ·exact EqAt.of_refs hab R12.1
end
end Rd
namespace Rd
open PySem PySem.Spec PyProof.Rows L2 Pu
section
variable {X:Cx} {call:CallD} {c:Expr} {p:Px} {pos:Pos}
def PIf (X:Cx) (ifs:List Expr) (t:TT):Prop:=∀ (pins:List (Addr × Obj)) (s:Shared) (σ:L2.St) (H:Hp) (Q:Bool -> Hp -> Prop),L2.Inv X pins σ H s -> t σ H Q ->
 wpAny (model X.prog X.w) X.A (forIn ifs true fun c r=>if r = true then do let ok <- isTrue c X.env (eval c X.env); pure (ForInStep.yield ok) else pure (ForInStep.yield r)) (TP X pins σ Q) X.xe s
theorem Jko:PIf X [] (tT X call (.con (.bl true))):=fun pins s σ H Q I ⟨env,r,b,e,q⟩=>by
 cases e
 exact wpAny_tests_nil ⟨H,I,q H (Same.refl H)⟩
theorem Jkj (h:PT X c (tT X call p)):PIf X [c] (tT X call p):=fun pins s σ H Q I w=>wpAny_tests_one (h pins s σ H Q I w)
def TgOk (X:Cx) (tg:Expr) (nt m:Nat):Prop:=∀ (pins:List (Addr × Obj)) (s:Shared) (lo hi:L2.St) (H:Hp) (d:D) (v:V) (u:Value) (new:Fm) (Q:L2.St -> Hp -> Prop),lo.length = m -> L2.Inv X pins (lo ++ hi) H s -> RelV v u -> Rep X.K H d v -> bindT nt d = .ok new ->
 (∀ lo':L2.St,lo'.length = m -> new.length = m -> (∀ (i:Nat) (d':D),new[i]? = some (some d') -> ∃ w,lo'[i]? = some (some w) /\ Rep X.K H d' w) -> Q (lo' ++ hi) H) ->
 wpAny (model X.prog X.w) X.A (assign tg X.env u) (fun _ s'=>∃ σ' H',L2.Inv X pins σ' H' s' /\ Q σ' H') X.xe s
theorem Jmh {x:Str} (hN:X.N[0]? = some x) (nd:X.N.Nodup) (hx:Loc X.env.scope x) (hf:X.fn x = true \/ X.env.scope.names.lookup x = some .local):TgOk X (.Name x pos) 0 1:=by
 intro pins s lo hi H d v u new Q hl I r rd hb h
 refine Jx (pos:=pos) nd hN hx hf pins s (lo ++ hi) H v u Q I r ?_
 match lo,hl with
 | [l0],_=>
  simp only [bindT,if_true] at hb
  cases hb
  refine h [some v] rfl rfl fun i d' e=>?_
  match i,e with
  | 0,e=>simp at e; subst e; exact ⟨v,rfl,rd⟩
  | i + 1,e=>simp at e
theorem Jmj {x y:Str} {k:Nat} {p1 p2:Pos} (hN:X.N[0]? = some x) (hN2:X.N[1]? = some y) (nd:X.N.Nodup) (hx:Loc X.env.scope x) (hf:X.fn x = true \/ X.env.scope.names.lookup x = some .local)
  (hy:Loc X.env.scope y) (hg:X.fn y = true \/ X.env.scope.names.lookup y = some .local) (hc:X.calm = true):TgOk X (.Tuple [.Name x p1,.Name y p2] k pos) 2 2:=by
 intro pins s lo hi H d v u new Q hl I r rd hb h
 refine JfE (pos:=pos) hc (JA (Jx (pos:=p1) nd hN hx hf) (JA (Jx (pos:=p2) nd hN2 hy hg) JcY)) rfl rfl pins s (lo ++ hi) H v u Q I r ?_
 unfold bindT at hb
 rw [if_neg (by decide)] at hb
 cases d with
 | tup ds=>
  dsimp only at hb
  split at hb
  ·rename_i hd
   cases hb
   obtain ⟨a,xs,rfl,hq,hr⟩:=rd
   match ds,hd with
   | [d0,d1],_=>
    obtain ⟨x0,r0,e0,h0,x1,r1,e1,h1,e2⟩:=hr
    subst e1; subst e2; subst e0
    refine ⟨a,[x0,x1],rfl,hq,rfl,x0,[x1],rfl,x1,[],rfl,rfl,?_⟩
    match lo,hl with
    | [l0,l1],_=>
     refine h [some x0,some x1] rfl rfl fun i d' e=>?_
     match i,e with
     | 0,e=>simp at e; subst e; exact ⟨x0,rfl,h0⟩
     | 1,e=>simp at e; subst e; exact ⟨x1,rfl,h1⟩
     | i + 2,e=>simp at e
  ·cases hb
 | _=>cases hb
end
theorem Jcb {α:Type} {ds:List α} {i:Nat} {d:α} (h:ds[i]? = some d):ds.drop i = d :: ds.drop (i + 1):=by
 obtain ⟨h1,h2⟩:=List.getElem?_eq_some_iff.mp h
 rw [List.drop_eq_getElem_cons h1,h2]
theorem ReadOk.front {K:PySem.W.Frag} {H:Hp} {lo hi:L2.St} {new env:Fm} (hl:lo.length = new.length) (hn:∀ (i:Nat) (d':D),new[i]? = some (some d') -> ∃ w,lo[i]? = some (some w) /\ Rep K H d' w) (r:ReadOk K H hi env):ReadOk K H (lo ++ hi) (new ++ env):=by
 intro i d e
 by_cases hi':i < new.length
 ·rw [List.getElem?_append_left hi'] at e
  obtain ⟨w,h1,h2⟩:=hn i d e
  exact ⟨w,by rw [List.getElem?_append_left (by omega)]; exact h1,h2⟩
 ·rw [List.getElem?_append_right (by omega)] at e
  obtain ⟨w,h1,h2⟩:=r _ d e
  exact ⟨w,by rw [List.getElem?_append_right (by omega),hl]; exact h1,h2⟩
section
variable {X:Cx} {G:Gw} {N:List Str} {nm:List (Str × NameKind)} {ls:List Str} {sc:Scope} {call:CallD}
theorem JaG {M:Model} {A:Around} {E:Value -> Shared -> Prop} {s:Shared} {scope:Scope} {globals:Addr} {closure:List (Str × Addr)} {qual:Str} {func:Option Addr} {code:Value} {outer:Env} {builtins:Addr} {Q:Env -> Shared -> Prop}
  (hQ:Q (newEnv scope s.heap.objs.size globals (cellsFrom (s.heap.objs.size + 1) scope.names closure) qual func code (some outer) builtins) { s with heap:=pushCells (s.heap.push { cls:=.type "dict",data:=.dict #[] }) scope.names }) :
  wpAny M A (newFunctionEnv scope globals closure [] qual func code (some outer) builtins) Q E s:=by
 simp only [newFunctionEnv,Option.isSome_some,if_true]
 refine wpAny_bind (wpAny_alloc ?_)
 refine wpAny_bind (wpAny_layCells _ (fun name kind cells=>by cases hkc:kind == NameKind.cell <;> simp [hkc]) _ _ _ _ ?_)
 rw [show ({ s with heap:=s.heap.push { cls:=.type "dict",data:=.dict #[] } }:Shared).heap.objs.size = s.heap.objs.size + 1 from Heap.size_push ..]
 rw [List.forIn_nil]
 exact wpAny_bind (wpAny_pure (wpAny_pure hQ))
theorem JbZ {elt tg iter:Expr} {ifs:List Expr} {pos:Pos} {nt:Nat} {ps pc pe:Px} {pins:List (Addr × Obj)} {s:Shared} {σ:L2.St} {H:Hp} {env:Fm} {Gd:List D -> Prop} {RR0:Value -> Addr -> Result -> Shared -> Prop} (C:Ctx X G N nm) (h:ScOk N nm ls sc) (hsrc:PI X tg iter (tW X call ps))
  (htg:∀ X',Ctx X' G (ls ++ hidN ls N) sc.names -> TgOk X' tg nt ls.length) (hif:∀ X',Ctx X' G (ls ++ hidN ls N) sc.names -> PIf X' ifs (tT X' call pc)) (helt:∀ X',Ctx X' G (ls ++ hidN ls N) sc.names -> PE X' elt (tI X' call pe))
  (I:L2.Inv X pins σ H s) (r:ReadOk X.K H σ env) (hw:tW X call ps σ H fun J H'=>∃ ds,Walk X.K J H' ds /\ Same H H' /\ ds.length <= lineD /\ (compL nt (evD call pc) (evD call pe) env ds).Good Gd (XW X H))
  (hok:∀ (acc:Addr) (ys:List V) (Hf:Hp) (Cd:Addr) (m:Str -> Option Value) (s4:Shared) (dn:List D),L2.Inv X pins σ Hf s4 -> s4.heap.Ns Cd m -> FpOk X pins Hf Cd -> Hf acc = some (.lst ys) -> H acc = none -> Same H Hf -> Reps X.K Hf dn ys -> Gd dn -> RR0 (.ref acc) Cd (.ok .next) s4) :
  wpAny (model X.prog X.w) X.A (eval iter X.env) (fun x s₁=>wpAny (model X.prog X.w) X.A (pyIter x) (fun it s₂=>wpAny (model X.prog X.w) X.A (newList []) (fun acc s₃=>
   wpAny (model X.prog X.w) X.A (newFunctionEnv sc X.env.globals (closL X.env.cells sc.names []) [] X.env.qual none .none (some X.env)) (fun cenv s₄=>
    codeAny (model X.prog X.w) X.A (.compStart (.ListComp elt [⟨tg,iter,ifs,0⟩] sc pos) 0 it acc { cenv with scope:=relabel sc X.env }) (RR0 acc cenv.locals) s₄) X.xe s₃) X.xe s₂) X.xe s₁) X.xe s:=by
 refine thn (hsrc pins s σ H _ I hw) fun v s1 h1=>thn h1 fun itv s2 h2=>?_
 obtain ⟨it,fp,tn,J,H2,rfl,I2,T,st2,f2,ds,hW,s02,hz,hG2⟩:=h2
 refine wpAny_newObj_type (JaG ?_)
 dsimp only
 generalize hH2:s2.heap.push { cls:=.type "list",dict:=none,data:=.seq ([]:List Value).toArray } = Hh
 obtain ⟨h₁,hh₁⟩:∃ h₁,h₁ = pushCells (Hh.push { cls:=.type "dict",data:=.dict #[] }) sc.names:=⟨_,rfl⟩
 rw [<- hh₁]
 have hns₁:h₁.Ns Hh.objs.size (fun _=>none):=hh₁ ▸ (Heap.Ns.new Hh (.type "dict")).keeps (pushCells_keeps _ _)
 have hC:Hh.objs.size = s2.heap.objs.size + 1:=by rw [<- hH2,Heap.size_push]
 have hlt:∀ b o,s2.heap.get? b = some o -> b < s2.heap.objs.size:=fun b o e=>Heap.lt_size e
 have old:∀ b o,s2.heap.get? b = some o -> h₁.get? b = some o:=fun b o e=>by
  rw [hh₁]
  exact pushCells_keeps _ _ _ _ (Heap.get?_push_of_some _ (hH2 ▸ Heap.get?_push_of_some _ e))
 have hacc:h₁.get? s2.heap.objs.size = some (listObj [] 0):=by
  rw [hh₁]
  exact pushCells_keeps _ _ _ _ (Heap.get?_push_of_some _ (hH2 ▸ Heap.get?_push_size _ rfl))
 have fpl:∀ b ∈ fp,b < s2.heap.objs.size:=fun b hb=>by
  obtain ⟨o,e,_⟩:=T.obj _ _ st2 b hb
  exact hlt b o e
 let RR:Result -> Shared -> Prop:=RR0 (.ref s2.heap.objs.size) Hh.objs.size
 let ce:Env:=compEnvC sc (cellsFrom (Hh.objs.size + 1) sc.names (closL X.env.cells sc.names [])) Hh.objs.size X.env
 let E':Value -> Shared -> Prop:=notedBy (model X.prog X.w) X.A ce fun e s'=>RR (.error e) s'
 let X':Cx:=cxComp X ls sc Hh.objs.size s2 H2 fp E'
 have C':Ctx X' G (ls ++ hidN ls N) sc.names:=JhP C h
 have I4:L2.Inv X' [(s2.heap.objs.size,listObj [] 0)] (List.replicate ls.length none ++ σ) H2 { s2 with heap:=h₁ }:=
  Jil C h hh₁ (Heap.size_push ..) I2 f2 (fun b hb=>let ⟨o,e,_⟩:=T.obj _ _ st2 b hb; ⟨o,e⟩) hC hns₁ old hacc
 have sub:∀ x c,(closL X.env.cells sc.names []).lookup x = some c -> X.env.cells.lookup x = some c:=Jak sc.names [] fun x c e=>by simp at e
 have stat:∀ {H':Hp} {o:Obj},(∀ b ∈ fp,H' b = none) -> ∀ b ∈ fp,FpOk X' [(s2.heap.objs.size,o)] H' b:=fun {H' o} hn b hb=>by
  have hb':=fpl b hb
  refine ⟨hn b hb,?_,I4.ok.exfs b hb,.inl hb,(I4.ok.exf b hb).2,fun p hp=>?_⟩
  ·show b ≠ Hh.objs.size
   rw [hC]; exact Nat.ne_of_lt (Nat.lt_succ_of_lt hb')
  ·have e:p = (s2.heap.objs.size,o):=by simpa [X',cxComp] using hp
   rw [e]
   exact Nat.ne_of_gt hb'
 have loop:∀ s₃:Shared,s₃ = { s2 with heap:=h₁ } ->
   codeAny (model X.prog X.w) X.A (.compLoop (.ListComp elt [⟨tg,iter,ifs,0⟩] sc pos) 0 (.ref it) (.ref s2.heap.objs.size) ce) RR s₃:=by
  rintro s₃ rfl
  refine Jcr (fun n s'=>∃ (i:Nat) (lo:L2.St) (H':Hp) (its:List Value) (k:Nat) (ys:List V) (done:List D),L2.Inv X' [(s2.heap.objs.size,listObj its k)] (lo ++ σ) H' s' /\ lo.length = ls.length /\ tn i s'.heap /\ (∀ b ∈ fp,H' b = none) /\
   Same H2 H' /\ Vals ys its /\ Reps X.K H' done ys /\ done.length <= i /\ i <= ds.length /\ n = ds.length - i /\ (compL nt (evD call pc) (evD call pe) env (ds.drop i)).Good (fun rest=>Gd (done ++ rest)) (XW X H)) ?_ ds.length
   ⟨0,List.replicate ls.length none,H2,[],0,[],[],I4,List.length_replicate,T.keep _ _ _ st2 (fun b hb o e=>old b o e),fun b hb=>(f2 b hb).1,Same.refl _,.nil,rfl,Nat.le_refl _,Nat.zero_le _,rfl,by simpa using hG2⟩
  rintro n s' ⟨i,lo,H',its,k,ys,done,I',hlo,st,fr,sm,hv,hr,hdl,hil,rfl,hg⟩
  by_cases hi:i < ds.length
  ·have go:=(hW H' sm).1 i hi
   refine thn (T.item X' rfl rfl rfl C'.calm i _ s' (lo ++ σ) H' X'.xe I' (stat fr) st go) fun r' s4 ⟨u,hr',h4⟩=>?_
   subst hr'
   refine thn h4 fun _ s5 ⟨x,H5,I5,r5,y5,st5,fr5⟩=>?_
   obtain ⟨s45,d,hd,rd⟩:=(hW H' sm).2.2 i x H5 hi y5
   rw [Jcb hd] at hg
   simp only [compL] at hg
   replace hg:=Rs.good_bind.mp hg
   cases hb:bindT nt d with
   | stuck=>rw [hb] at hg; exact hg.elim
   | ex c=>exact (Jek hb).elim
   | ok new=>
    rw [hb] at hg
    replace hg:=Rs.good_bind.mp hg
    have I5p:=I5.pinned (stat fr5) (T.obj _ _ st5)
    refine thn (htg X' C' _ s5 lo σ H5 d x u new (fun σ' H''=>∃ lo':L2.St,σ' = lo' ++ σ /\ lo'.length = ls.length /\ H5 = H'' /\ ReadOk X.K H5 (lo' ++ σ) (new ++ env)) hlo I5p r5 rd hb fun lo' l1 l2 hn=>
     ⟨lo',rfl,l1,rfl,ReadOk.front (l1.trans l2.symm) hn (r.mono ((s02.trans sm).trans s45))⟩) fun _ s6 ⟨σ6,H6,I6,lo',e6,l6,e7,rd6⟩=>?_
    subst e6; subst e7
    refine thn (hif X' C' _ s6 _ _ (fun b H7=>Same H5 H7 /\ (if b = true then ((evD call pe (new ++ env)).calm.bind fun y=>(compL nt (evD call pc) (evD call pe) env (ds.drop (i + 1))).bind fun ys=>Rs.ok (y :: ys)).Good (fun rest=>Gd (done ++ rest)) (XW X H)
     else (compL nt (evD call pc) (evD call pe) env (ds.drop (i + 1))).Good (fun rest=>Gd (done ++ rest)) (XW X H))) I6 ⟨new ++ env,rd6,Rs.good_calm (hg.mono (fun d' hd'=>?_) fun c z=>z)⟩) fun ok s7 ⟨H7,I7,s57,q7⟩=>?_
    ·cases d' with
     | bl b=>
      refine ⟨b,rfl,fun H7 s57=>⟨s57,?_⟩⟩
      cases b with
      | true=>exact iteT hd'
      | false=>exact iteF hd'
     | _=>exact hd'.elim
    have tn7:∀ {s9:Shared} {H9:Hp} {o:Obj} {σ9:L2.St},L2.Inv X' ([(s2.heap.objs.size,o)] ++ pinsAt fp s5.heap) σ9 H9 s9 -> tn (i + 1) s9.heap /\ ∀ b ∈ fp,H9 b = none:=fun {s9 H9 o σ9} I9=>by
     refine ⟨T.keep _ _ _ st5 fun b hb o' e=>(I9.pin (b,o') (List.mem_append_right _ (List.mem_append_right _ (Jn hb e)))).1,fun b hb=>?_⟩
     obtain ⟨o',e,_⟩:=T.obj _ _ st5 b hb
     exact (I9.pin (b,o') (List.mem_append_right _ (List.mem_append_right _ (Jn hb e)))).2.1
    cases ok with
    | false=>
     rw [if_neg Bool.false_ne_true]
     have q7':(compL nt (evD call pc) (evD call pe) env (ds.drop (i + 1))).Good (fun rest=>Gd (done ++ rest)) (XW X H):=by
      rw [if_neg Bool.false_ne_true] at q7; exact q7
     obtain ⟨t7,f7⟩:=tn7 I7
     exact ⟨ds.length - (i + 1),by omega,i + 1,lo',H7,its,k,ys,done,I7.unpinned,l6,t7,f7,(sm.trans s45).trans s57,hv,hr.mono (s45.trans s57),by omega,by omega,rfl,q7'⟩
    | true=>
     rw [if_pos rfl]
     rw [if_pos rfl] at q7
     replace q7:=Rs.good_bind.mp q7
     refine thn (helt X' C' _ s7 _ _ (fun v8 H8=>Same H7 H8 /\ ∃ y,Rep X.K H8 y v8 /\ (compL nt (evD call pc) (evD call pe) env (ds.drop (i + 1))).Good (fun rest=>Gd (done ++ (y :: rest))) (XW X H)) I7
      ⟨new ++ env,rd6.mono s57,Rs.good_calm (q7.mono (fun y hy v8 H8 s78 r8=>⟨s78,y,r8,Rs.good_bind.mp hy⟩) fun c z=>z)⟩) fun u8 s8 ⟨v8,H8,I8,r8,s78,y,ry,q8⟩=>?_
     have e8:=(I8.pin (s2.heap.objs.size,listObj its k) (by simp)).1
     have hlen:its.length <= lineD:=by
      have h1:=hv.length
      have h2:=hr.length
      omega
     refine call_meets F.slot_list_append ⟨_,e8,rfl⟩ F.entry_list_append (F.args_list_append_2 _ _) (PySem.list_append s2.heap.objs.size its.toArray k u8 (by rw [List.size_toArray,sizeLine_eq]; exact hlen)) ⟨e8,?_⟩
     have q9:=PySem.IsL.update e8 (fun x=>x.push u8)
     have hpush:its.toArray.push u8 = (its ++ [u8]).toArray:=by simp
     rw [hpush] at q9
     obtain ⟨k9,q9⟩:∃ k9,(s8.heap.update s2.heap.objs.size (Obj.mapSeq fun x=>x.push u8)).get? s2.heap.objs.size = some (listObj (its ++ [u8]) k9):=⟨_,q9⟩
     have nacc:=(I8.pin (s2.heap.objs.size,listObj its k) (by simp)).2
     have I8u:L2.Inv X' (pinsAt fp s5.heap) (lo' ++ σ) H8 s8:=I8.pins_of fun p hp=>I8.pin p (List.mem_append_right _ (List.mem_append_right _ hp))
     have I9:L2.Inv X' (pinsAt fp s5.heap) (lo' ++ σ) H8 { s8 with heap:=s8.heap.update s2.heap.objs.size (Obj.mapSeq fun x=>x.push u8),toks:=s8.toks }:=by
      refine I8u.turned (it:=s2.heap.objs.size) (fun b o hb e=>(Heap.get?_update_other s8.heap _ (Ne.symm hb)).trans e) nacc.1 nacc.2.1 (.inr (Nat.le_refl _)) (fun x c e=>?_) (fun p hp=>?_)
      ·rcases Jdj _ _ _ _ _ e with q | ⟨q,_⟩
       ·obtain ⟨v0,o0,h0,_⟩:=I2.cell x c (sub x c q)
        exact Nat.ne_of_lt (hlt c o0 h0)
       ·rw [hC] at q; exact Nat.ne_of_gt (Nat.lt_of_lt_of_le (Nat.lt_succ_of_lt (Nat.lt_succ_self _)) q)
      ·have hp':p ∈ pinsAt fp s5.heap:=by simpa [X',cxComp] using hp
       exact Nat.ne_of_lt (fpl _ (Jck hp').1)
     have I10:L2.Inv X' ([(s2.heap.objs.size,listObj (its ++ [u8]) k9)] ++ pinsAt fp s5.heap) (lo' ++ σ) H8 { s8 with heap:=s8.heap.update s2.heap.objs.size (Obj.mapSeq fun x=>x.push u8),toks:=s8.toks }:=
      I9.pins_of fun p hp=>(List.mem_append.mp hp).elim (fun z=>by
       have e:p = (s2.heap.objs.size,listObj (its ++ [u8]) k9):=by simpa using z
       subst e
       exact ⟨q9,nacc.1,nacc.2.1,nacc.2.2.1,fun v z=>(by cases z)⟩) fun z=>I9.pin p (List.mem_append_right _ z)
     obtain ⟨t10,f10⟩:=tn7 I10
     refine ⟨ds.length - (i + 1),by omega,i + 1,lo',H8,its ++ [u8],_,ys ++ [v8],done ++ [y],I10.unpinned,l6,t10,f10,((sm.trans s45).trans s57).trans s78,hv.append (.cons r8 .nil),(hr.mono ((s45.trans s57).trans s78)).append (Reps.one ry),?_,by omega,rfl,?_⟩
     ·rw [List.length_append,List.length_singleton]; omega
     ·simpa using q8
  ·-- the end
   have hie:i = ds.length:=by omega
   subst hie
   rw [List.drop_length] at hg
   simp only [compL] at hg
   have hg':Gd done:=by
    have hg2:Gd (done ++ []):=hg
    simpa using hg2
   refine thn (T.done X' rfl rfl rfl C'.calm ds.length _ s' (lo ++ σ) H' X'.xe I' (stat fr) st (hW H' sm).2.1) fun r' s4 ⟨hr',I5⟩=>?_
   subst hr'
   obtain ⟨m',hn',_⟩:=I5.loc
   have nacc:=I5.pin (s2.heap.objs.size,listObj its k) (by simp)
   have hlen:ys.length <= sizeLine:=by
    have h2:=hr.length
    rw [sizeLine_eq]
    have h3:lineD = 16777216:=rfl
    omega
   have HC:H' Hh.objs.size = none:=I5.free
   have okH:HOk X.prog X.w (upd H' s2.heap.objs.size (.lst ys)) s4.heap:=by
    intro b o e
    by_cases hb:b = s2.heap.objs.size
    ·subst hb
     rw [Ji] at e
     cases e
     exact ⟨hlen,its,k,hv,nacc.1⟩
    ·rw [Ja hb] at e
     have ok5:ObjOk X.prog X.w H' s4.heap b o:=I5.hok b o e
     refine ok5.stay (fun c w' hc q=>q) (fun c q=>?_) fun c xs q=>?_
     ·by_cases hcb:c = s2.heap.objs.size
      ·subst hcb; rw [nacc.2.1] at q; cases q
      ·rw [Ja hcb]; exact q
     ·by_cases hcb:c = s2.heap.objs.size
      ·subst hcb; rw [nacc.2.1] at q; cases q
      ·rw [Ja hcb]; exact q
   have un:Un (frs X.stack) fp H2 (upd H' s2.heap.objs.size (.lst ys)) s2.heap s4.heap:=by
    have U:Un (frs X.stack) fp H2 H' s2.heap s4.heap:=I5.base
    have ne1:∀ b o,s2.heap.get? b = some o -> b ≠ s2.heap.objs.size:=fun b o e=>Nat.ne_of_lt (hlt b o e)
    have neH:∀ b u,H2 b = some u -> b ≠ s2.heap.objs.size:=fun b u e z=>by rw [z,I2.hok.fresh (Nat.le_refl _)] at e; cases e
    refine ⟨U.keep,U.slot,fun b o e n h2=>?_,U.there,fun b xs e=>?_,fun b o u e=>?_,fun b ps' e=>?_⟩
    ·rw [Ja (ne1 b o e)]; exact U.free b o e n h2
    ·rw [Ja (neH b _ e)]; exact U.tups b xs e
    ·rw [Ja (neH b _ e)]; exact U.frzs b o u e
    ·rw [Ja (neH b _ e)]; exact U.tbls b ps' e
   have If:L2.Inv X pins σ (upd H' s2.heap.objs.size (.lst ys)) s4:=I2.call' (ch:=fp) I5.os un okH I5.bare fun b hb=>by
    obtain ⟨_,f1',f2',f3',f4',f5'⟩:=f2 b hb
    exact ⟨f3',f1',f4',f5'⟩
   have sH:Same H' (upd H' s2.heap.objs.size (.lst ys)):=fun b o e=>by
    rw [Ja (Jg e nacc.2.1)]; exact e
   have hCn:upd H' s2.heap.objs.size (.lst ys) Hh.objs.size = none:=by
    rw [Ja (by rw [hC]; exact Nat.succ_ne_self _)]; exact HC
   exact hok s2.heap.objs.size ys _ Hh.objs.size m' s4 done If hn' (I2.fpOk (by rw [hC]; exact Nat.le_succ _) hCn) Ji (s02.free (I2.hok.fresh (Nat.le_refl _))) ((s02.trans sm).trans sH) (hr.mono sH) hg'
 exact codeAny_compStart_list (loop _ rfl) (T.self _ 0 _ _ _ (T.keep _ _ _ st2 fun b hb o e=>old b o e) (loop _ rfl))
theorem JcH {nt:Nat} {ps pc pe:Px} {σ:L2.St} {H:Hp} {env:Fm} {Q:VK} (r:ReadOk X.K H σ env) (hG:(evD call (.comp nt ps pc pe) env).Good (OutF X H Q) (XW X H)) :
  tW X call ps σ H fun J H'=>∃ ds,Walk X.K J H' ds /\ Same H H' /\ ds.length <= lineD /\ (compL nt (evD call pc) (evD call pe) env ds).Good (fun ys=>OutF X H Q (.lst ys)) (XW X H):=by
 simp only [evD] at hG
 refine ⟨env,r,(Rs.good_bind.mp hG).imp fun d hd=>?_⟩
 cases d with
 | lst ds=>
  simp only [D.asL,Rs.bind_ok] at hd
  split at hd
  ·rename_i hz
   exact ⟨ds,rfl,fun J H' s1 w _=>⟨ds,w,s1,hz,Rs.good_bind.mp hd⟩⟩
  ·exact hd.elim
 | _=>exact hd.elim
theorem JiP {pins:List (Addr × Obj)} {s:Shared} {σ:L2.St} {H:Hp} {Cd:Addr} {h':Heap} (I:L2.Inv X pins σ H s) (f:FpOk X pins H Cd) (hsb:Heap.SameBut Cd s.heap h'):L2.Inv X pins σ H { s with heap:=h' }:=by
 obtain ⟨f0,f1,f2,f3,f4,f5⟩:=f
 exact I.turned (t':=s.toks) (fun b o hb e=>(hsb.2 b hb).trans e) f0 f1 f3 f4 f5
theorem JfZ {elt tg iter:Expr} {ifs:List Expr} {pos:Pos} {nt:Nat} {ps pc pe:Px} (C:Ctx X G N nm) (h:ScOk N nm ls sc) (hsrc:PI X tg iter (tW X call ps))
  (htg:∀ X',Ctx X' G (ls ++ hidN ls N) sc.names -> TgOk X' tg nt ls.length) (hif:∀ X',Ctx X' G (ls ++ hidN ls N) sc.names -> PIf X' ifs (tT X' call pc)) (helt:∀ X',Ctx X' G (ls ++ hidN ls N) sc.names -> PE X' elt (tI X' call pe))
  (hs:∀ x,foldedSetIterable iter X.env x = pure x:=by intro _; rfl):PE X (.ListComp elt [⟨tg,iter,ifs,0⟩] sc pos) (tF X call (.comp nt ps pc pe)):=by
 intro pins s σ H Q I ⟨env,r,hG⟩
 rw [eval_ListComp]
 refine wpAny_comprehension_free (use:=none) rfl hs (Jbu (h.cells C I.ok)) h.kind (fun y hy e=>((h.at hy).2.2 e).1) (JbZ (RR0:=fun acc C=>compPost (model X.prog X.w) X.A X.xe none (EP X pins σ Q) acc C) C h hsrc htg hif helt I r (JcH r hG) ?_)
 intro acc ys Hf Cd m s4 dn If hn f ha h0 sm rs hg
 refine ⟨m,hn,fun h' hsb=>⟨.ref acc,Hf,JiP If f hsb,rfl,?_⟩⟩
 obtain ⟨ds',e',hQ⟩:=hg
 cases e'
 exact hQ acc ys Hf sm h0 ha rs
theorem Jbt {elt tg iter:Expr} {ifs:List Expr} {pos spos py:Pos} {nt i:Nat} {y:Str} {ps pc pe:Px} (C:Ctx X G N nm) (h:ScOk N nm ls sc) (hi:X.N[i]? = some y) (hy:locB nm y = true) (hsrc:PI X tg iter (tW X call ps))
  (htg:∀ X',Ctx X' G (ls ++ hidN ls N) sc.names -> TgOk X' tg nt ls.length) (hif:∀ X',Ctx X' G (ls ++ hidN ls N) sc.names -> PIf X' ifs (tT X' call pc)) (helt:∀ X',Ctx X' G (ls ++ hidN ls N) sc.names -> PE X' elt (tI X' call pe))
  (hs:∀ x,foldedSetIterable iter X.env x = pure x:=by intro _; rfl):PS X (.Assign [.Name y py] (.ListComp elt [⟨tg,iter,ifs,0⟩] sc pos) spos) (tAsg (tF X call (.comp nt ps pc pe)) (gName i)):=by
 obtain ⟨hloc,hfn⟩:=C.sto y hy
 have nd:X.N.Nodup:=by rw [C.hN]; exact C.nd
 have sw:∃ b,swapsWith (.ListComp elt [⟨tg,iter,ifs,0⟩] sc pos) (some (.Name y py)) spos.line X.env = pure b:=⟨_,rfl⟩
 obtain ⟨b,sw⟩:=sw
 cases b with
 | false=>exact JfG nd hi hloc (JfZ C h hsrc htg hif helt hs) sw hfn
 | true=>
  intro pins s σ H D I ⟨env,r,hG⟩
  rw [exec_Assign_Name_used _ _ _ _ sw]
  refine wpAny_bind (wpAny_standAt (wpAny_bind ?_))
  show wpAny _ X.A (do let _ <- comprehension (.ListComp elt [⟨tg,iter,ifs,0⟩] sc pos) sc X.env _ (newList []) false (eval iter X.env) (some (assign (.Name y py) X.env))) _ _ s
  refine wpAny_bind (wpAny_mono (wpAny_comprehension_free (use:=some (assign (.Name y py) X.env)) (Q:=fun _ s'=>SP X pins D .next s') rfl hs (Jbu (h.cells C I.ok)) h.kind (fun y hy e=>((h.at hy).2.2 e).1)
   (JbZ (RR0:=fun acc C=>compPost (model X.prog X.w) X.A X.xe (some (assign (.Name y py) X.env)) (fun _ s'=>SP X pins D .next s') acc C) C h hsrc htg hif helt I r (JcH r hG) ?_)) (fun _ s' hq=>wpAny_pure (wpAny_pure hq)) fun _ _ e=>e)
  intro acc ys Hf Cd m s4 dn If hn f ha h0 sm rs hg
  show wpAny _ X.A (assign (.Name y py) X.env (.ref acc)) _ _ s4
  refine wpAny_assign_Name (JcK If nd hi hloc (v:=.ref acc) rfl (fun s5 I5 ⟨ad,sb,had⟩=>?_) hfn)
  have hne:Cd ≠ ad:=by
   rcases had with q | q
   ·rw [q]; exact f.2.1
   ·exact Ne.symm (f.2.2.2.2.1 y ad q)
  refine ⟨m,hn.sameBut sb hne,fun h' hsb=>⟨_,Hf,JiP I5 f hsb,?_⟩⟩
  obtain ⟨ds',e',hQ⟩:=hg
  cases e'
  exact hQ acc ys Hf sm h0 ha rs
end
end Rd
namespace Rd
open PySem PySem.Spec PyProof.Rows L2 Pu
open PySem.SeqAt (EqAt RcAt RcNeAt)
theorem Jfm (l b:Addr) (items items2:Array Value) (n n2:Nat) (dd dd2:Option Addr) (sl sl2:Array (Option Value)) (hc0:items.size + items2.size <= sizeLine) :
  Meets (Builtin.«list.__add__» ⟨[.ref l,.ref b],[]⟩) (fun _ R s=>s.heap.get? l = some { cls:=.type "list",dict:=dd,data:=.seq items n,slots:=sl } /\ s.heap.get? b = some { cls:=.type "list",dict:=dd2,data:=.seq items2 n2,slots:=sl2 } /\ R (.ok (.ret (Value.ref s.heap.objs.size))) { s with heap:=s.heap.push { cls:=Value.type "list",data:=Data.seq (items ++ items2) },toks:=s.toks }):=
 .of_wp fun prog w A R s h=>by
  obtain ⟨hp,g,d,tk,os⟩:=s; obtain ⟨hl,hb,h⟩:=h; have f1:=AutoSeq1.idx_int; have f2:=AutoSeq1.sub_tuple_tuple; have f3:=AutoSeq1.sub_list_list; have f4:=AutoSeq1.sub_tuple_list; have f5:=AutoSeq1.sub_list_tuple
  wp_walk using AutoSeq1.wpAny_loadPart' hl,AutoSeq1.wpAny_loadPart' hb; exact ⟨_,rfl,h⟩
theorem Jfn {prog:Program} {w:World} {A:Around} {E:Value -> Shared -> Prop} {s:Shared} {l b:Addr} {items items2:Array Value} {Q:Value -> Shared -> Prop} (hl:s.heap.IsList l items) (hb:s.heap.IsList b items2)
  (h:Q (.ref s.heap.objs.size) { s with heap:=s.heap.push { cls:=.type "list",data:=.seq (items ++ items2) } }) (hsz:items.size + items2.size <= sizeLine):wpAny (model prog w) A (binaryOp .Add (.ref l) (.ref b)) Q E s:=by
 obtain ⟨⟨cls,dd,data,sl⟩,ho,hc,n,hd⟩:=id hl
 obtain ⟨⟨cls2,dd2,data2,sl2⟩,ho2,hc2,n2,hd2⟩:=id hb
 simp only at hc hd hc2 hd2
 subst hc hd hc2 hd2
 exact concat_meets ⟨_,ho,rfl⟩ ⟨_,ho2,rfl⟩ PySem.noFill_list_add PySem.seq_list_add F.slot_list_add F.entry_list_add (F.args_list_add_2 _ _) (Jfm l b items items2 n n2 dd dd2 sl sl2 hsz) ⟨ho,ho2,h⟩
theorem Jiy {prog:Program} {w:World} {A:Around} {E:Value -> Shared -> Prop} {s:Shared} {t b:Addr} {ws:List Value} {Q:Value -> Shared -> Prop} (ht:IsTup s.heap t ([]:List Value).toArray) (hb:IsTup s.heap b ws.toArray)
  (h:Q (.ref b) s):wpAny (model prog w) A (binaryOp .Add (.ref t) (.ref b)) Q E s:=by
 obtain ⟨⟨cls,dd,data,sl⟩,ho,hc,n,hd⟩:=id ht
 obtain ⟨⟨cls2,dd2,data2,sl2⟩,ho2,hc2,n2,hd2⟩:=id hb
 simp only at hc hd hc2 hd2
 subst hc hd hc2 hd2
 exact concat_meets ⟨_,ho,rfl⟩ ⟨_,ho2,rfl⟩ noFill_tuple_add seq_tuple_add PySem.F.slot_tuple_add PySem.F.entry_tuple_add (PySem.F.args_tuple_add_2 _ _)
   (tuple_addW0 t b ([]:List Value).toArray ws.toArray n n2 dd dd2 sl sl2 (by simp)) ⟨ho,ho2,h⟩
section
variable {X:Cx}
theorem Jas {n:Nat} (h:n <= lineD):n <= sizeLine:=by rw [sizeLine_eq]; exact h
theorem JjR:OpR X (binaryOp .Add) (rD2 X .add):=by
 intro pins s σ H x y v u Q I rx ry ⟨dx,dy,r1,r2,h⟩
 cases dx <;> cases dy <;> first
  | exact (show False from h).elim
  | exact JkY pins s σ H x y v u Q I rx ry ⟨_,_,r1,r2,Out.now h rfl⟩
  | skip
 ·simp only [op2] at h
  split at h
  ·rename_i hz
   exact JeQ pins s σ H x y v u Q I rx ry ⟨_,_,r1,r2,Jas hz,Out.now h rfl⟩
  ·exact h.elim
 ·rename_i ds es
  simp only [op2] at h
  split at h
  ·rename_i hz
   obtain ⟨a,xs,rfl,h1,h2⟩:=r1
   obtain ⟨b,ys,rfl,h3,h4⟩:=r2
   have l1:=h2.length
   have l2:=h4.length
   by_cases hx:xs = []
   ·subst hx
    have hd:ds = []:=h2.nil_iff.mp rfl
    subst hd
    cases rx
    cases ry
    obtain ⟨its,q1,p1,_⟩:=I.tuple h1
    obtain ⟨its2,q2,p2,_⟩:=I.tuple h3
    cases q1
    exact Jiy p1 p2 ⟨.ref b,H,I,rfl,Out.now h ⟨b,ys,rfl,h3,h4⟩⟩
   ·refine JjJ pins s σ H _ _ v u Q I rx ry ⟨a,b,xs,ys,rfl,rfl,h1,h3,hx,Jas (by rw [l1,l2]; exact hz),fun hy=>?_,fun hy p hp=>?_⟩
    ·have he:es = []:=h4.nil_iff.mp hy
     subst he
     exact Out.now h ⟨a,xs,rfl,h1,by simpa using h2⟩
    ·obtain ⟨s1,q1⟩:=JeD (K:=X.K) hp (h2.append h4)
     exact h _ _ s1 q1
  ·exact h.elim
 ·rename_i ds es
  simp only [op2] at h
  split at h
  ·rename_i hz
   obtain ⟨a,xs,rfl,h1,h2⟩:=r1
   obtain ⟨b,ys,rfl,h3,h4⟩:=r2
   have l1:=h2.length
   have l2:=h4.length
   cases rx
   cases ry
   obtain ⟨its,q1,p1,_⟩:=I.list h1
   obtain ⟨its2,q2,p2,_⟩:=I.list h3
   have l3:=q1.length
   have l4:=q2.length
   have hz':xs.length + ys.length <= sizeLine:=Jas (by rw [l1,l2]; exact hz)
   refine Jfn p1.isList p2.isList ?_ (by rw [List.size_toArray,List.size_toArray]; omega)
   have ea:its.toArray ++ its2.toArray = (its ++ its2).toArray:=by simp
   rw [ea]
   obtain ⟨s1,w1⟩:=Jci (K:=X.K) (xs:=xs ++ ys) I.fresh (h2.append h4)
   exact ⟨.ref _,_,I.lnew (t':=s.toks) (q1.append q2) (by rw [List.length_append]; exact hz'),rfl,h _ _ s1 w1⟩
  ·exact h.elim
theorem Jjl:OpR X (binaryOp .Sub) (rD2 X .sub):=by
 intro pins s σ H x y v u Q I rx ry ⟨dx,dy,r1,r2,h⟩
 cases dx <;> cases dy <;> first
  | exact (show False from h).elim
  | exact JmK pins s σ H x y v u Q I rx ry ⟨_,_,r1,r2,Out.now h rfl⟩
theorem Jer {α:Type} (xs:Array α):∀ (n:Nat) (acc:Array α),((List.replicate n xs).foldl (· ++ ·) acc).size = acc.size + n * xs.size
 | 0,acc=>by simp
 | n + 1,acc=>by
  rw [List.replicate_succ,List.foldl_cons,Jer xs n,Array.size_append,Nat.succ_mul]
  omega
theorem Jkm:OpR X (binaryOp .Mult) (rD2 X .mul):=by
 intro pins s σ H x y v u Q I rx ry ⟨dx,dy,r1,r2,h⟩
 cases dx <;> cases dy <;> first
  | exact (show False from h).elim
  | skip
 ·rename_i i j
  simp only [op2] at h
  split at h
  ·rename_i hz
   refine JkR pins s σ H x y v u Q I rx ry ⟨i,j,r1,r2,?_,Out.now h rfl⟩
   simp only [smallI,Bool.or_eq_true,Bool.and_eq_true,decide_eq_true_eq] at hz
   exact hz
  ·exact h.elim
 ·rename_i i j
  simp only [op2] at h
  split at h
  ·rename_i hz
   obtain ⟨h1,h2,h3,h4⟩:=hz
   have e1:x = V.str i:=r1
   have e2:y = V.int j:=r2
   subst e1 e2
   obtain ⟨t,rfl⟩:=rx
   obtain ⟨t',rfl⟩:=ry
   have hm:i.length * j.toNat <= 1000 * 1000:=Nat.mul_le_mul h4 (by omega)
   have hk:PySem.Builtin.Str.tooLong (i.length * j.toNat) = false:=by
    unfold PySem.Builtin.Str.tooLong
    rw [decide_eq_false]
    have:=sizeLine_eq
    omega
   have hg:(j == 1 || i.length == 0) = false:=by
    rw [Bool.or_eq_false_iff,beq_eq_false_iff_ne,beq_eq_false_iff_ne]
    omega
   refine P.mul_str ?_ (fun _ _ q=>?_) (fun _ _=>hk) ?_
   ·rw [decide_eq_false (by omega),decide_eq_false (by omega)]; rfl
   ·have:(1000:Int) <= (2 ^ 63 - 1) / j:=by
     refine (Int.le_ediv_iff_mul_le (by omega)).mpr ?_
     omega
    omega
   ·rw [if_neg (by omega),if_neg (by rw [hg]; exact Bool.false_ne_true)]
    refine ⟨?_,⟨.str (repS i j),H,I.tok _,⟨_,rfl⟩,Out.now h rfl⟩⟩
    have e:(⟨(List.replicate j.toNat i.cps).foldl (· ++ ·) #[]⟩:Str).length = i.length * j.toNat:=by
     show ((List.replicate j.toNat i.cps).foldl (· ++ ·) #[]).size = _
     rw [Jer,Nat.mul_comm]
     simp [Str.length]
    rw [e]
    have:=sizeLine_eq
    omega
  ·exact h.elim
theorem JiM:OpR X (binaryOp .FloorDiv) (rD2 X .fdiv):=by
 intro pins s σ H x y v u Q I rx ry ⟨dx,dy,r1,r2,h⟩
 cases dx <;> cases dy <;> first
  | exact (show False from h).elim
  | skip
 rename_i i j
 simp only [op2] at h
 split at h
 ·rename_i hz
  exact JjO pins s σ H x y v u Q I rx ry ⟨i,j,r1,r2,hz,Out.now h rfl⟩
 ·exact h.elim
theorem Jki:OpR X (binaryOp .Mod) (rD2 X .mod):=by
 intro pins s σ H x y v u Q I rx ry ⟨dx,dy,r1,r2,h⟩
 cases dx <;> cases dy <;> first
  | exact (show False from h).elim
  | skip
 rename_i i j
 simp only [op2] at h
 split at h
 ·rename_i hz
  exact Jlb pins s σ H x y v u Q I rx ry ⟨i,j,r1,r2,hz,Out.now h rfl⟩
 ·exact h.elim
theorem Jjf (hu:X.A.units + 64 < cLine):OpR X (compareOp .Eq) (rD2 X .eq):=by
 intro pins s σ H x y v u Q I rx ry ⟨dx,dy,r1,r2,h⟩
 have h':(if (okDep dx && okDep dy) = true then Rs.ok (.bl (dx.eqv dy)) else .stuck:Rs D).Good (Out X H Q) (XW X H):=by
  cases dx <;> cases dy <;> exact h
 split at h'
 ·rename_i hd
  simp only [okDep,Bool.and_eq_true,decide_eq_true_eq] at hd
  exact (JiL I 20 X.A dx dy hd.1 (by omega) (by omega) r1 r2 rx ry (by omega)).1 X.prog X.w X.xe _ ⟨.bl _,H,I,rfl,Out.now h' rfl⟩
 ·exact h'.elim
theorem JiR (hu:X.A.units + 64 < cLine):OpR X (compareOp .NotEq) (rD2 X .ne):=by
 intro pins s σ H x y v u Q I rx ry ⟨dx,dy,r1,r2,h⟩
 have h':(if (okDep dx && okDep dy) = true then Rs.ok (.bl (!dx.eqv dy)) else .stuck:Rs D).Good (Out X H Q) (XW X H):=by
  cases dx <;> cases dy <;> exact h
 split at h'
 ·rename_i hd
  simp only [okDep,Bool.and_eq_true,decide_eq_true_eq] at hd
  exact (JiL I 20 X.A dx dy hd.1 (by omega) (by omega) r1 r2 rx ry (by omega)).2.1 X.prog X.w X.xe _ ⟨.bl _,H,I,rfl,Out.now h' rfl⟩
 ·exact h'.elim
theorem JiO:OpR X (compareOp .Lt) (rD2 X .lt):=by
 intro pins s σ H x y v u Q I rx ry ⟨dx,dy,r1,r2,h⟩
 cases dx <;> cases dy <;> first
  | exact (show False from h).elim
  | exact op_lt pins s σ H x y v u Q I rx ry ⟨_,_,r1,r2,Out.now h rfl⟩
  | exact JgD pins s σ H x y v u Q I rx ry ⟨_,_,r1,r2,Out.now h rfl⟩
theorem JkH:OpR X (compareOp .LtE) (rD2 X .le):=by
 intro pins s σ H x y v u Q I rx ry ⟨dx,dy,r1,r2,h⟩
 cases dx <;> cases dy <;> first
  | exact (show False from h).elim
  | exact op_le pins s σ H x y v u Q I rx ry ⟨_,_,r1,r2,Out.now h rfl⟩
theorem Jgl:OpR X (compareOp .Gt) (rD2 X .gt):=by
 intro pins s σ H x y v u Q I rx ry ⟨dx,dy,r1,r2,h⟩
 cases dx <;> cases dy <;> first
  | exact (show False from h).elim
  | exact op_gt pins s σ H x y v u Q I rx ry ⟨_,_,r1,r2,Out.now h rfl⟩
theorem Jjh:OpR X (compareOp .GtE) (rD2 X .ge):=by
 intro pins s σ H x y v u Q I rx ry ⟨dx,dy,r1,r2,h⟩
 cases dx <;> cases dy <;> first
  | exact (show False from h).elim
  | exact op_ge pins s σ H x y v u Q I rx ry ⟨_,_,r1,r2,Out.now h rfl⟩
theorem JgX:∀ {ds:List D} {j:Nat} {d:D},ds[j]? = some d -> d.dep <= deps ds
 | [],_,_,h=>by simp at h
 | a :: ds,0,d,h=>by simp at h; subst h; simp only [deps]; omega
 | a :: ds,j + 1,d,h=>by
  have:=JgX (ds:=ds) (j:=j) (d:=d) (by simpa using h)
  simp only [deps]; omega
open Classical in
def eU (ds:List D) (its:List Value) (d:D) (y:Value):Bool:=decide (∃ (j:Nat) (d':D),its[j]? = some y /\ ds[j]? = some d' /\ d'.eqv d = true)
open Classical in
theorem Jii {pins:List (Addr × Obj)} {σ:L2.St} {H:Hp} {s:Shared} (I:L2.Inv X pins σ H s) {ds:List D} {xs:List V} {its:List Value} (hr:Reps X.K H ds xs) (hv:Vals xs its) (pd:deps ds < 1000) {d d':D} {j:Nat} {y:Value} (h1:its[j]? = some y) (h2:ds[j]? = some d') :
  eU ds its d y = d'.eqv d:=by
 have same:∀ k d'',its[k]? = some y -> ds[k]? = some d'' -> d'' = d':=fun k d'' k1 k2=>by
  obtain ⟨x1,e1,r1⟩:=hr.get h2
  obtain ⟨x2,e2,r2⟩:=hr.get k2
  obtain ⟨u1,f1,w1⟩:=hv.get e1
  obtain ⟨u2,f2,w2⟩:=hv.get e2
  rw [h1] at f1; cases f1
  rw [k1] at f2; cases f2
  have:=w1.inj w2
  subst this
  exact Rep.inj I _ (Nat.lt_of_le_of_lt (JgX k2) pd) (Nat.lt_of_le_of_lt (JgX h2) pd) r2 r1
 cases e:d'.eqv d with
 | true=>exact decide_eq_true ⟨j,d',h1,h2,e⟩
 | false=>
  refine decide_eq_false ?_
  rintro ⟨k,d'',k1,k2,k3⟩
  rw [same k d'' k1 k2,e] at k3
  cases k3
open Classical in
theorem JdZ {pins:List (Addr × Obj)} {σ:L2.St} {H:Hp} {s:Shared} (I:L2.Inv X pins σ H s) {ds:List D} {xs:List V} {its:List Value} (hr:Reps X.K H ds xs) (hv:Vals xs its) (pd:deps ds < 1000) (d:D):its.toArray.any (eU ds its d) = ds.any fun d'=>d'.eqv d:=by
 have l1:=hv.length
 have l2:=hr.length
 rw [show its.toArray.any (eU ds its d) = its.any (eU ds its d) by simp,Bool.eq_iff_iff,List.any_eq_true,List.any_eq_true]
 constructor
 ·rintro ⟨y,hy,e⟩
  obtain ⟨j,d',_,k2,k3⟩:=of_decide_eq_true e
  exact ⟨d',List.mem_of_getElem? k2,k3⟩
 ·rintro ⟨d',hd,e⟩
  obtain ⟨j,hj⟩:=List.getElem?_of_mem hd
  have hjl:j < its.length:=by
   have:=(List.getElem?_eq_some_iff.mp hj).1
   omega
  refine ⟨its[j],List.getElem_mem hjl,?_⟩
  rw [Jii I hr hv pd (List.getElem?_eq_getElem hjl) hj]
  exact e
theorem Jbv {pins:List (Addr × Obj)} {σ:L2.St} {H:Hp} {s:Shared} (hu:X.A.units + 64 < cLine) (I:L2.Inv X pins σ H s) {ds:List D} {xs:List V} {its:List Value} (hr:Reps X.K H ds xs) (hv:Vals xs its) {d:D} {x:V} {v:Value} (rd:Rep X.K H d x) (rx:RelV x v) (hd:deps ds <= 20) (hdd:d.dep <= 20) :
  ∀ y,y ∈ its.toArray -> EqAt X.A.in1 s y v (eU ds its d y):=by
 intro y hy
 have hy':y ∈ its:=by simpa using hy
 obtain ⟨j,hj⟩:=List.getElem?_of_mem hy'
 have l1:=hv.length
 have l2:=hr.length
 have hjl:=(List.getElem?_eq_some_iff.mp hj).1
 have hdj:ds[j]? = some (ds.getD j .non):=by
  rw [List.getD_eq_getElem?_getD,List.getElem?_eq_getElem (by omega)]
  rfl
 rw [Jii I hr hv (by omega) hj hdj]
 obtain ⟨x1,e1,r1⟩:=hr.get hdj
 obtain ⟨u1,f1,w1⟩:=hv.get e1
 rw [hj] at f1
 cases f1
 exact (JiL I 20 X.A.in1 _ d (Jw hd) (Nat.lt_of_le_of_lt (Jw hd) (by decide)) (by omega) r1 rd w1 rx (by show X.A.units + 1 + 20 + 1 < cLine; omega)).2.2
theorem Jed {x:Str} (h:x.cps = #[x.cps.getD 0 0]):x = ⟨#[x.cps.getD 0 0]⟩:=by
 obtain ⟨c⟩:=x
 show Str.mk c = _
 rw [<- h]
theorem Jlp (hu:X.A.units + 64 < cLine):OpR X (compareOp .In) (rD2 X .isin):=by
 intro pins s σ H x y v u Q I rx ry ⟨dx,dy,r1,r2,h⟩
 cases dy with
 | str z=>
  cases dx with
  | str w=>
   simp only [op2] at h
   split at h
   ·rename_i hc
    refine Jfr pins s σ H x y v u Q I rx ry ⟨w,z,r1,r2,?_⟩
    have e:=PySem.StrLaws.found_one z (w.cps.getD 0 0)
    rw [<- Jed hc] at e
    rw [e]
    exact Out.now h rfl
   ·exact h.elim
  | _=>exact (show False from h).elim
 | tup ds=>
  have h':(if (okDep (.tup ds) && okDep dx) = true then Rs.ok (.bl (ds.any fun d=>d.eqv dx)) else .stuck:Rs D).Good (Out X H Q) (XW X H):=by
   cases dx <;> exact h
  split at h'
  ·rename_i hc
   have hc':deps ds + 1 <= 20 /\ dx.dep <= 20:=by simpa [okDep,D.dep] using hc
   obtain ⟨a,xs,rfl,h1,h2⟩:=r2
   cases ry
   obtain ⟨its,rv,p,_⟩:=I.tuple h1
   refine SeqAt.in_tupleAt (eU ds its dx) p (Jbv hu I h2 rv r1 rx (by omega) hc'.2) ⟨.bl _,H,I,rfl,?_⟩
   rw [JdZ I h2 rv (by omega)]
   exact Out.now h' rfl
  ·exact h'.elim
 | lst ds=>
  have h':(if (okDep (.lst ds) && okDep dx) = true then Rs.ok (.bl (ds.any fun d=>d.eqv dx)) else .stuck:Rs D).Good (Out X H Q) (XW X H):=by
   cases dx <;> exact h
  split at h'
  ·rename_i hc
   have hc':deps ds + 1 <= 20 /\ dx.dep <= 20:=by simpa [okDep,D.dep] using hc
   obtain ⟨a,xs,rfl,h1,h2⟩:=r2
   cases ry
   obtain ⟨its,rv,p,_⟩:=I.list h1
   refine SeqAt.in_listAt (eU ds its dx) p.isList (Jbv hu I h2 rv r1 rx (by omega) hc'.2) ⟨.bl _,H,I,rfl,?_⟩
   rw [JdZ I h2 rv (by omega)]
   exact Out.now h' rfl
  ·exact h'.elim
 | _=>cases dx <;> exact (show False from h).elim
theorem Jgo (hu:X.A.units + 64 < cLine):OpR X (compareOp .NotIn) (rD2 X .notin):=by
 intro pins s σ H x y v u Q I rx ry ⟨dx,dy,r1,r2,h⟩
 cases dy with
 | str z=>
  cases dx with
  | str w=>
   simp only [op2] at h
   split at h
   ·rename_i hc
    refine Jcs pins s σ H x y v u Q I rx ry ⟨w,z,r1,r2,?_⟩
    have e:=PySem.StrLaws.found_one z (w.cps.getD 0 0)
    rw [<- Jed hc] at e
    rw [e]
    exact Out.now h rfl
   ·exact h.elim
  | _=>exact (show False from h).elim
 | tup ds=>
  have h':(if (okDep (.tup ds) && okDep dx) = true then Rs.ok (.bl (!ds.any fun d=>d.eqv dx)) else .stuck:Rs D).Good (Out X H Q) (XW X H):=by
   cases dx <;> exact h
  split at h'
  ·rename_i hc
   have hc':deps ds + 1 <= 20 /\ dx.dep <= 20:=by simpa [okDep,D.dep] using hc
   obtain ⟨a,xs,rfl,h1,h2⟩:=r2
   cases ry
   obtain ⟨its,rv,p,_⟩:=I.tuple h1
   refine SeqAt.notIn_tupleAt (eU ds its dx) p (Jbv hu I h2 rv r1 rx (by omega) hc'.2) ⟨.bl _,H,I,rfl,?_⟩
   rw [JdZ I h2 rv (by omega)]
   exact Out.now h' rfl
  ·exact h'.elim
 | lst ds=>
  have h':(if (okDep (.lst ds) && okDep dx) = true then Rs.ok (.bl (!ds.any fun d=>d.eqv dx)) else .stuck:Rs D).Good (Out X H Q) (XW X H):=by
   cases dx <;> exact h
  split at h'
  ·rename_i hc
   have hc':deps ds + 1 <= 20 /\ dx.dep <= 20:=by simpa [okDep,D.dep] using hc
   obtain ⟨a,xs,rfl,h1,h2⟩:=r2
   cases ry
   obtain ⟨its,rv,p,_⟩:=I.list h1
   refine SeqAt.notIn_listAt (eU ds its dx) p.isList (Jbv hu I h2 rv r1 rx (by omega) hc'.2) ⟨.bl _,H,I,rfl,?_⟩
   rw [JdZ I h2 rv (by omega)]
   exact Out.now h' rfl
  ·exact h'.elim
 | _=>cases dx <;> exact (show False from h).elim
theorem JfS {K:PySem.W.Frag} {H:Hp} {ds:List D} {xs:List V} {i:Int} {d:D} (hr:Reps K H ds xs) (h:atD ds i = some d):∃ x,atI xs i = some x /\ Rep K H d x:=by
 have l:=hr.length
 unfold atD at h
 unfold atI
 have e:L2.ixN xs.length i = ixn ds.length i:=by rw [l]; rfl
 rw [e]
 cases q:ixn ds.length i with
 | none=>rw [q] at h; cases h
 | some j=>
  rw [q] at h
  exact hr.get h
theorem Jmf:IxR X (rD2 X .idx):=by
 intro value slice pins s σ H x y v u Q I rx ry ⟨dx,dy,r1,r2,h⟩ hs
 cases dx <;> cases dy <;> first
  | exact (show False from h).elim
  | skip
 ·rename_i z i
  simp only [op2] at h
  split at h
  ·rename_i hz
   cases q:atD z.cps.toList i with
   | none=>rw [q] at h; exact h.elim
   | some c=>
    rw [q] at h
    exact JlC value slice pins s σ H x y v u Q I rx ry ⟨z,i,c,r1,r2,Jas hz,q,Out.now h rfl⟩ hs
  ·exact h.elim
 ·rename_i ds i
  simp only [op2] at h
  cases q:atD ds i with
  | none=>rw [q] at h; exact h.elim
  | some d=>
   rw [q] at h
   obtain ⟨a,xs,rfl,h1,h2⟩:=r1
   obtain ⟨w,k1,k2⟩:=JfS h2 q
   exact JlM value slice pins s σ H _ y v u Q I rx ry ⟨a,xs,i,w,rfl,r2,h1,k1,Out.now h k2⟩ hs
 ·rename_i ds i
  simp only [op2] at h
  cases q:atD ds i with
  | none=>rw [q] at h; exact h.elim
  | some d=>
   rw [q] at h
   obtain ⟨a,xs,rfl,h1,h2⟩:=r1
   obtain ⟨w,k1,k2⟩:=JfS h2 q
   exact JjA value slice pins s σ H _ y v u Q I rx ry ⟨a,xs,i,w,rfl,r2,h1,k1,Out.now h k2⟩ hs
end
end Rd
namespace HT
open PySem PyProof.Rows
theorem Jar {prog:Program} {w:World} {A:Around} {E:Value -> Shared -> Prop} {s:Shared} {t sl:Addr} {items:Array Value} {vl vu:Value} {lo hi:Option Int} {Q:Value -> Shared -> Prop} (ht:IsTup s.heap t items) (hs:s.heap.IsSliceOf sl vl vu .none) (pl:IsPart vl lo) (pu:IsPart vu hi)
  (hw:sIx items.size 0 lo = 0 /\ sIx items.size items.size hi = items.size) (h:Q (.ref t) s):wpAny (model prog w) A (getItem (.ref t) (.ref sl)) Q E s:=by
 obtain ⟨os,hos,hcs,hds⟩:=id hs
 have hTs:s.TypeIs (.ref sl) "slice":=⟨os,hos,hcs⟩
 unfold getItem
 try with_reducible refine wpAny_holding ?_
 first | refine wpAny_bind (wpAny_pure ?_) | skip
 refine wpAny_bind (wpAny_sequenceKey ht.typeIs (by decide) ?_)
 refine wpAny_bind (wpAny_callSpecial?_slot (name:=Str.ofString "__getitem__") ht.typeIs PyProof.Rows.slot_tuple_getitem
  (wpAny_call_entry PyProof.Rows.slot_tuple_getitem ht.typeIs entry_tuple_getitem ?_ (args_tuple_getitem _ _)))
 show wpAny _ _ (Builtin.Tuple.tupleItemsOf (.ref t) >>= _) _ _ s
 refine wpAny_bind (tupleItemsOf_ ht ?_)
 refine wpAny_bind (wpAny_typeOf hTs ?_)
 rw [if_pos (by decide)]
 refine wpAny_bind (JB hs pl pu ?_)
 have hyes:(((sIx items.size 0 lo:Nat):Int) == 0 && (1:Int) == 1 && (sIx items.size items.size hi - sIx items.size 0 lo) == items.size) = true:=by
  rw [hw.1,hw.2]; simp
 show wpAny _ _ (if (((sIx items.size 0 lo:Nat):Int) == 0 && (1:Int) == 1 && (sIx items.size items.size hi - sIx items.size 0 lo) == items.size) = true then _ else _) _ _ s
 rw [if_pos hyes]
 have hex:∀ {Q':Bool -> Shared -> Prop},Q' true s -> wpAny (model prog w) A.in1 (Builtin.Tuple.tupleIsExact (.ref t)) Q' E s:=fun {Q'} q=>by
  obtain ⟨o,ho,hc,n,hd⟩:=id ht
  unfold Builtin.Tuple.tupleIsExact
  refine wpAny_bind (wpAny_typeOf (T:="tuple") ⟨o,ho,hc⟩ ?_)
  exact wpAny_pure q
 first
  | exact wpAny_bind (hex (by simp only [if_true]; exact wpAny_bind (wpAny_rule (wpAny_pure ⟨_,rfl,wpAny_pure h⟩))))
  | exact wpAny_bind (wpAny_of_in1 (hex (by simp only [if_true]; exact wpAny_bind (wpAny_rule (wpAny_pure ⟨_,rfl,wpAny_pure h⟩)))))
end HT
namespace Rd
open PySem PySem.Spec PyProof.Rows L2 Pu
open PySem.SeqAt (EqAt RcAt RcNeAt)
section
variable {X:Cx} {call:CallD} {e a b c:Expr} {es:List Expr} {p pa pb pc pl ph:Px} {pos:Pos}
theorem JbO {K:PySem.W.Frag} {H:Hp} {ds:List D} {xs:List V} {lo hi:Option Int} (hr:Reps K H ds xs):Reps K H (cutD ds lo hi) (cutV xs lo hi):=by
 have l:=hr.length
 have e:cutV xs lo hi = (xs.drop (six ds.length 0 lo)).take (six ds.length ds.length hi - six ds.length 0 lo):=by
  unfold cutV; rw [l]; rfl
 rw [e]
 exact (hr.drop _).take _
def rSlD (X:Cx):V -> Option Int -> Option Int -> Hp -> VK -> Prop:=fun x lo hi H Q=>∃ d,Rep X.K H d x /\ (match d with
 | .tup ds=>Rs.ok (.tup (cutD ds lo hi))
 | .lst ds=>.ok (.lst (cutD ds lo hi))
 | _=>.stuck:Rs D).Good (Out X H Q) (XW X H)
theorem slD:SlR X (rSlD X):=by
 intro pins s σ H x v vl vu lo hi sl Q I rx hs pl pu ⟨d,r,h⟩
 cases d with
 | tup ds=>
  obtain ⟨a,xs,rfl,h1,h2⟩:=r
  by_cases hw:HT.sIx xs.length 0 lo = 0 /\ HT.sIx xs.length xs.length hi = xs.length
  ·cases rx
   obtain ⟨its,r,ht,hz⟩:=I.tuple h1
   have hlen:its.toArray.size = xs.length:=by rw [List.size_toArray]; exact r.length.symm
   refine ⟨"tuple",_,PyProof.Rows.slot_tuple_getitem.lookup,ht.typeIs,HT.Jar ht hs pl pu (by rw [hlen]; exact hw) ⟨.ref a,H,I,rfl,Out.now h ⟨a,xs,rfl,h1,?_⟩⟩⟩
   have e:=JbO (lo:=lo) (hi:=hi) h2
   have e2:cutV xs lo hi = xs:=by unfold cutV; rw [hw.1,hw.2]; simp
   rw [e2] at e
   exact e
  ·refine JmD pins s σ H _ v vl vu lo hi sl Q I rx hs pl pu ⟨a,xs,rfl,h1,hw,fun p hp=>?_⟩
   obtain ⟨s1,q1⟩:=JeD (K:=X.K) hp (JbO (lo:=lo) (hi:=hi) h2)
   exact h _ _ s1 q1
 | lst ds=>
  obtain ⟨a,xs,rfl,h1,h2⟩:=r
  refine JjP pins s σ H _ v vl vu lo hi sl Q I rx hs pl pu ⟨a,xs,rfl,h1,fun p hp=>?_⟩
  obtain ⟨s1,q1⟩:=Jci (K:=X.K) hp (JbO (lo:=lo) (hi:=hi) h2)
  exact h _ _ s1 q1
 | _=>exact h.elim
def tO (X:Cx) (call:CallD) (p:Px):TO:=fun σ H Q=>∃ env,ReadOk X.K H σ env /\ ((evD call p env).bind D.bound).Good (fun o=>∀ H',Same H H' -> Q o H') (XW X H)
theorem Jkz:PO X none (tO X call (.con .non)):=fun pins s σ H Q I ⟨env,r,h⟩=>Jjy pins s σ H Q I (h H (Same.refl H))
theorem JjD (h:PE X e (tI X call p)):PO X (some e) (tO X call (.un .asI p)):=fun pins s σ H Q I ⟨env,r,hg⟩=>JjG h pins s σ H Q I (by
 simp only [evD,Rs.bind_assoc] at hg
 refine ⟨env,r,(Rs.good_bind.mp hg).imp fun d hd v H' s1 rv=>?_⟩
 cases d with
 | int i=>exact ⟨i,rv,hd H' s1⟩
 | _=>exact (show False from hd).elim)
theorem JhF {lo hi:Option Expr} {p2:Pos} (he:PE X e (tI X call pa)) (hl:PO X lo (tO X call pl)) (hu:PO X hi (tO X call ph)):PE X (.Subscript e (.Slice lo hi none p2) pos) (tI X call (.sl pa pl ph)):=by
 refine PE.weak (JiD slD he hl hu) fun σ H Q ⟨env,r,h⟩=>?_
 simp only [evD] at h
 refine tI.then r h fun d v H1 s1 rv r1 h1=>?_
 rw [<- Rs.bind_assoc] at h1
 refine ⟨env,r1,(Rs.good_bind.mp h1).imp fun l h2 H2 s2=>?_⟩
 rw [<- Rs.bind_assoc] at h2
 refine ⟨env,r1.mono s2,((Rs.good_bind.mp h2).imp fun u h3 H3 s3=>?_).mono (fun _ x=>x) fun c x=>x.mono s2⟩
 refine ⟨d,rv.mono (s2.trans s3),?_⟩
 have h4:=h3.mono (fun d' (o:Out X H1 Q d')=>o.mono (s2.trans s3)) fun c (x:XW X H1 c)=>x.mono (s2.trans s3)
 cases d <;> exact h4
theorem tF.of {σ:L2.St} {H:Hp} {Q:VK} (h:tI X call p σ H Q) (hl:∀ env d,ReadOk X.K H σ env -> evD call p env = .ok d -> ∃ ds,d = .lst ds):tF X call p σ H Q:=by
 obtain ⟨env,r,h⟩:=h
 refine ⟨env,r,?_⟩
 cases q:evD call p env with
 | ok d=>
  rw [q] at h
  obtain ⟨ds,rfl⟩:=hl env d r q
  exact ⟨ds,rfl,fun l xs H' s h1 h2 h3=>h _ _ s ⟨l,xs,rfl,SqL.of h2,h3⟩⟩
 | ex c=>rw [q] at h; exact h
 | stuck=>rw [q] at h; exact h
def isL:Px -> Bool
 | .comp _ _ _ _=>true
 | .dis _=>true
 | _=>false
theorem Jfv {env:Fm} {d:D} (h:isL p = true) (e:evD call p env = .ok d):∃ ds,d = .lst ds:=by
 cases p with
 | comp nt a b c=>
  simp only [evD] at e
  cases q:evD call a env with
  | ok d'=>
   rw [q] at e
   cases d' with
   | lst ds=>
    simp only [Rs.bind_ok,D.asL] at e
    split at e
    ·cases q2:compL nt (evD call b) (evD call c) env ds with
     | ok ys=>rw [q2] at e; cases e; exact ⟨ys,rfl⟩
     | ex c=>rw [q2] at e; cases e
     | stuck=>rw [q2] at e; cases e
    ·cases e
   | _=>cases e
  | ex c=>rw [q] at e; cases e
  | stuck=>rw [q] at e; cases e
 | dis a=>
  simp only [evD] at e
  cases q:evD call a env with
  | ok d'=>
   rw [q] at e
   cases d' with
   | lst ds=>
    simp only [Rs.bind_ok,D.asL] at e
    split at e
    ·cases e; exact ⟨ds,rfl⟩
    ·cases e
   | _=>cases e
  | ex c=>rw [q] at e; cases e
  | stuck=>rw [q] at e; cases e
 | _=>cases h
theorem JiG (h:PE X e (tF X call p)) (hl:isL p = true:=by rfl):PE X e (tI X call p):=PE.weak h fun σ H Q hq=>tF.of hq fun env d _ q=>Jfv hl q
theorem Jli (h:PA X es (tA X call p)):PE X (.List es pos) (tF X call (.dis p)):=by
 refine PE.weak (Jll h) fun σ H Q ⟨env,r,h⟩=>?_
 simp only [evD] at h
 refine ⟨env,r,(Rs.good_bind.mp h).imp fun d hd=>?_⟩
 cases d with
 | lst ds=>
  simp only [D.asL,Rs.bind_ok] at hd
  refine ⟨ds,rfl,fun vs H' s rs=>?_⟩
  split at hd
  ·rename_i hz
   refine ⟨by rw [rs.length,sizeLine_eq]; exact hz,fun a ha=>?_⟩
   obtain ⟨s2,r2⟩:=Jci ha rs
   obtain ⟨ds',e',hQ⟩:=hd
   cases e'
   exact hQ a vs _ (s.trans s2) (s.free ha) Ji (rs.mono s2)
  ·exact hd.elim
 | _=>exact hd.elim
def rC1 (X:Cx) (o:O1):List V -> Hp -> VK -> Prop:=fun xs H Q=>∃ x d,xs = [x] /\ Rep X.K H d x /\ (op1 o d).Good (Out X H Q) (XW X H)
theorem tC1 {o:O1} {σ:L2.St} {H:Hp} {Q:VK} (h:tI X call (.un o pa) σ H Q):tCB (rC1 X o) (tA X call (.cons pa .nil)) σ H Q:=by
 obtain ⟨env,r,h⟩:=h
 simp only [evD] at h
 refine ⟨env,r,?_⟩
 simp only [evD]
 refine Rs.good_bind.mpr ((Rs.good_bind.mp h).imp fun d hd=>?_)
 simp only [Rs.bind_ok,D.asL]
 refine ⟨[d],rfl,fun vs H' s rs=>?_⟩
 obtain ⟨x,r',e',h1,h2⟩:=rs
 cases h2
 subst e'
 exact ⟨x,d,rfl,h1,hd.mono (fun _ o=>o.mono s) fun _ x=>x.mono s⟩
section
variable {G:Gw} {N:List Str} {nm:List (Str × NameKind)} {x:Str} {id T:String} {p1:Pos}
theorem JgK {o:O1} (C:Ctx X G N nm) (hc:CallR X (.builtin id) (rC1 X o)) (ha:PE X a (tI X call pa)) (hg:gloB nm x = true) (hm:G.mg x = none) (hv:bootBuiltins x = some (.builtin id)) (hn:x ≠ "__name__") (hdb:(x == ("__debug__" : Str)) = false)
  (hs:starEach [a] X.env = (false,eval a X.env) :: starEach [] X.env:=by rfl):PE X (.Call (.Name x p1) [a] [] pos) (tI X call (.un o pa)):=
 PE.weak (JdI hc (C.glo _ hg) (by rw [C.mg]; exact hm) hv (JQ ha Jbw hs) hn hdb hs rfl) fun σ H Q h=>tC1 h
theorem Jjm {o:O1} (C:Ctx X G N nm) (hc:CallR X (.type T) (rC1 X o)) (ha:PE X a (tI X call pa)) (hg:gloB nm x = true) (hm:G.mg x = none) (hv:bootBuiltins x = some (.type T)) (hn:x ≠ "__name__") (hdb:(x == ("__debug__" : Str)) = false)
  (hs:starEach [a] X.env = (false,eval a X.env) :: starEach [] X.env:=by rfl):PE X (.Call (.Name x p1) [a] [] pos) (tI X call (.un o pa)):=
 PE.weak (Jce hc (C.glo _ hg) (by rw [C.mg]; exact hm) hv (JQ ha Jbw hs) hn hdb hs rfl) fun σ H Q h=>tC1 h
end
theorem Jlz:CallR X (.builtin "len") (rC1 X .len):=by
 intro pins s σ H xs us Q I rv ⟨x,d,e,r,h⟩
 subst e
 cases d with
 | str z=>
  simp only [op1] at h
  split at h
  ·rename_i hz
   exact Jcv pins s σ H _ us Q I rv ⟨z,by rw [show x = V.str z from r],Jas hz,Out.now h rfl⟩
  ·exact h.elim
 | tup ds=>
  obtain ⟨a,ys,rfl,h1,h2⟩:=r
  exact JaA pins s σ H _ us Q I rv ⟨a,ys,rfl,.inr h1,by rw [h2.length]; exact Out.now h rfl⟩
 | lst ds=>
  obtain ⟨a,ys,rfl,h1,h2⟩:=r
  exact JaA pins s σ H _ us Q I rv ⟨a,ys,rfl,.inl h1,by rw [h2.length]; exact Out.now h rfl⟩
 | _=>exact (show False from h).elim
theorem Jiv:CallR X (.type "tuple") (rC1 X .tuple):=by
 intro pins s σ H xs us Q I rv ⟨x,d,e,r,h⟩
 subst e
 cases d with
 | tup ds=>
  obtain ⟨a,ys,rfl,h1,h2⟩:=r
  exact JV pins s σ H _ us Q I rv ⟨a,ys,rfl,.inr ⟨h1,Out.now h ⟨a,ys,rfl,h1,h2⟩⟩⟩
 | lst ds=>
  obtain ⟨a,ys,rfl,h1,h2⟩:=r
  refine JV pins s σ H _ us Q I rv ⟨a,ys,rfl,.inl ⟨h1,fun l hl=>?_⟩⟩
  obtain ⟨s1,q1⟩:=JeD (K:=X.K) hl h2
  exact h _ _ s1 q1
 | _=>exact (show False from h).elim
theorem Jkl:CallR X (.type "list") (rC1 X .list):=by
 intro pins s σ H xs us Q I rv ⟨x,d,e,r,h⟩
 subst e
 cases d with
 | tup ds=>
  obtain ⟨a,ys,rfl,h1,h2⟩:=r
  refine JaB pins s σ H _ us Q I rv ⟨a,ys,rfl,.inr h1,fun l hl=>?_⟩
  obtain ⟨s1,q1⟩:=Jci (K:=X.K) hl h2
  exact h _ _ s1 q1
 | lst ds=>
  obtain ⟨a,ys,rfl,h1,h2⟩:=r
  refine JaB pins s σ H _ us Q I rv ⟨a,ys,rfl,.inl h1,fun l hl=>?_⟩
  obtain ⟨s1,q1⟩:=Jci (K:=X.K) hl h2
  exact h _ _ s1 q1
 | _=>exact (show False from h).elim
theorem Jmo:CallR X (.type "int") (rC1 X .ints):=by
 intro pins s σ H xs us Q I rv ⟨x,d,e,r,h⟩
 subst e
 cases d with
 | str z=>
  simp only [op1] at h
  split at h
  ·rename_i hz
   simp only [Bool.and_eq_true,decide_eq_true_eq,List.all_eq_true,isFig] at hz
   obtain ⟨⟨h1,h2⟩,h3⟩:=hz
   have hx:x = V.str z:=r
   subst hx
   obtain ⟨u,rfl,t,rfl⟩:=Jaz rv
   have hl:z.length <= 640:=by
    have e:z.length = z.cps.toList.length:=by simp [Str.length]
    rw [e]; exact h3
   exact PySem.W.KIN.call_text (PySem.intText_digits (fun c hc=>h1 c hc) h2 (by omega)) hl ⟨.int _,H,I.tok _,⟨_,rfl⟩,Out.now h rfl⟩
  ·exact h.elim
 | _=>exact (show False from h).elim
theorem Jgu {K:PySem.W.Frag} {H:Hp}:∀ {ds:List D} {bs:List Bool} {xs:List V},blsOf ds = some bs -> Reps K H ds xs -> xs = bs.map V.bl
 | [],_,_,h,r=>by
  simp only [blsOf] at h
  cases h
  cases r
  rfl
 | d :: ds,bs,_,h,⟨x,r,e,h1,h2⟩=>by
  subst e
  cases d with
  | bl b=>
   simp only [blsOf] at h
   cases q:blsOf ds with
   | none=>rw [q] at h; cases h
   | some bs'=>
    rw [q] at h
    cases h
    have:=Jgu q h2
    subst this
    cases h1
    rfl
  | _=>simp [blsOf] at h
theorem Jgm {bs:List Bool}:(List.range bs.length).all (fun i=>bs.getD i false) = bs.all id:=by
 induction bs with
 | nil=>rfl
 | cons b bs ih=>
  rw [List.length_cons,List.range_succ_eq_map,List.all_cons,List.all_map]
  simp only [List.all_cons,<- ih]
  rfl
theorem JhU {pins:List (Addr × Obj)} {σ:L2.St} {H:Hp} {s:Shared} (hcalm:X.calm = true) (I:L2.Inv X pins σ H s) {a:Addr} {bs:List Bool} (h1:SqL X.K H a (bs.map V.bl)) {Q:Value -> Shared -> Prop} {g:Bool} {tr:Nat -> Bool}
  (hq:∀ h' tk,(∀ b o,s.heap.get? b = some o -> h'.get? b = some o) -> Q (.bool g) { s with heap:=h',toks:=tk }) :
  wpAny (model X.prog X.w) X.A.in1 (pyIter (.ref a)) (fun it s₂=>∃ I fp wr n P St tr,it = .ref I /\ Walks X.prog X.w X.A.in1 I fp wr n P St /\ St 0 s₂.heap /\ TruthOf X.prog X.w X.A.in1 P tr /\ n = bs.length /\ tr = (fun i=>bs.getD i false) /\
   ∀ h' tk,(∀ b o,b ∉ wr -> s₂.heap.get? b = some o -> h'.get? b = some o) -> Q (.bool g) { s₂ with heap:=h',toks:=tk }) X.xe s:=by
 obtain ⟨its,rv,p,hz⟩:=I.list h1
 have hh:X.A.in1.handled = none:=by show X.A.handled = none; exact I.ok.hd hcalm
 refine wpAny_pyIter_list p.isList ?_
 obtain ⟨o,ho,_⟩:=p.isList
 have hlt:a < s.heap.objs.size:=Heap.lt_size ho
 refine ⟨s.heap.objs.size,_,_,_,_,_,fun i=>bs.getD i false,rfl,Walks.list hh s.heap.objs.size a (Nat.ne_of_lt hlt) its.toArray,⟨⟨_,Heap.get?_push_size _ rfl,rfl,rfl⟩,p.isList.push _⟩,?_,?_,rfl,fun h' tk k=>?_⟩
 ·intro i v Q' E' s' hv q
  have hv':its[i]? = some v:=by simpa using hv
  have hl:=rv.length
  have hi:i < its.length:=(List.getElem?_eq_some_iff.mp hv').1
  have hbi:(bs.map V.bl)[i]? = some (V.bl (bs.getD i false)):=by
   rw [List.getElem?_map,List.getD_eq_getElem?_getD,List.getElem?_eq_getElem (by rw [List.length_map] at hl; omega)]
   rfl
  obtain ⟨u,e1,e2⟩:=rv.get hbi
  rw [hv'] at e1
  cases e1
  cases e2
  exact wpAny_truthy_bool q
 ·have hl:=rv.length
  rw [List.length_map] at hl
  rw [List.size_toArray]
  exact hl.symm
 ·refine hq h' tk fun b o e=>k b o ?_ (Heap.get?_push_of_some _ e)
  intro hb
  have:b = s.heap.objs.size:=by simpa using hb
  rw [this] at e
  exact Nat.lt_irrefl _ (Heap.lt_size e)
theorem JlB (hcalm:X.calm = true):CallR X (.builtin "all") (rC1 X .all):=by
 intro pins s σ H xs us Q I rv ⟨x,d,e,r,h⟩
 subst e
 cases d with
 | lst ds=>
  simp only [op1] at h
  cases q:blsOf ds with
  | none=>rw [q] at h; exact h.elim
  | some bs=>
   rw [q] at h
   obtain ⟨a,ys,rfl,h1,h2⟩:=r
   have:=Jgu q h2
   subst this
   obtain ⟨u,rfl,rx⟩:=Jaz rv
   cases rx
   refine call_all_walk (thn (JhU (g:=bs.all id) (tr:=fun _=>true) hcalm I h1 (Q:=EP X pins σ Q) fun h' tk k=>⟨.bl _,H,I.kept k,rfl,Out.now h rfl⟩) fun it s2 ⟨I',fp,wr,n,Pz,Sz,tr,e1,W,st,tt,e2,e3,hq⟩=>?_)
   subst e2; subst e3
   refine ⟨I',fp,wr,_,Pz,Sz,_,e1,W,st,tt,fun h' tk k=>?_⟩
   rw [Jgm]
   exact hq h' tk k
 | _=>exact (show False from h).elim
theorem tI.un1 {o:O1} {σ:L2.St} {H:Hp} {Q:VK} {Q':VK} (h:tI X call (.un o pa) σ H Q) (hk:∀ d v H',Same H H' -> Rep X.K H' d v -> (op1 o d).Good (Out X H' Q) (XW X H') -> Q' v H'):tI X call pa σ H Q':=by
 obtain ⟨env,r,h⟩:=h
 simp only [evD] at h
 exact tI.then r h fun d v H' s rv _ hd=>hk d v H' s rv hd
theorem JfK {K:PySem.W.Frag} {H:Hp} {d:D} {v:V} (r:Rep K H d v):op1 .isN d = .ok (.bl (decide (v = .non))) /\ op1 .notN d = .ok (.bl (!decide (v = .non))):=by
 cases d with
 | non=>cases r; exact ⟨rfl,rfl⟩
 | bl b=>cases r; exact ⟨rfl,rfl⟩
 | int b=>cases r; exact ⟨rfl,rfl⟩
 | str b=>cases r; exact ⟨rfl,rfl⟩
 | tup ds=>obtain ⟨a,xs,rfl,_,_⟩:=r; exact ⟨rfl,rfl⟩
 | lst ds=>obtain ⟨a,xs,rfl,_,_⟩:=r; exact ⟨rfl,rfl⟩
 | dct t z ks vs=>obtain ⟨a,xs,rfl,_,_⟩:=r; exact ⟨rfl,rfl⟩
 | exc c=>obtain ⟨a,o,C,rfl,_⟩:=r; exact ⟨rfl,rfl⟩
 | fn x i=>obtain ⟨f,rfl,_⟩:=r; exact ⟨rfl,rfl⟩
theorem JlO {j p'} (ha:PE X a (tI X call pa)):PT X (.Compare a [.Is] [.Constant .none j p'] pos) (tT X call (.un .isN pa)):=
 PT.weak (Jjj (Jmm ha)) fun σ H Q h=>h.asTest.un1 fun d v H' s rv hd=>by rw [(JfK rv).1] at hd; exact Out.now hd rfl
theorem JjW {j p'} (ha:PE X a (tI X call pa)):PT X (.Compare a [.IsNot] [.Constant .none j p'] pos) (tT X call (.un .notN pa)):=
 PT.weak (Jjj (Jkq ha)) fun σ H Q h=>h.asTest.un1 fun d v H' s rv hd=>by rw [(JfK rv).2] at hd; exact Out.now hd rfl
theorem JkC (ha:PE X a (tI X call pa)):PE X (.UnaryOp .USub a pos) (tI X call (.un .neg pa)):=by
 refine PE.weak (pe_un Jmd ha) fun σ H Q h=>h.un1 fun d v H' s rv hd=>?_
 cases d with
 | int i=>exact ⟨i,rv,Out.now hd rfl⟩
 | _=>exact (show False from hd).elim
end
end Rd
namespace Rd
open PySem PySem.Spec PyProof.Rows L2 Pu
def itName (t:Bool):String:=if t then "tuple_iterator" else "list_iterator"
def IsIt (t:Bool) (h:Heap) (it a:Addr) (i:Nat):Prop:=∃ o,h.get? it = some o /\ o.cls = .type (itName t) /\ o.data = .fields #[.ref a,.int i 0]
def IsSq (t:Bool) (h:Heap) (a:Addr) (items:Array Value):Prop:=match t with
 | true=>h.IsTuple a items
 | false=>h.IsList a items
theorem IsIt.stay {t:Bool} {h h':Heap} {it a:Addr} {i:Nat} (x:IsIt t h it a i) (k:∀ o,h.get? it = some o -> h'.get? it = some o):IsIt t h' it a i:=let ⟨o,e,r⟩:=x; ⟨o,k o e,r⟩
theorem IsSq.stay {t:Bool} {h h':Heap} {a:Addr} {items:Array Value} (x:IsSq t h a items) (k:∀ o,h.get? a = some o -> h'.get? a = some o):IsSq t h' a items:=by
 cases t
 ·exact let ⟨o,e,r⟩:=(show h.IsList a items from x); (show h'.IsList a items from ⟨o,k o e,r⟩)
 ·exact let ⟨o,e,r⟩:=(show h.IsTuple a items from x); (show h'.IsTuple a items from ⟨o,k o e,r⟩)
theorem IsIt.lt {t:Bool} {h:Heap} {it a:Addr} {i:Nat} (x:IsIt t h it a i):it < h.objs.size:=let ⟨_,e,_⟩:=x; Heap.lt_size e
section
variable {prog:Program} {w:World} {A:Around} {E:Value -> Shared -> Prop} {s:Shared} {t:Bool} {it a:Addr} {i:Nat} {items:Array Value}
theorem Jz {x:Value} {Q:Value -> Shared -> Prop} (hit:IsIt t s.heap it a i) (hl:IsSq t s.heap a items) (hx:items[i]? = some x)
  (hQ:∀ h',IsIt t h' it a (i + 1) -> Heap.SameBut it s.heap h' -> Q x { s with heap:=h' }):wpAny (model prog w) A (Builtin.SmallTypes.nextOf (.ref it)) Q E s:=by
 cases t with
 | false=>exact wpAny_nextOf_list_item (l:=a) (i:=i) hit hl hx hQ
 | true=>
  obtain ⟨o,ho,hc,hd⟩:=id hit
  obtain ⟨ol,hol,_,nl,hdl⟩:=(show s.heap.IsTuple a items from hl)
  have ty:s.TypeIs (.ref it) "tuple_iterator":=⟨o,ho,hc⟩
  unfold Builtin.SmallTypes.nextOf
  refine wpAny_bind (wpAny_callSpecial?_slot (name:=Str.ofString "__next__") ty F.slot_tuple_iterator_next (wpAny_call_entry F.slot_tuple_iterator_next ty F.entry_tuple_iterator_next ?_ (F.args_tuple_iterator_next_1 _)))
  show wpAny _ _ (field (.ref it) 0 >>= _) _ _ s; refine wpAny_bind (wpAny_field ho hd (x:=.ref a) rfl ?_)
  show wpAny _ _ (if (Value.ref a == Value.none) = true then _ else _) _ _ s; rw [if_neg (show ¬ ((Value.ref a == Value.none) = true) from Bool.false_ne_true)]
  show wpAny _ _ (field (.ref it) 1 >>= _) _ _ s; refine wpAny_bind (wpAny_field ho hd (x:=.int i 0) rfl ?_)
  show wpAny _ _ (seqItems? (.ref a) >>= _) _ _ s; refine wpAny_bind (wpAny_seqItems hol hdl ?_)
  simp only [Int.toNat_natCast,hx]; refine wpAny_bind (wpAny_setField ho hd (by simp) (wpAny_pure ⟨x,rfl,wpAny_pure (hQ _ ?_ (Heap.SameBut.update ..))⟩))
  refine ⟨_,Heap.get?_update_self _ ho (Obj.isFreed_of_fields (Obj.data_mapFields hd _)),(Obj.cls_mapFields ..).trans hc,?_⟩
  rw [Obj.data_mapFields hd]; simp [rawInt]
theorem Jaq {Q:Value -> Shared -> Prop} (hh:A.handled = none) (hit:IsIt t s.heap it a i) (hl:IsSq t s.heap a items) (hx:items[i]? = none)
  (hE:∀ h' e,Heap.ExtBut it s.heap h' -> (∃ o,h'.get? e = some o /\ o.cls = .type "StopIteration") -> E (.ref e) { s with heap:=h' }):wpAny (model prog w) A (Builtin.SmallTypes.nextOf (.ref it)) Q E s:=by
 cases t with
 | false=>exact wpAny_nextOf_list_end hh (l:=a) (i:=i) hit hl hx hE
 | true=>
  obtain ⟨o,ho,hc,hd⟩:=id hit
  obtain ⟨ol,hol,_,nl,hdl⟩:=(show s.heap.IsTuple a items from hl)
  have ty:s.TypeIs (.ref it) "tuple_iterator":=⟨o,ho,hc⟩
  unfold Builtin.SmallTypes.nextOf
  refine wpAny_bind (wpAny_callSpecial?_slot (name:=Str.ofString "__next__") ty F.slot_tuple_iterator_next (wpAny_call_entry F.slot_tuple_iterator_next ty F.entry_tuple_iterator_next ?_ (F.args_tuple_iterator_next_1 _)))
  show wpAny _ _ (field (.ref it) 0 >>= _) _ _ s; refine wpAny_bind (wpAny_field ho hd (x:=.ref a) rfl ?_)
  show wpAny _ _ (if (Value.ref a == Value.none) = true then _ else _) _ _ s; rw [if_neg (show ¬ ((Value.ref a == Value.none) = true) from Bool.false_ne_true)]
  show wpAny _ _ (field (.ref it) 1 >>= _) _ _ s; refine wpAny_bind (wpAny_field ho hd (x:=.int i 0) rfl ?_)
  show wpAny _ _ (seqItems? (.ref a) >>= _) _ _ s; refine wpAny_bind (wpAny_seqItems hol hdl ?_)
  simp only [Int.toNat_natCast,hx]; refine wpAny_bind (wpAny_rule (wpAny_bind (wpAny_setField ho hd (by simp) ?_)))
  show wpAny _ _ (newExc (.type "StopIteration") [] >>= _) _ _ _; refine wpAny_bind ?_
  simp only [newExc,newTuple]; refine wpAny_bind (wpAny_newObj_type ?_ (by size_fits))
  refine wpAny_bind (m:=firstArgMember _ _) (wpAny_of_eq (a:=Value.none) (by first | rfl | (simp only [firstArgMember]; rfl)) (wpAny_newObj_type ?_ (by size_fits)))
  simp only [raiseNew]; refine wpAny_bind (wpAny_handled ?_); first | rw [show A.in1.handled = none from hh] | rw [hh]
  refine wpAny_bind (wpAny_pure (wpAny_throw ?_)); exact hE _ _ (((Heap.SameBut.update ..).extBut.push _).push _) ⟨_,Heap.get?_push_size _ rfl,rfl⟩
end
theorem Jep {prog:Program} {w:World} {A:Around} (hh:A.handled = none) (t:Bool) (it a:Addr) (hne:a ≠ it) (items:Array Value) :
  Draws prog w A it [it,a] items.size (fun i v=>items[i]? = some v) (fun i h=>IsIt t h it a i /\ IsSq t h a items) where
 live:=fun _ _ st=>let ⟨o,ho,_⟩:=st.1; ⟨o,ho⟩
 frame:=fun _ _ _ st hk=>⟨st.1.stay fun o e=>hk it (by simp) o e,st.2.stay fun o e=>hk a (by simp) o e⟩
 item:=fun i s Q E hi st hQ=>Jz st.1 st.2 (x:=items[i]) (by simp [hi]) fun h' hit' hs'=>hQ _ h' s.toks (by simp [hi]) ⟨hit',st.2.stay fun o e=>hs'.extBut a o hne e⟩ hs'
 done:=fun s Q E st hE=>Jaq hh st.1 st.2 (by simp) hE
def Sq (K:PySem.W.Frag) (t:Bool) (H:Hp) (a:Addr) (xs:List V):Prop:=match t with
 | true=>SqT K H a xs
 | false=>SqL K H a xs
theorem Sq.same {K:PySem.W.Frag} {t:Bool} {H H':Hp} {a:Addr} {xs:List V} (e:Same H H') (h:Sq K t H a xs):Sq K t H' a xs:=by
 cases t
 ·exact Same.seq e (show SqL K H a xs from h)
 ·exact SqT.same e (show SqT K H a xs from h)
section
variable {X:Cx} {pins:List (Addr × Obj)} {σ:L2.St} {H:Hp} {s:Shared} {t:Bool} {a:Addr} {xs ys:List V}
theorem Jq (I:L2.Inv X pins σ H s) (h:Sq X.K t H a xs):∃ its:List Value,Vals xs its /\ IsSq t s.heap a its.toArray /\ xs.length <= sizeLine:=by
 cases t
 ·obtain ⟨its,r,p,z⟩:=I.list h; exact ⟨its,r,p.isList,z⟩
 ·obtain ⟨its,r,p,z⟩:=I.tuple h; exact ⟨its,r,p,z⟩
theorem Jfw (I:L2.Inv X pins σ H s) (h:Sq X.K t H a xs) (h':Sq X.K t H a ys):xs = ys:=by
 cases t
 ·exact I.list_inj h h'
 ·exact I.tuple_inj h h'
theorem Jjx (I:L2.Inv X pins σ H s) (h:Sq X.K t H a xs) {b:Addr} {o:Obj} (e:s.heap.get? b = some o) (hc:o.cls ≠ .type "list") (hc2:o.cls ≠ .type "tuple"):a ≠ b:=by
 rintro rfl
 obtain ⟨its,_,p,_⟩:=Jq I h
 cases t
 ·obtain ⟨o',e',c',_⟩:=(show s.heap.IsList a _ from p); rw [e] at e'; cases e'; exact hc c'
 ·obtain ⟨o',e',c',_⟩:=(show s.heap.IsTuple a _ from p); rw [e] at e'; cases e'; exact hc2 c'
end
def Ite (K:PySem.W.Frag) (t:Bool) (a:Addr):It:=
 ⟨fun i H=>∃ xs x,Sq K t H a xs /\ xs[i]? = some x,fun i H x H'=>∃ T v,H T = none /\ x = .ref T /\ H' = upd H T (.tup [.int i,v]) /\ ∀ xs,Sq K t H a xs -> xs[i]? = some v,fun i H=>∃ xs,Sq K t H a xs /\ xs.length = i⟩
theorem JJ {X:Cx} {pins:List (Addr × Obj)} {σ:L2.St} {H:Hp} {s:Shared} {h':Heap} {tk:Nat} {ch:List Addr} (I:L2.Inv X pins σ H s) (hf:∀ b ∈ ch,FpOk X pins H b) (k:∀ b o,b ∉ ch -> s.heap.get? b = some o -> h'.get? b = some o) :
  L2.Inv X pins σ H { s with heap:=h',toks:=tk }:=by
 refine I.step (g':=s.gens) (d':=s.drawn) (ch:=ch) (fun b hb=>?_) (fun b o _ _ hc e _=>k b o hc e) (fun b o _ _ hc e _=>⟨o.slots,k b o hc e⟩) (fun _ _ _ _ n=>n) (fun b o hc e=>⟨o,k b o hc e⟩) (fun _ _ e=>e) (fun _ _ _ e=>e) (fun b ps e=>⟨#[],by rw [e]; simp⟩) (fun m hm=>?_) (fun b u e=>?_) I.bare
 ·obtain ⟨_,f1,_,f3,f4,f5⟩:=hf b hb
  exact ⟨f3,f1,f4,f5⟩
 ·obtain ⟨o,es,ep,ho,r⟩:=hm
  exact ⟨o,es,ep,k _ o (fun hb=>(hf _ hb).2.1 rfl) ho,r⟩
 ·refine (I.hok b u e).stay (fun c v hc q=>k c v ?_ q) (fun _ q=>q) fun _ _ q=>q
  intro hb
  have hn:=(hf c hb).1
  rcases hc with z | z
  ·rw [<- z,hn] at e; cases e
  ·rw [hn] at z; cases z
theorem Jbd {X:Cx} {pins:List (Addr × Obj)} {σ:L2.St} {H:Hp} {s:Shared} {h':Heap} {tk:Nat} {ch:List Addr} {a:Addr} {o:HO} (I:L2.Inv X pins σ H s) (hf:∀ b ∈ ch,FpOk X pins H b) (k:∀ b o,b ∉ ch -> s.heap.get? b = some o -> h'.get? b = some o)
  (hp:s.heap.objs.size <= a) (new:ObjOk X.prog X.w (upd H a o) h' a o):L2.Inv X pins σ (upd H a o) { s with heap:=h',toks:=tk }:=by
 have hn:H a = none:=I.hok.fresh hp
 have ne1:∀ b u,H b = some u -> b ≠ a:=fun b u e z=>by rw [z,hn] at e; cases e
 have ne2:∀ b ob,s.heap.get? b = some ob -> b ≠ a:=fun b ob e=>Nat.ne_of_lt (Nat.lt_of_lt_of_le (Heap.lt_size e) hp)
 refine I.step (g':=s.gens) (d':=s.drawn) (ch:=ch) (fun b hb=>?_) (fun b o _ _ hc e _=>k b o hc e) (fun b o _ _ hc e _=>⟨o.slots,k b o hc e⟩) (fun b ob _ e n=>by rw [Ja (ne2 b ob e)]; exact n) (fun b o hc e=>⟨o,k b o hc e⟩)
  (fun b xs e=>by rw [Ja (ne1 b _ e)]; exact e) (fun b ob u e=>by rw [Ja (ne1 b _ e)]; exact e) (fun b ps e=>⟨#[],by rw [Ja (ne1 b _ e),e]; simp⟩) (fun m hm=>?_) (fun b u e=>?_) I.bare
 ·obtain ⟨_,f1,_,f3,f4,f5⟩:=hf b hb
  exact ⟨f3,f1,f4,f5⟩
 ·obtain ⟨o,es,ep,ho,r⟩:=hm
  exact ⟨o,es,ep,k _ o (fun hb=>(hf _ hb).2.1 rfl) ho,r⟩
 ·by_cases hb:b = a
  ·subst hb
   rw [Ji] at e
   cases e
   exact new
  ·rw [Ja hb] at e
   refine (I.hok b u e).stay (fun c v hc q=>k c v ?_ q) (fun c q=>?_) fun c xs q=>?_
   ·intro hcb
    have hn':=(hf c hcb).1
    rcases hc with z | z
    ·rw [<- z,hn'] at e; cases e
    ·rw [hn'] at z; cases z
   ·rw [Ja (ne1 c _ q)]; exact q
   ·rw [Ja (ne1 c _ q)]; exact q
theorem JgP {P:Program} {w:World} {K:PySem.W.Frag} {elts:List Expr} {k:Nat} {tpos:Pos} (t:Bool) (a it e:Addr) (hne:e ≠ it) :
  Turn P w K (.Tuple elts k tpos) (Ite K t a) [e,it] e (fun i h=>(∃ old,IsEnum h e it i old) /\ IsIt t h it a i) where
 mem:=by simp
 obj:=fun i h st b hb=>by
  obtain ⟨⟨old,he⟩,o,ho,hc,hd⟩:=st
  rcases List.mem_cons.mp hb with rfl | hb
  ·exact ⟨_,he,fun v z=>by cases z⟩
  ·have e:b = it:=by simpa using hb
   subst e
   exact ⟨o,ho,fun v z=>by rw [hd] at z; cases z⟩
 keep:=fun i h h' st q=>⟨let ⟨old,he⟩:=st.1; ⟨old,q e (by simp) _ he⟩,st.2.stay fun o x=>q it (by simp) o x⟩
 item:=by
  intro X hP hw hK hc i pins s σ H E I hf st hg
  subst hP hw hK
  obtain ⟨xs,x,hq,hx⟩:=hg
  obtain ⟨its,rv,p,hz⟩:=Jq I hq
  obtain ⟨u,hu,ru⟩:=rv.get hx
  obtain ⟨⟨old,he⟩,hit⟩:=st
  obtain ⟨o,ho,hoc,hod⟩:=id hit
  have na:a ≠ it:=Jjx I hq ho (by rw [hoc]; cases t <;> simp [itName]) (by rw [hoc]; cases t <;> simp [itName])
  have nae:a ≠ e:=Jjx I hq he (by simp) (by simp)
  have hlt:i < its.toArray.size:=by
   have:=(List.getElem?_eq_some_iff.mp hu).1
   simpa using this
  have D:=Jep (prog:=X.prog) (w:=X.w) (A:=X.A.in1) (show X.A.in1.handled = none from I.ok.hd hc) t it a na its.toArray
  refine wpAny_pyNext_enum_itemD D he ⟨hit,p⟩ hlt hne (by simp [hne,Ne.symm nae]) fun y h' tk hP ho' hs' hT hsz hk=>?_
  have hy:y = u:=by
   have e1:its.toArray[i]? = some y:=hP
   have e2:its.toArray[i]? = some u:=by simpa using hu
   rw [e1] at e2; exact Option.some.inj e2
  subst hy
  refine ⟨_,rfl,wpAny_letOwnedTupleGo_enum ho' fun h2 he2 hsb2=>?_⟩
  have hel:e < s.heap.objs.size:=Heap.lt_size he
  have hil:it < s.heap.objs.size:=hit.lt
  have keep2:∀ b o,b ∉ [e,it] -> s.heap.get? b = some o -> h2.get? b = some o:=fun b o hb q=>by
   have h1:b ≠ e:=fun z=>hb (by simp [z])
   have h3:b ≠ it:=fun z=>hb (by simp [z])
   exact (hsb2.2 b h1).trans (hk b o h1 h3 q)
  have hT2:h2.get? s.heap.objs.size = some { cls:=.type "tuple",data:=.seq #[.int i tk,y] }:=(hsb2.2 _ (Nat.ne_of_gt hel)).trans hT
  have hfr:H s.heap.objs.size = none:=I.hok.fresh (Nat.le_refl _)
  have I2:L2.Inv X pins σ (upd H s.heap.objs.size (.tup [.int i,x])) { s with heap:=h2,toks:=tk + 1 }:=
   Jbd I hf keep2 (Nat.le_refl _) ⟨⟨by rw [sizeLine_eq]; show 2 <= _; decide,fun o q=>by rw [hT2] at q; cases q; rfl⟩,[.int i tk,y],.cons ⟨tk,rfl⟩ (.cons ru .nil),_,hT2,rfl,_,rfl⟩
  refine ⟨.ref s.heap.objs.size,_,I2,rfl,⟨s.heap.objs.size,x,hfr,rfl,rfl,fun zs hzs=>by rw [Jfw I hzs hq]; exact hx⟩,⟨⟨_,by simpa using he2⟩,hs'.1.stay fun o q=>(hsb2.2 it hne.symm).trans q⟩,fun b hb=>?_⟩
  rcases List.mem_cons.mp hb with rfl | hb
  ·rw [Ja (Nat.ne_of_lt hel)]; exact (hf b (by simp)).1
  ·have e:b = it:=by simpa using hb
   subst e
   rw [Ja (Nat.ne_of_lt hil)]; exact (hf b (by simp)).1
 done:=by
  intro X hP hw hK hc i pins s σ H E I hf st hg
  subst hP hw hK
  obtain ⟨xs,hq,hx⟩:=hg
  obtain ⟨its,rv,p,hz⟩:=Jq I hq
  obtain ⟨⟨old,he⟩,hit⟩:=st
  obtain ⟨o,ho,hoc,hod⟩:=id hit
  have na:a ≠ it:=Jjx I hq ho (by rw [hoc]; cases t <;> simp [itName]) (by rw [hoc]; cases t <;> simp [itName])
  have hl:=rv.length
  have hin:i = its.toArray.size:=by rw [List.size_toArray,<- hl,hx]
  have D:=Jep (prog:=X.prog) (w:=X.w) (A:=X.A.in1) (show X.A.in1.handled = none from I.ok.hd hc) t it a na its.toArray
  refine wpAny_pyNext_enum_endD D he (by rw [<- hin]; exact ⟨hit,p⟩) fun h' hx'=>⟨rfl,JJ (tk:=s.toks) I hf fun b o hb q=>hx' b o (fun z=>hb (by simp [z])) q⟩
 self:=fun A i s Q E st h=>let ⟨⟨old,he⟩,_⟩:=st; wpAny_pyIter_enum he h
end Rd
namespace Rd
open PySem PySem.Spec PyProof.Rows L2 Pu
structure Apart (z TI TO i1 i2:Addr):Prop where
 all:[z,TI,TO,i1,i2].Nodup
theorem Apart.ne {z TI TO i1 i2:Addr} (D:Apart z TI TO i1 i2):TI ≠ z /\ TO ≠ z /\ i1 ≠ z /\ i2 ≠ z /\ TI ≠ TO /\ TI ≠ i1 /\ TI ≠ i2 /\ TO ≠ i1 /\ TO ≠ i2 /\ i1 ≠ i2:=by
 have h:=D.all
 simp only [List.nodup_cons,List.mem_cons,List.not_mem_nil,or_false,not_or] at h
 obtain ⟨⟨a1,a2,a3,a4⟩,⟨b1,b2,b3⟩,⟨c1,c2⟩,d1,_⟩:=h
 exact ⟨Ne.symm a1,Ne.symm a2,Ne.symm a3,Ne.symm a4,b1,b2,b3,c1,c2,d1⟩
section
variable {prog:Program} {w:World} {A:Around} {E:Value -> Shared -> Prop} {s:Shared} {z TI TO i1 i2 l1 l2:Addr} {t1 t2:Bool} {k:Nat} {xs ys:Array Value} {x y a b:Value}
theorem JjX {Q:Value -> Shared -> Prop} (D:Apart z TI TO i1 i2) (hz:IsZip s.heap z TI TO .none) (hTI:IsPair s.heap TI (.ref i1) (.ref i2)) (hTO:IsPair s.heap TO a b) (h1:IsIt t1 s.heap i1 l1 k) (h2:IsIt t2 s.heap i2 l2 k)
  (hl1:IsSq t1 s.heap l1 xs) (hl2:IsSq t2 s.heap l2 ys) (n1:l1 ∉ [z,TO,i1,i2]) (n2:l2 ∉ [z,TO,i1,i2]) (hx:xs[k]? = some x) (hy:ys[k]? = some y)
  (hQ:∀ h',IsZip h' z TI TO (rawInt s.heap.objs.size) -> IsPair h' TO x y -> IsIt t1 h' i1 l1 (k + 1) -> IsIt t2 h' i2 l2 (k + 1) -> IsPair h' s.heap.objs.size x y -> (∀ c o,c ∉ [z,TO,i1,i2] -> s.heap.get? c = some o -> h'.get? c = some o) -> Q (.ref s.heap.objs.size) { s with heap:=h' }) :
  wpAny (model prog w) A (Builtin.«zip.__next__» ⟨[.ref z],[]⟩) (fun fin s'=>∃ v,fin = .done (.ret v) /\ Q v s') E s:=by
 obtain ⟨d1,d2,d3,d4,d5,d6,d7,d8,d9,d10⟩:=D.ne
 simp only [List.mem_cons,List.not_mem_nil,or_false,not_or] at n1 n2
 obtain ⟨m1,m2,m3,m4⟩:=n1
 obtain ⟨o1,o2,o3,o4⟩:=n2
 show wpAny _ _ (field (.ref z) 2 >>= _) _ _ _; refine wpAny_bind (wpAny_field hz rfl (x:=.bool false) rfl ?_)
 show wpAny _ _ (field (.ref z) 3 >>= _) _ _ _; refine wpAny_bind (wpAny_field hz rfl (x:=.ref TI) rfl (wpAny_bind (wpAny_seqItems hTI rfl ?_)))
 show wpAny _ _ (Builtin.SmallTypes.ownedTupleIsFree (.ref z) >>= _) _ _ _; refine wpAny_bind ?_; unfold Builtin.SmallTypes.ownedTupleIsFree
 refine wpAny_bind (wpAny_field hz rfl (x:=.none) rfl (wpAny_pure ?_)); simp only [if_true]
 refine wpAny_bind (wpAny_rule (wpAny_bind (wpAny_field hz rfl (x:=.ref TO) rfl (wpAny_bind (wpAny_setField_rec hz (by simp) fun g1 hz1 s1=>?_)))))
 replace hz1:IsZip g1 z TI TO .ellipsis:=hz1
 refine wpAny_bind ?_; simp only [List.zipIdx_cons,List.zipIdx_nil,List.forIn_cons,List.forIn_nil]
 refine wpAny_bind (wpAny_bind (wpAny_onRaise ?_)); show wpAny _ _ (Builtin.SmallTypes.nextOf (.ref i1) >>= _) _ _ _
 refine wpAny_bind (Jz (h1.stay fun o e=>s1.extBut _ _ d3 e) (hl1.stay fun o e=>s1.extBut _ _ m1 e) hx fun g2 k1 s2=>wpAny_pure ?_)
 have hTO2:IsPair g2 TO a b:=s2.extBut _ _ d8 (s1.extBut _ _ d2 hTO)
 refine wpAny_bind (wpAny_seqItems hTO2 rfl (wpAny_bind (wpAny_updateSeq_pair hTO2 fun g3 hTO3 s3=>?_)))
 replace hTO3:IsPair g3 TO x b:=hTO3
 refine wpAny_bind (wpAny_letGo (wpAny_pure ?_))
 refine wpAny_bind (wpAny_bind (wpAny_onRaise ?_)); show wpAny _ _ (Builtin.SmallTypes.nextOf (.ref i2) >>= _) _ _ _
 refine wpAny_bind (Jz (h2.stay fun o e=>s3.extBut _ _ (Ne.symm d9) (s2.extBut _ _ (Ne.symm d10) (s1.extBut _ _ d4 e))) (hl2.stay fun o e=>s3.extBut _ _ o2 (s2.extBut _ _ o3 (s1.extBut _ _ o1 e))) hy fun g4 k2 s4=>wpAny_pure ?_)
 have hTO4:IsPair g4 TO x b:=s4.extBut _ _ d9 hTO3
 refine wpAny_bind (wpAny_seqItems hTO4 rfl (wpAny_bind (wpAny_updateSeq_pair hTO4 fun g5 hTO5 s5=>?_)))
 replace hTO5:IsPair g5 TO x y:=hTO5
 refine wpAny_bind (wpAny_letGo (wpAny_pure (wpAny_pure (wpAny_bind (wpAny_seqItems hTO5 rfl (wpAny_bind (wpAny_newTuple ?_)))))))
 have hsz:g5.objs.size = s.heap.objs.size:=by rw [s5.1,s4.1,s3.1,s2.1,s1.1]
 have hz5:IsZip g5 z TI TO .ellipsis:=s5.extBut _ _ (Ne.symm d2) (s4.extBut _ _ (Ne.symm d4) (s3.extBut _ _ (Ne.symm d2) (s2.extBut _ _ (Ne.symm d3) hz1)))
 have kp:∀ c o,c ∉ [z,TO,i1,i2] -> s.heap.get? c = some o -> g5.get? c = some o:=fun c o hc e=>by
  simp only [List.mem_cons,List.not_mem_nil,or_false,not_or] at hc
  exact s5.extBut _ _ hc.2.1 (s4.extBut _ _ hc.2.2.2 (s3.extBut _ _ hc.2.1 (s2.extBut _ _ hc.2.2.1 (s1.extBut _ _ hc.1 e))))
 have e1:IsIt t1 g5 i1 l1 (k + 1):=k1.stay fun o e=>s5.extBut _ _ (Ne.symm d8) (s4.extBut _ _ d10 (s3.extBut _ _ (Ne.symm d8) e))
 have e2:IsIt t2 g5 i2 l2 (k + 1):=k2.stay fun o e=>s5.extBut _ _ (Ne.symm d9) e
 have zl:z < g5.objs.size:=Heap.lt_size hz5
 show wpAny _ _ (Builtin.SmallTypes.ownedTupleHandOut (.ref z) (.ref g5.objs.size) >>= _) _ _ _; refine wpAny_bind ?_; unfold Builtin.SmallTypes.ownedTupleHandOut
 have hz6:IsZip (g5.push { cls:=.type "tuple",data:=.seq #[x,y] }) z TI TO .ellipsis:=Heap.get?_push_of_some _ hz5
 refine wpAny_bind (wpAny_setField_rec hz6 (by simp) fun g7 hz7 s7=>?_)
 replace hz7:IsZip g7 z TI TO (rawInt g5.objs.size):=hz7
 refine wpAny_setField_rec hz7 (by simp) fun g8 hz8 s8=>?_
 replace hz8:IsZip g8 z TI TO (rawInt g5.objs.size):=hz8
 have up:∀ c o,c ≠ z -> g5.get? c = some o -> g8.get? c = some o:=fun c o hc e=>s8.extBut _ _ hc (s7.extBut _ _ hc (Heap.get?_push_of_some _ e))
 have hT8:IsPair g8 g5.objs.size x y:=s8.extBut _ _ (Nat.ne_of_gt zl) (s7.extBut _ _ (Nat.ne_of_gt zl) (Heap.get?_push_size _ rfl))
 rw [hsz] at hz8 hT8
 refine wpAny_pure ⟨_,rfl,?_⟩; show Q (.ref g5.objs.size) _; rw [hsz]
 exact hQ g8 hz8 (up _ _ d2 hTO5) (e1.stay fun o e=>up _ o d3 e) (e2.stay fun o e=>up _ o d4 e) hT8 fun c o hc e=>up c o (fun q=>hc (by simp [q])) (kp c o hc e)
theorem Jlw {Q:Fin -> Shared -> Prop} (hh:A.handled = none) (D:Apart z TI TO i1 i2) (hz:IsZip s.heap z TI TO .none) (hTI:IsPair s.heap TI (.ref i1) (.ref i2)) (hTO:IsPair s.heap TO a b) (h1:IsIt t1 s.heap i1 l1 k) (h2:IsIt t2 s.heap i2 l2 k)
  (hl1:IsSq t1 s.heap l1 xs) (hl2:IsSq t2 s.heap l2 ys) (n1:l1 ∉ [z,TO,i1,i2]) (n2:l2 ∉ [z,TO,i1,i2]) (hend:xs[k]? = none \/ ys[k]? = none)
  (hE:∀ h' e,(∀ c o,c ∉ [z,TO,i1,i2] -> s.heap.get? c = some o -> h'.get? c = some o) -> (∃ o,h'.get? e = some o /\ o.cls = .type "StopIteration") -> E (.ref e) { s with heap:=h' }) :
  wpAny (model prog w) A (Builtin.«zip.__next__» ⟨[.ref z],[]⟩) Q E s:=by
 obtain ⟨d1,d2,d3,d4,d5,d6,d7,d8,d9,d10⟩:=D.ne
 simp only [List.mem_cons,List.not_mem_nil,or_false,not_or] at n1 n2
 obtain ⟨m1,m2,m3,m4⟩:=n1
 obtain ⟨o1,o2,o3,o4⟩:=n2
 show wpAny _ _ (field (.ref z) 2 >>= _) _ _ _; refine wpAny_bind (wpAny_field hz rfl (x:=.bool false) rfl ?_)
 show wpAny _ _ (field (.ref z) 3 >>= _) _ _ _; refine wpAny_bind (wpAny_field hz rfl (x:=.ref TI) rfl (wpAny_bind (wpAny_seqItems hTI rfl ?_)))
 show wpAny _ _ (Builtin.SmallTypes.ownedTupleIsFree (.ref z) >>= _) _ _ _; refine wpAny_bind ?_; unfold Builtin.SmallTypes.ownedTupleIsFree
 refine wpAny_bind (wpAny_field hz rfl (x:=.none) rfl (wpAny_pure ?_)); simp only [if_true]
 refine wpAny_bind (wpAny_rule (wpAny_bind (wpAny_field hz rfl (x:=.ref TO) rfl (wpAny_bind (wpAny_setField_rec hz (by simp) fun g1 hz1 s1=>?_)))))
 replace hz1:IsZip g1 z TI TO .ellipsis:=hz1
 refine wpAny_bind ?_; simp only [List.zipIdx_cons,List.zipIdx_nil,List.forIn_cons,List.forIn_nil]
 refine wpAny_bind (wpAny_bind (wpAny_onRaise ?_)); show wpAny _ _ (Builtin.SmallTypes.nextOf (.ref i1) >>= _) _ _ _
 have hc4:∀ c,c ∉ [z,TO,i1,i2] -> c ≠ z /\ c ≠ TO /\ c ≠ i1 /\ c ≠ i2:=fun c hc=>by simpa [not_or] using hc
 cases hx:xs[k]? with
 | none=>
  refine wpAny_bind (Jaq hh (h1.stay fun o e=>s1.extBut _ _ d3 e) (hl1.stay fun o e=>s1.extBut _ _ m1 e) hx fun g2 e s2 he=>?_)
  obtain ⟨oe,hoe,hce⟩:=he
  have hz2:IsZip g2 z TI TO .ellipsis:=s2 _ _ (Ne.symm d3) hz1
  have hez:e ≠ z:=fun q=>by subst q; rw [hz2] at hoe; cases hoe; simp at hce
  exact wpAny_setField_rec hz2 (by simp) fun g3 _ s3=>hE g3 e (fun c o hc q=>s3.extBut _ _ (hc4 c hc).1 (s2 _ _ (hc4 c hc).2.2.1 (s1.extBut _ _ (hc4 c hc).1 q))) ⟨oe,s3.extBut _ _ hez hoe,hce⟩
 | some x=>
  have hy:ys[k]? = none:=by rcases hend with q | q; (· rw [hx] at q; cases q); exact q
  refine wpAny_bind (Jz (h1.stay fun o e=>s1.extBut _ _ d3 e) (hl1.stay fun o e=>s1.extBut _ _ m1 e) hx fun g2 k1 s2=>wpAny_pure ?_)
  have hTO2:IsPair g2 TO a b:=s2.extBut _ _ d8 (s1.extBut _ _ d2 hTO)
  refine wpAny_bind (wpAny_seqItems hTO2 rfl (wpAny_bind (wpAny_updateSeq_pair hTO2 fun g3 hTO3 s3=>wpAny_bind (wpAny_letGo (wpAny_pure ?_)))))
  refine wpAny_bind (wpAny_bind (wpAny_onRaise ?_)); show wpAny _ _ (Builtin.SmallTypes.nextOf (.ref i2) >>= _) _ _ _
  refine wpAny_bind (Jaq hh (h2.stay fun o e=>s3.extBut _ _ (Ne.symm d9) (s2.extBut _ _ (Ne.symm d10) (s1.extBut _ _ d4 e))) (hl2.stay fun o e=>s3.extBut _ _ o2 (s2.extBut _ _ o3 (s1.extBut _ _ o1 e))) hy fun g4 e s4 he=>?_)
  obtain ⟨oe,hoe,hce⟩:=he
  have hz4:IsZip g4 z TI TO .ellipsis:=s4 _ _ (Ne.symm d4) (s3.extBut _ _ (Ne.symm d2) (s2.extBut _ _ (Ne.symm d3) hz1))
  have hez:e ≠ z:=fun q=>by subst q; rw [hz4] at hoe; cases hoe; simp at hce
  exact wpAny_setField_rec hz4 (by simp) fun g5 _ s5=>hE g5 e (fun c o hc q=>s5.extBut _ _ (hc4 c hc).1 (s4 _ _ (hc4 c hc).2.2.2 (s3.extBut _ _ (hc4 c hc).2.1 (s2.extBut _ _ (hc4 c hc).2.2.1 (s1.extBut _ _ (hc4 c hc).1 q))))) ⟨oe,s5.extBut _ _ hez hoe,hce⟩
end
theorem Jem {X:Cx} {pins:List (Addr × Obj)} {σ:L2.St} {H:Hp} {s:Shared} {t:Bool} {l b:Addr} {zs:List V} (I:L2.Inv X pins σ H s) (h:Sq X.K t H l zs) (hf:FpOk X pins H b):l ≠ b:=by
 rintro rfl
 have mod:∀ o,X.K.lookup l = some o -> False:=fun o e=>by
  have e1:=I.mod.kin l o e
  rcases hf.2.2.2.1 with q | q
  ·exact I.ok.noex l o e1 q
  ·exact absurd (Nat.lt_of_lt_of_le (Heap.lt_size (I.ok.bs l o e1).1) q) (Nat.lt_irrefl _)
 have rd:∀ u,Rd H l u -> False:=fun u q=>by
  rcases q with q | ⟨o,q⟩ <;> (rw [hf.1] at q; cases q)
 cases t
 ·rcases (show SqL X.K H l zs from h) with q | ⟨o,_,_,q,_⟩
  ·exact rd _ q
  ·exact mod o q
 ·rcases (show SqT X.K H l zs from h) with q | ⟨_,o,_,_,_,q,_⟩
  ·exact rd _ (.inl q)
  ·exact mod o q
def Itz (K:PySem.W.Frag) (t1 t2:Bool) (l1 l2:Addr):It:=
 ⟨fun i H=>∃ xs ys x y,Sq K t1 H l1 xs /\ Sq K t2 H l2 ys /\ xs[i]? = some x /\ ys[i]? = some y,
  fun i H x H'=>∃ T u v,H T = none /\ x = .ref T /\ H' = upd H T (.tup [u,v]) /\ (∀ xs,Sq K t1 H l1 xs -> xs[i]? = some u) /\ ∀ ys,Sq K t2 H l2 ys -> ys[i]? = some v,
  fun i H=>∃ xs ys,Sq K t1 H l1 xs /\ Sq K t2 H l2 ys /\ (xs[i]? = none \/ ys[i]? = none)⟩
def ZipSt (z TI TO i1 i2 l1 l2:Addr) (t1 t2:Bool) (i:Nat) (h:Heap):Prop:=IsZip h z TI TO .none /\ IsPair h TI (.ref i1) (.ref i2) /\ (∃ a b,IsPair h TO a b) /\ IsIt t1 h i1 l1 i /\ IsIt t2 h i2 l2 i
theorem JhA {P:Program} {w:World} {K:PySem.W.Frag} {elts:List Expr} {k:Nat} {tpos:Pos} (t1 t2:Bool) (l1 l2 z TI TO i1 i2:Addr) (D:Apart z TI TO i1 i2) :
  Turn P w K (.Tuple elts k tpos) (Itz K t1 t2 l1 l2) [z,TI,TO,i1,i2] z (ZipSt z TI TO i1 i2 l1 l2 t1 t2) where
 mem:=by simp
 obj:=fun i h st b hb=>by
  obtain ⟨h1,h2,⟨a,c,h3⟩,⟨o4,h4,_,h4'⟩,⟨o5,h5,_,h5'⟩⟩:=st
  simp only [List.mem_cons,List.not_mem_nil,or_false] at hb
  rcases hb with rfl | rfl | rfl | rfl | rfl
  ·exact ⟨_,h1,fun v q=>by cases q⟩
  ·exact ⟨_,h2,fun v q=>by cases q⟩
  ·exact ⟨_,h3,fun v q=>by cases q⟩
  ·exact ⟨_,h4,fun v q=>by rw [h4'] at q; cases q⟩
  ·exact ⟨_,h5,fun v q=>by rw [h5'] at q; cases q⟩
 keep:=fun i h h' st q=>let ⟨h1,h2,⟨a,c,h3⟩,h4,h5⟩:=st; ⟨q z (by simp) _ h1,q TI (by simp) _ h2,⟨a,c,q TO (by simp) _ h3⟩,h4.stay fun o e=>q i1 (by simp) o e,h5.stay fun o e=>q i2 (by simp) o e⟩
 item:=by
  intro X hP hw hK hc i pins s σ H E I hf st hg
  subst hP hw hK
  obtain ⟨xs,ys,x,y,q1,q2,hx,hy⟩:=hg
  obtain ⟨its,rv,p1,_⟩:=Jq I q1
  obtain ⟨its2,rv2,p2,_⟩:=Jq I q2
  obtain ⟨u,hu,ru⟩:=rv.get hx
  obtain ⟨v,hv,rw2⟩:=rv2.get hy
  obtain ⟨hz,hTI,⟨a,b,hTO⟩,j1,j2⟩:=st
  have tracked:∀ {t:Bool} {l:Addr} {zs:List V},Sq X.K t H l zs -> l ∉ [z,TO,i1,i2]:=fun {t l zs} q hb=>
   Jem I q (hf l (by simp only [List.mem_cons,List.not_mem_nil,or_false] at hb ⊢; rcases hb with e | e | e | e <;> simp [e])) rfl
  have hT:s.TypeIs (.ref z) "zip":=⟨_,hz,rfl⟩
  unfold pyNext
  refine wpAny_bind (wpAny_attempt (wpAny_callSpecial?_slot (name:=Str.ofString "__next__") hT F.slot_zip_next (wpAny_call_entry F.slot_zip_next hT F.entry_zip_next
   (JjX D hz hTI hTO j1 j2 p1 p2 (tracked q1) (tracked q2) (x:=u) (y:=v) (by simpa using hu) (by simpa using hv) fun h' a1 a2 a3 a4 a5 a6=>wpAny_pure ?_) (F.args_zip_next_1 _))))
  refine ⟨_,rfl,wpAny_letOwnedTupleGo_zip a1 fun h2 b1 b2=>?_⟩
  obtain ⟨d1,d2,d3,d4,_⟩:=D.ne
  have zl:z < s.heap.objs.size:=Heap.lt_size hz
  have kp:∀ c o,c ∉ [z,TI,TO,i1,i2] -> s.heap.get? c = some o -> h2.get? c = some o:=fun c o hc e=>by
   simp only [List.mem_cons,List.not_mem_nil,or_false,not_or] at hc
   exact (b2.2 c hc.1).trans (a6 c o (by simp [hc]) e)
  have hT2:IsPair h2 s.heap.objs.size u v:=(b2.2 _ (Nat.ne_of_gt zl)).trans a5
  have I2:L2.Inv X pins σ (upd H s.heap.objs.size (.tup [x,y])) { s with heap:=h2,toks:=s.toks }:=
   Jbd I hf kp (Nat.le_refl _) ⟨⟨by rw [sizeLine_eq]; show 2 <= _; decide,fun o q=>by rw [show h2.get? s.heap.objs.size = some _ from hT2] at q; cases q; rfl⟩,[u,v],.cons ru (.cons rw2 .nil),_,hT2,rfl,_,rfl⟩
  have hTI2:IsPair h2 TI (.ref i1) (.ref i2):=(b2.2 _ d1).trans (a6 TI _ (by obtain ⟨_,_,_,_,d5,d6,d7,_⟩:=D.ne; simp [d1,d5,d6,d7]) hTI)
  refine ⟨.ref s.heap.objs.size,_,I2,rfl,⟨s.heap.objs.size,x,y,I.hok.fresh (Nat.le_refl _),rfl,rfl,fun zs q=>by rw [Jfw I q q1]; exact hx,fun zs q=>by rw [Jfw I q q2]; exact hy⟩,
   ⟨b1,hTI2,⟨u,v,(b2.2 _ d2).trans a2⟩,a3.stay fun o e=>(b2.2 _ d3).trans e,a4.stay fun o e=>(b2.2 _ d4).trans e⟩,fun b hb=>?_⟩
  have hbl:b < s.heap.objs.size:=by
   simp only [List.mem_cons,List.not_mem_nil,or_false] at hb
   rcases hb with rfl | rfl | rfl | rfl | rfl
   ·exact zl
   ·exact Heap.lt_size hTI
   ·exact Heap.lt_size hTO
   ·exact j1.lt
   ·exact j2.lt
  rw [Ja (Nat.ne_of_lt hbl)]
  exact (hf b hb).1
 done:=by
  intro X hP hw hK hc i pins s σ H E I hf st hg
  subst hP hw hK
  obtain ⟨xs,ys,q1,q2,hx⟩:=hg
  obtain ⟨its,rv,p1,_⟩:=Jq I q1
  obtain ⟨its2,rv2,p2,_⟩:=Jq I q2
  obtain ⟨hz,hTI,⟨a,b,hTO⟩,j1,j2⟩:=st
  have tracked:∀ {t:Bool} {l:Addr} {zs:List V},Sq X.K t H l zs -> l ∉ [z,TO,i1,i2]:=fun {t l zs} q hb=>
   Jem I q (hf l (by simp only [List.mem_cons,List.not_mem_nil,or_false] at hb ⊢; rcases hb with e | e | e | e <;> simp [e])) rfl
  have hT:s.TypeIs (.ref z) "zip":=⟨_,hz,rfl⟩
  unfold pyNext
  refine wpAny_bind (wpAny_attempt (wpAny_callSpecial?_slot (name:=Str.ofString "__next__") hT F.slot_zip_next (wpAny_call_entry F.slot_zip_next hT F.entry_zip_next
   (Jlw (show X.A.in1.handled = none from I.ok.hd hc) D hz hTI hTO j1 j2 p1 p2 (tracked q1) (tracked q2) ?_ fun h' e hk he=>?_) (F.args_zip_next_1 _))))
  ·rcases hx with q | q
   ·exact .inl (by simpa using rv.none_of q)
   ·exact .inr (by simpa using rv2.none_of q)
  ·obtain ⟨o,ho,hoc⟩:=he
   refine wpAny_bind (wpAny_isInstance (T:="StopIteration") (b:=true) ⟨o,ho,hoc⟩ isSubtype_stop (wpAny_pure ⟨rfl,JJ (tk:=s.toks) I hf fun c o hc e=>hk c o ?_ e⟩))
   simp only [List.mem_cons,List.not_mem_nil,or_false,not_or] at hc ⊢
   exact ⟨hc.1,hc.2.2.1,hc.2.2.2⟩
 self:=fun A i s Q E st h=>wpAny_pyIter_zip st.1 h
abbrev itObj (t:Bool) (l:Addr):Obj:={ cls:=.type (itName t),data:=.fields #[.ref l,.int 0 0] }
theorem Jag {prog:Program} {w:World} {A:Around} {E:Value -> Shared -> Prop} {s:Shared} {t:Bool} {l:Addr} {xs:Array Value} {Q:Value -> Shared -> Prop} (h:IsSq t s.heap l xs) (hQ:Q (.ref s.heap.objs.size) { s with heap:=s.heap.push (itObj t l) }):wpAny (model prog w) A (pyIter (.ref l)) Q E s:=by
 cases t
 ·exact wpAny_pyIter_list (show s.heap.IsList l xs from h) hQ
 ·exact wpAny_pyIter_tuple (show s.heap.IsTuple l xs from h) hQ
theorem IsSq.push {t:Bool} {h:Heap} {a:Addr} {xs:Array Value} (x:IsSq t h a xs) (o:Obj):IsSq t (h.push o) a xs:=x.stay fun _ e=>Heap.get?_push_of_some _ e
abbrev zh1 (h:Heap) (t:Bool) (l:Addr):Heap:=h.push (itObj t l)
abbrev zh3 (h:Heap) (t1 t2:Bool) (l1 l2:Addr):Heap:=(zh1 (zh1 h t1 l1) t2 l2).push { cls:=.type "tuple",data:=.seq #[.ref h.objs.size,.ref (zh1 h t1 l1).objs.size] }
abbrev zh4 (h:Heap) (t1 t2:Bool) (l1 l2:Addr):Heap:=(zh3 h t1 t2 l1 l2).push { cls:=.type "tuple",data:=.seq #[.none,.none] }
abbrev zipOb (a b:Addr):Obj:={ cls:=.type "zip",data:=.fields #[.none,.bool false,.bool false,.ref a,.ref b] }
abbrev zh5 (h:Heap) (t1 t2:Bool) (l1 l2:Addr):Heap:=(zh4 h t1 t2 l1 l2).push (zipOb (zh1 (zh1 h t1 l1) t2 l2).objs.size (zh3 h t1 t2 l1 l2).objs.size)
theorem Jjz (l1 l2:Addr) (xs ys:Array Value) (t1 t2:Bool) :
  Meets (Builtin.«zip.__new__» ⟨[.type "zip",.ref l1,.ref l2],[]⟩) (fun _ R s=>IsSq t1 s.heap l1 xs /\ IsSq t2 s.heap l2 ys /\ R (.ok (.ret (.ref (zh4 s.heap t1 t2 l1 l2).objs.size))) { s with heap:=zh5 s.heap t1 t2 l1 l2 }):=
 .of_wp fun prog w A R s h=>by
  obtain ⟨hp,g,d,tk,os⟩:=s; obtain ⟨hl1,hl2,h⟩:=h
  have hsub:=sub_zip
  have hL1:IsSq t1 (Shared.heap ⟨hp,g,d,tk,os⟩) l1 xs:=hl1
  have hL2:IsSq t2 (Shared.heap ⟨hp.push (itObj t1 l1),g,d,tk,os⟩) l2 ys:=hl2.push _
  wp_walk using Jag hL1,Jag hL2
  exact ⟨_,rfl,h⟩
end Rd
namespace Rd
open PySem PySem.Spec PyProof.Rows L2 Pu
open AutoSeq1 (wpAny_loadPart')
theorem Jkb (l:Addr) (items:Array Value) (n:Nat) (dct:Option Addr) (sl:Array (Option Value)) :
  Meets (Builtin.«enumerate.__new__» ⟨[.type "enumerate",.ref l],[]⟩) (fun _ R s=>s.heap.get? l = some { cls:=.type "tuple",dict:=dct,data:=.seq items n,slots:=sl } /\
   R (.ok (.ret (.ref (s.heap.push (itObj true l)).objs.size))) { s with heap:=(s.heap.push (itObj true l)).push { cls:=.type "enumerate",data:=.fields #[.none,.bool false,.ref s.heap.objs.size,rawInt 0,.none,.none] } }):=
 .of_wp fun prog w A R s h=>by
  obtain ⟨hp,g,d,tk,os⟩:=s; obtain ⟨hl,h⟩:=h
  have hsub:=sub_enumerate
  have hL:IsSq true (Shared.heap ⟨hp,g,d,tk,os⟩) l items:=(show Heap.IsTuple hp l items from ⟨_,hl,rfl,n,rfl⟩)
  wp_walk using wpAny_loadPart' hl
  refine wpAny_stack_any fun st=>wpAny_pure ?_
  split
  ·rename_i c _ _ _ _ _
   cases (c == Value.type "enumerate") <;> (wp_walk using wpAny_loadPart' hl,Jag hL; exact ⟨_,rfl,h⟩)
  ·wp_walk using wpAny_loadPart' hl,Jag hL; exact ⟨_,rfl,h⟩
section
variable {prog:Program} {w:World} {A:Around} {E:Value -> Shared -> Prop} {s:Shared}
theorem JfW {t:Bool} {l:Addr} {items:Array Value} {Q:Value -> Shared -> Prop} (hL:IsSq t s.heap l items)
  (h:∀ h',IsEnum h' (s.heap.objs.size + 1) s.heap.objs.size 0 .none -> IsIt t h' s.heap.objs.size l 0 -> (∀ b o,s.heap.get? b = some o -> h'.get? b = some o) -> Q (.ref (s.heap.objs.size + 1)) { s with heap:=h' }) :
  wpAny (model prog w) A (PySem.call (.type "enumerate") [.ref l]) Q E s:=by
 cases t with
 | false=>exact call_enumerate_list (show s.heap.IsList l items from hL) fun h' a b _ d=>h h' a b d
 | true=>
  obtain ⟨⟨c,dct,dt,sl⟩,hl,hc,n,hd⟩:=(show s.heap.IsTuple l items from hL)
  replace hc:c = .type "tuple":=hc
  replace hd:dt = .seq items n:=hd
  subst hc hd
  refine callType_new F.called_enumerate (by decide) (F.typeCall_enumerate_1 _) (F.newCall_enumerate_1 _) (fun obj=>F.args_object_init_2 obj _) F.entry_enumerate_new (Jkb l items n dct sl) ⟨hl,?_⟩
  have hz:(s.heap.push (itObj true l)).objs.size = s.heap.objs.size + 1:=Heap.size_push ..
  have he:IsEnum ((s.heap.push (itObj true l)).push { cls:=.type "enumerate",data:=.fields #[.none,.bool false,.ref s.heap.objs.size,rawInt 0,.none,.none] }) (s.heap.objs.size + 1) s.heap.objs.size 0 .none:=by
   have q:=Heap.get?_push_size (s.heap.push (itObj true l)) (o:={ cls:=.type "enumerate",data:=.fields #[.none,.bool false,.ref s.heap.objs.size,rawInt 0,.none,.none] }) rfl
   rw [hz] at q; exact q
  show _ /\ _
  rw [hz]
  exact ⟨⟨_,he,rfl⟩,h _ he ⟨_,Heap.get?_push_of_some _ (Heap.get?_push_size _ rfl),rfl,rfl⟩ fun b o x=>Heap.get?_push_of_some _ (Heap.get?_push_of_some _ x)⟩
theorem Jgj {t1 t2:Bool} {l1 l2:Addr} {xs ys:Array Value} {Q:Value -> Shared -> Prop} (hl1:IsSq t1 s.heap l1 xs) (hl2:IsSq t2 s.heap l2 ys)
  (h:∀ h',ZipSt (s.heap.objs.size + 4) (s.heap.objs.size + 2) (s.heap.objs.size + 3) s.heap.objs.size (s.heap.objs.size + 1) l1 l2 t1 t2 0 h' -> (∀ c o,s.heap.get? c = some o -> h'.get? c = some o) -> Q (.ref (s.heap.objs.size + 4)) { s with heap:=h' }) :
  wpAny (model prog w) A (PySem.call (.type "zip") [.ref l1,.ref l2]) Q E s:=by
 refine callType_new F.called_zip (by decide) (F.typeCall_zip_2 _ _) (F.newCall_zip_2 _ _) (fun obj=>F.args_object_init_3 obj _ _) F.entry_zip_new (Jjz l1 l2 xs ys t1 t2) ⟨hl1,hl2,?_⟩
 have z1:(zh1 s.heap t1 l1).objs.size = s.heap.objs.size + 1:=Heap.size_push ..
 have z2:(zh1 (zh1 s.heap t1 l1) t2 l2).objs.size = s.heap.objs.size + 2:=by rw [Heap.size_push,z1]
 have z3:(zh3 s.heap t1 t2 l1 l2).objs.size = s.heap.objs.size + 3:=by rw [Heap.size_push,z2]
 have z4:(zh4 s.heap t1 t2 l1 l2).objs.size = s.heap.objs.size + 4:=by rw [Heap.size_push,z3]
 have p1:∀ (g:Heap) (o o':Obj) (b:Addr),g.get? b = some o -> (g.push o').get? b = some o:=fun g o o' b e=>Heap.get?_push_of_some _ e
 have g5:(zh5 s.heap t1 t2 l1 l2).get? (zh4 s.heap t1 t2 l1 l2).objs.size = some _:=Heap.get?_push_size _ rfl
 have g4:(zh5 s.heap t1 t2 l1 l2).get? (zh3 s.heap t1 t2 l1 l2).objs.size = some _:=p1 _ _ _ _ (Heap.get?_push_size _ rfl)
 have g3:(zh5 s.heap t1 t2 l1 l2).get? (zh1 (zh1 s.heap t1 l1) t2 l2).objs.size = some _:=p1 _ _ _ _ (p1 _ _ _ _ (Heap.get?_push_size _ rfl))
 have g2:(zh5 s.heap t1 t2 l1 l2).get? (zh1 s.heap t1 l1).objs.size = some _:=p1 _ _ _ _ (p1 _ _ _ _ (p1 _ _ _ _ (Heap.get?_push_size _ rfl)))
 have g1:(zh5 s.heap t1 t2 l1 l2).get? s.heap.objs.size = some _:=p1 _ _ _ _ (p1 _ _ _ _ (p1 _ _ _ _ (p1 _ _ _ _ (Heap.get?_push_size _ rfl))))
 show _ /\ _
 rw [z2,z3,z4] at g5
 rw [z1,z2] at g3
 rw [z3] at g4
 rw [z1] at g2
 rw [z4]
 exact ⟨⟨_,g5,rfl⟩,h _ ⟨g5,g3,⟨_,_,g4⟩,⟨_,g1,rfl,rfl⟩,⟨_,g2,rfl,rfl⟩⟩ fun c o x=>p1 _ _ _ _ (p1 _ _ _ _ (p1 _ _ _ _ (p1 _ _ _ _ (p1 _ _ _ _ x))))⟩
end
theorem Jff {K:PySem.W.Frag} {H:Hp} {d:D} {v:V} {ds:List D} (r:Rep K H d v) (h:d = .tup ds \/ d = .lst ds):∃ t a xs,v = .ref a /\ Sq K t H a xs /\ Reps K H ds xs:=by
 rcases h with rfl | rfl
 ·obtain ⟨a,xs,e,h1,h2⟩:=r; exact ⟨true,a,xs,e,h1,h2⟩
 ·obtain ⟨a,xs,e,h1,h2⟩:=r; exact ⟨false,a,xs,e,h1,h2⟩
theorem JaE:∀ (ds:List D) (k i:Nat),(enumFrom k ds)[i]? = (ds[i]?).map fun d=>.tup [.int ((k + i:Nat):Int),d]
 | [],_,_=>by simp [enumFrom]
 | d :: ds,k,0=>by simp [enumFrom]
 | d :: ds,k,i + 1=>by
  have:=JaE ds (k + 1) i
  simp only [enumFrom,List.getElem?_cons_succ,this]
  rw [show k + 1 + i = k + (i + 1) by omega]
theorem JC:∀ (ds:List D) (k:Nat),(enumFrom k ds).length = ds.length
 | [],_=>rfl
 | d :: ds,k=>by simp [enumFrom,JC ds]
theorem Jeg:∀ (as bs:List D) (i:Nat) (a b:D),as[i]? = some a -> bs[i]? = some b -> (zipD as bs)[i]? = some (.tup [a,b])
 | a :: as,b :: bs,0,_,_,h,h'=>by simp at h h'; simp [zipD,h,h']
 | a :: as,b :: bs,i + 1,_,_,h,h'=>by simpa [zipD] using Jeg as bs i _ _ (by simpa using h) (by simpa using h')
 | [],_,_,_,_,h,_=>by simp at h
 | _ :: _,[],_,_,_,_,h'=>by simp at h'
theorem JbD:∀ (as bs:List D),(zipD as bs).length = min as.length bs.length
 | [],_=>by simp [zipD]
 | _ :: _,[]=>by simp [zipD]
 | a :: as,b :: bs=>by simp [zipD,JbD as bs]
section
variable {X:Cx} {pins:List (Addr × Obj)} {σ:L2.St} {H:Hp} {s:Shared}
theorem Jhl (I:L2.Inv X pins σ H s) {t:Bool} {a:Addr} {xs:List V} {ds:List D} (h1:Sq X.K t H a xs) (h2:Reps X.K H ds xs):Walk X.K (Ite X.K t a) H (enumFrom 0 ds):=by
 intro H' sm
 have l:=h2.length
 have h1':=Sq.same sm h1
 have h2':=h2.mono sm
 refine ⟨fun i hi=>?_,⟨xs,h1',by rw [JC]; exact l⟩,fun i x H'' hi ⟨T,v,hT,e1,e2,hv⟩=>?_⟩
 ·rw [JC] at hi
  exact ⟨xs,xs[i]'(by omega),h1',List.getElem?_eq_getElem (by omega)⟩
 ·subst e1; subst e2
  obtain ⟨d,hd,rd⟩:=h2'.get' (hv xs h1')
  obtain ⟨s1,r1⟩:=JeD (K:=X.K) (ds:=[.int i,d]) (xs:=[.int i,v]) hT ⟨_,_,rfl,rfl,_,_,rfl,rd,rfl⟩
  refine ⟨s1,_,by rw [JaE,hd]; rfl,?_⟩
  simpa using r1
theorem JhC (I:L2.Inv X pins σ H s) {t1 t2:Bool} {a b:Addr} {xs ys:List V} {ds es:List D} (h1:Sq X.K t1 H a xs) (h2:Reps X.K H ds xs) (h3:Sq X.K t2 H b ys) (h4:Reps X.K H es ys):Walk X.K (Itz X.K t1 t2 a b) H (zipD ds es):=by
 intro H' sm
 have l:=h2.length
 have l':=h4.length
 have h1':=Sq.same sm h1
 have h3':=Sq.same sm h3
 refine ⟨fun i hi=>?_,⟨xs,ys,h1',h3',?_⟩,fun i x H'' hi ⟨T,u,v,hT,e1,e2,hu,hv⟩=>?_⟩
 ·rw [JbD] at hi
  exact ⟨xs,ys,xs[i]'(by omega),ys[i]'(by omega),h1',h3',List.getElem?_eq_getElem (by omega),List.getElem?_eq_getElem (by omega)⟩
 ·rw [JbD]
  by_cases hh:ds.length <= es.length
  ·exact .inl (List.getElem?_eq_none (by omega))
  ·exact .inr (List.getElem?_eq_none (by omega))
 ·subst e1; subst e2
  obtain ⟨d,hd,rd⟩:=(h2.mono sm).get' (hu xs h1')
  obtain ⟨e,he,re⟩:=(h4.mono sm).get' (hv ys h3')
  obtain ⟨s1,r1⟩:=JeD (K:=X.K) (ds:=[d,e]) (xs:=[u,v]) hT ⟨_,_,rfl,rd,_,_,rfl,re,rfl⟩
  exact ⟨s1,_,Jeg _ _ _ _ _ hd he,r1⟩
theorem Jic {a:Addr} {xs:List V} {ds:List D} {K:PySem.W.Frag} (h1:SqT K H a xs) (h2:Reps K H ds xs) (inj:∀ H' ys,Same H H' -> SqT K H' a ys -> True):Walk K (Itt K a) H ds:=by
 intro H' sm
 have l:=h2.length
 have h1':=SqT.same sm h1
 refine ⟨fun i hi=>⟨xs,xs[i]'(by omega),h1',List.getElem?_eq_getElem (by omega)⟩,⟨xs,h1',by omega⟩,fun i x H'' hi ⟨e,hx⟩=>?_⟩
 subst e
 obtain ⟨d,hd,rd⟩:=(h2.mono sm).get' (hx xs h1')
 exact ⟨Same.refl _,d,hd,rd⟩
theorem JiI {a:Addr} {xs:List V} {ds:List D} {K:PySem.W.Frag} (h1:SqL K H a xs) (h2:Reps K H ds xs):Walk K (Itl K a) H ds:=by
 intro H' sm
 have l:=h2.length
 have h1':=Same.seq sm h1
 refine ⟨fun i hi=>⟨xs,xs[i]'(by omega),h1',List.getElem?_eq_getElem (by omega)⟩,⟨xs,h1',by omega⟩,fun i x H'' hi ⟨e,hx⟩=>?_⟩
 subst e
 obtain ⟨d,hd,rd⟩:=(h2.mono sm).get' (hx xs h1')
 exact ⟨Same.refl _,d,hd,rd⟩
theorem JeS {lo:Int} {n:Nat} {K:PySem.W.Frag}:Walk K (Itr lo n) H (upTo lo n):=by
 intro H' sm
 have l:(upTo lo n).length = n:=by simp [Pu.upTo]
 refine ⟨fun i hi=>by rw [l] at hi; exact hi,by show n <= _; rw [l]; exact Nat.le_refl _,fun i x H'' hi ⟨e,hx⟩=>?_⟩
 subst e
 refine ⟨Same.refl _,.int (lo + i),?_,hx⟩
 rw [l] at hi
 simp [Pu.upTo,List.getElem?_range hi]
def Its (x:Str):It:=⟨fun i _=>i < x.cps.size,fun i H v H'=>H' = H /\ ∃ c,x.cps[i]? = some c /\ v = .str ⟨#[c]⟩,fun i _=>i = x.cps.size⟩
theorem JhQ {x:Str} {K:PySem.W.Frag}:Walk K (Its x) H (chars x):=by
 intro H' sm
 have l:(chars x).length = x.cps.size:=by simp [chars]
 refine ⟨fun i hi=>by rw [l] at hi; exact hi,l,fun i v H'' hi ⟨e,c,hc,hv⟩=>?_⟩
 subst e
 refine ⟨Same.refl _,.str ⟨#[c]⟩,?_,hv⟩
 unfold chars
 rw [List.getElem?_map,Array.getElem?_toList,hc]
 rfl
theorem JdK {P:Program} {w:World} {A:Around} (hh:A.handled = none) (I:Addr) (x:Str) (t:Tok):Walks P w A I [I] [I] x.cps.size (SignAt x) (fun i h=>h.IsStrIter I (strIterType x) x t i):=by
 cases ha:x.cps.all (· < 128)
 ·rw [show strIterType x = "str_iterator" by simp [strIterType,ha]]; exact Walks.strWide hh I x t
 ·rw [show strIterType x = "str_ascii_iterator" by simp [strIterType,ha]]; exact Walks.strAscii hh I x t
theorem JhV {P:Program} {w:World} {K:PySem.W.Frag} {y:Str} {px:Pos} (x:Str) (t:Tok) (I:Addr):Turn P w K (.Name y px) (Its x) [I] I (fun i h=>h.IsStrIter I (strIterType x) x t i) where
 mem:=by simp
 obj:=fun i h st b hb=>by
  have e:b = I:=by simpa using hb
  subst e
  obtain ⟨o,h1,_,h3⟩:=st
  exact ⟨o,h1,fun v q=>by rw [h3] at q; cases q⟩
 keep:=fun i h h' st k=>let ⟨o,h1,h2⟩:=st; ⟨o,k I (by simp) o h1,h2⟩
 item:=by
  intro X hP hw hK hc i pins s σ H E Iv hf st hg
  subst hP hw hK
  refine (JdK (Iv.ok.hd hc) I x t).item i s _ _ hg st fun v h' tk hv st' kk=>?_
  obtain ⟨c,u,hcc,rfl⟩:=hv
  have I1:L2.Inv X pins σ H { s with heap:=h',toks:=tk }:=JJ Iv hf fun b o hb e=>kk b o hb e
  exact ⟨_,rfl,wpAny_pure ⟨.str ⟨#[c]⟩,H,I1,⟨u,rfl⟩,⟨rfl,c,hcc,rfl⟩,st',fun b hb=>(hf b hb).1⟩⟩
 done:=by
  intro X hP hw hK hc i pins s σ H E Iv hf st hg
  subst hP hw hK
  have e:i = x.cps.size:=hg
  subst e
  exact (JdK (Iv.ok.hd hc) I x t).done s _ _ st fun h' tk kk=>⟨rfl,JJ Iv hf fun b o hb e=>kk b o hb e⟩
 self:=fun A i s Q E st h=>by
  cases ha:x.cps.all (· < 128)
  ·rw [show strIterType x = "str_iterator" by simp [strIterType,ha]] at st; exact wpAny_pyIter_striter_wide st h
  ·rw [show strIterType x = "str_ascii_iterator" by simp [strIterType,ha]] at st; exact wpAny_pyIter_striter_ascii st h
end
theorem JlZ {K:PySem.W.Frag} {a:Addr}:ItOk (Itl K a):=fun L i H x H' _ ⟨e,h⟩=>⟨by rw [e],fun xs q=>h xs (hid_same.seq q)⟩
theorem Jlo {K:PySem.W.Frag} {a:Addr}:ItOk (Itt K a):=fun L i H x H' _ ⟨e,h⟩=>⟨by rw [e],fun xs q=>h xs (SqT.same hid_same q)⟩
theorem JhW {lo:Int} {n:Nat}:ItOk (Itr lo n):=fun L i H x H' _ ⟨e,h⟩=>⟨by rw [e],h⟩
theorem Jmu {x:Str}:ItOk (Its x):=fun L i H v H' _ ⟨e,h⟩=>⟨by rw [e],h⟩
theorem JF {L:List Addr} {H:Hp} {T:Addr} (hL:Ows L H) (h:H T = none):T ∉ L:=fun hm=>by
 obtain ⟨o,e,_⟩:=hL T hm
 rw [h] at e; cases e
theorem JjN {K:PySem.W.Frag} {t:Bool} {a:Addr}:ItOk (Ite K t a):=fun L i H x H' hL ⟨T,v,h1,h2,h3,h4⟩=>by
 have hT:=JF hL h1
 exact ⟨T,v,by rw [Jh hT]; exact h1,h2,by rw [h3,JgU hT],fun xs q=>h4 xs (Sq.same hid_same q)⟩
theorem Jla {K:PySem.W.Frag} {t1 t2:Bool} {a b:Addr}:ItOk (Itz K t1 t2 a b):=fun L i H x H' hL ⟨T,u,v,h1,h2,h3,h4,h5⟩=>by
 have hT:=JF hL h1
 exact ⟨T,u,v,by rw [Jh hT]; exact h1,h2,by rw [h3,JgU hT],fun xs q=>h4 xs (Sq.same hid_same q),fun xs q=>h5 xs (Sq.same hid_same q)⟩
section
variable {X:Cx} {call:CallD} {G:Gw} {N:List Str} {nm:List (Str × NameKind)} {a b l:Expr} {p pa pb:Px} {pos p1:Pos} {tg:Expr}
theorem JmG {y:Str} {px:Pos} (hl:PE X l (tI X call p)):PI X (.Name y px) l (tW X call (.walk p)):=by
 intro pins s σ H R I ⟨env,r,h⟩
 simp only [evD] at h
 refine thn (hl pins s σ H (fun v H'=>∃ d ds,Rep X.K H' d v /\ d.walk = .ok ds /\ Same H H' /\ ∀ J H2,Same H H2 -> Walk X.K J H2 ds -> ItOk J -> R J H2) I ⟨env,r,(Rs.good_bind.mp h).imp fun d hd v H' s1 rv=>?_⟩) fun v s1 ⟨x,H1,I1,r1,d,ds,rd,hw,s2,hR⟩=>?_
 ·cases q:d.walk with
  | ok ds=>
   rw [q] at hd
   obtain ⟨ds',e,hR⟩:=hd
   cases e
   exact ⟨d,ds,rv,q,s1,hR⟩
  | ex c=>exact (Jjr q).elim
  | stuck=>rw [q] at hd; exact hd.elim
 cases d with
 | tup es=>
  cases hw
  obtain ⟨a,xs,rfl,h1,h2⟩:=rd
  cases r1
  obtain ⟨its,rv,pt,hz⟩:=I1.tuple h1
  refine wpAny_pyIter_tuple (show s1.heap.IsTuple a its.toArray from pt) ⟨s1.heap.objs.size,[s1.heap.objs.size],_,_,H1,rfl,I1.kept (t':=s1.toks) fun b o e=>Heap.get?_push_of_some _ e,JeV a _,⟨_,Heap.get?_push_size _ rfl,rfl,rfl⟩,fun b hb=>?_,hR _ _ s2 (Jic h1 h2 fun _ _ _ _=>trivial) Jlo⟩
  have e:b = s1.heap.objs.size:=by simpa using hb
  subst e; exact I1.fpOk (Nat.le_refl _) (I1.hok.fresh (Nat.le_refl _))
 | lst es=>
  cases hw
  obtain ⟨a,xs,rfl,h1,h2⟩:=rd
  cases r1
  obtain ⟨its,rv,pt,hz⟩:=I1.list h1
  refine wpAny_pyIter_list pt.isList ⟨s1.heap.objs.size,[s1.heap.objs.size],_,_,H1,rfl,I1.kept (t':=s1.toks) fun b o e=>Heap.get?_push_of_some _ e,Jhn a _,⟨_,Heap.get?_push_size _ rfl,rfl,rfl⟩,fun b hb=>?_,hR _ _ s2 (JiI h1 h2) JlZ⟩
  have e:b = s1.heap.objs.size:=by simpa using hb
  subst e; exact I1.fpOk (Nat.le_refl _) (I1.hok.fresh (Nat.le_refl _))
 | str z=>
  cases hw
  have hx:x = V.str z:=rd
  subst hx
  obtain ⟨t,rfl⟩:=r1
  refine wpAny_pyIter_strU ⟨s1.heap.objs.size,[s1.heap.objs.size],_,_,H1,rfl,I1.kept (t':=s1.toks) fun b o e=>Heap.get?_push_of_some _ e,JhV z t _,⟨_,Heap.get?_push_size _ rfl,rfl,rfl⟩,fun b hb=>?_,hR _ _ s2 JhQ Jmu⟩
  have e:b = s1.heap.objs.size:=by simpa using hb
  subst e; exact I1.fpOk (Nat.le_refl _) (I1.hok.fresh (Nat.le_refl _))
 | _=>cases hw
theorem JgQ (C:Ctx X G N nm) (ha:PE X a (tI X call pa)) (hg:gloB nm "range" = true) (hm:G.mg "range" = none) (hs:starEach [a] X.env = [(false,eval a X.env)]:=by rfl):PI X tg (.Call (.Name "range" p1) [a] [] pos) (tW X call (.un .range pa)):=by
 intro pins s σ H R I ⟨env,r,h⟩
 simp only [evD] at h
 refine Jfk (C.glo _ hg) (by rw [C.mg]; exact hm) (JQ (call:=call) ha Jbw hs) hs pins s σ H R I ⟨env,r,?_⟩
 simp only [evD]
 refine Rs.good_bind.mpr ((Rs.good_bind.mp h).imp fun d hd=>?_)
 cases d with
 | int i=>
  simp only [op1] at hd
  split at hd
  ·rename_i hz
   simp only [midI,Bool.and_eq_true,decide_eq_true_eq] at hz
   obtain ⟨ds',e,hR⟩:=hd
   cases e
   refine ⟨[.int i],rfl,fun vs H' s1 rs=>?_⟩
   obtain ⟨v,r',e1,h1,h2⟩:=rs
   cases h2; cases h1; subst e1
   exact ⟨i,rfl,hz.1,hz.2,hR _ _ s1 JeS JhW⟩
  ·exact hd.elim
 | _=>exact (show False from hd).elim
theorem JjH {elts:List Expr} {k:Nat} {tp:Pos} (C:Ctx X G N nm) (ha:PE X a (tI X call pa)) (hg:gloB nm "enumerate" = true) (hm:G.mg "enumerate" = none) (hs:starEach [a] X.env = [(false,eval a X.env)]:=by rfl) :
  PI X (.Tuple elts k tp) (.Call (.Name "enumerate" p1) [a] [] pos) (tW X call (.un .enum pa)):=by
 intro pins s σ H R I ⟨env,r,h⟩
 simp only [evD] at h
 refine Call_ (Jbx I (C.glo _ hg) (by rw [C.mg]; exact hm) boot_enumerate (PyProof.Rows.callWith_type1 (thn (JQ (call:=call) ha Jbw hs pos pins s σ H (fun vs H'=>∃ d ds v,vs = [v] /\ Rep X.K H' d v /\ (d = .tup ds \/ d = .lst ds) /\ Same H H' /\ ∀ J H2,Same H H2 -> Walk X.K J H2 (enumFrom 0 ds) -> ItOk J -> R J H2) I ⟨env,r,?_⟩) fun us s1 ⟨vs,H1,I1,r1,d,ds,v,e1,rd,hw,s2,hR⟩=>?_) hs rfl))
 ·simp only [evD]
  refine Rs.good_bind.mpr ((Rs.good_bind.mp h).imp fun d hd=>?_)
  refine ⟨[d],rfl,fun vs H' s1 rs=>?_⟩
  obtain ⟨v,r',e1,h1,h2⟩:=rs
  cases h2; subst e1
  cases d with
  | tup ds=>
   obtain ⟨ds',e,hR⟩:=hd
   cases e
   exact ⟨_,ds,v,rfl,h1,.inl rfl,s1,hR⟩
  | lst ds=>
   obtain ⟨ds',e,hR⟩:=hd
   cases e
   exact ⟨_,ds,v,rfl,h1,.inr rfl,s1,hR⟩
  | _=>exact (show False from hd).elim
 subst e1
 obtain ⟨t,l,xs,rfl,q1,q2⟩:=Jff rd hw
 obtain ⟨u,rfl,ru⟩:=Jaz r1
 cases ru
 obtain ⟨its,rv,pt,hz⟩:=Jq I1 q1
 refine JfW pt fun h' he hit kp=>wpAny_pyIter_enum he ⟨s1.heap.objs.size + 1,[s1.heap.objs.size + 1,s1.heap.objs.size],_,_,H1,rfl,I1.kept (t':=s1.toks) kp,JgP t l s1.heap.objs.size (s1.heap.objs.size + 1) (Nat.succ_ne_self _),⟨⟨_,he⟩,hit⟩,fun b hb=>?_,hR _ _ s2 (Jhl I1 q1 q2) JjN⟩
 have hb':s1.heap.objs.size <= b:=by
  simp only [List.mem_cons,List.not_mem_nil,or_false] at hb
  rcases hb with rfl | rfl
  ·exact Nat.le_succ _
  ·exact Nat.le_refl _
 exact I1.fpOk hb' (I1.hok.fresh hb')
theorem JkD {elts:List Expr} {k:Nat} {tp:Pos} (C:Ctx X G N nm) (ha:PE X a (tI X call pa)) (hb:PE X b (tI X call pb)) (hg:gloB nm "zip" = true) (hm:G.mg "zip" = none) (hs:starEach [a,b] X.env = (false,eval a X.env) :: starEach [b] X.env:=by rfl)
  (hs2:starEach [b] X.env = [(false,eval b X.env)]:=by rfl):PI X (.Tuple elts k tp) (.Call (.Name "zip" p1) [a,b] [] pos) (tW X call (.bi .zip pa pb)):=by
 intro pins s σ H R I ⟨env,r,h⟩
 simp only [evD] at h
 refine Call_ (Jbx I (C.glo _ hg) (by rw [C.mg]; exact hm) boot_zip (PyProof.Rows.callWith_type1 (thn (JQ (call:=call) ha (JQ hb Jbw hs2) hs pos pins s σ H (fun vs H'=>∃ d ds v d' es v',vs = [v,v'] /\ Rep X.K H' d v /\ (d = .tup ds \/ d = .lst ds) /\ Rep X.K H' d' v' /\ (d' = .tup es \/ d' = .lst es) /\ Same H H' /\ ∀ J H2,Same H H2 -> Walk X.K J H2 (zipD ds es) -> ItOk J -> R J H2) I ⟨env,r,?_⟩)
  fun us s1 ⟨vs,H1,I1,r1,d,ds,v,d',es,v',e1,rd,hw,rd',hw',s2,hR⟩=>?_) hs (by rw [hs2]; rfl)))
 ·simp only [evD]
  refine Rs.good_bind.mpr ((Rs.good_bind.mp h).imp fun d hd=>?_)
  refine Rs.good_bind.mpr ((Rs.good_bind.mpr ((Rs.good_bind.mp hd).imp fun d' hd'=>?_)))
  refine ⟨[d,d'],rfl,fun vs H' s1 rs=>?_⟩
  obtain ⟨v,r',e1,h1,v',r'',e2,h2,h3⟩:=rs
  cases h3; subst e2; subst e1
  cases d <;> cases d' <;> first
   | exact (show False from hd').elim
   | (obtain ⟨ds',e,hR⟩:=hd'; cases e; exact ⟨_,_,v,_,_,v',rfl,h1,.inl rfl,h2,.inl rfl,s1,hR⟩)
   | (obtain ⟨ds',e,hR⟩:=hd'; cases e; exact ⟨_,_,v,_,_,v',rfl,h1,.inl rfl,h2,.inr rfl,s1,hR⟩)
   | (obtain ⟨ds',e,hR⟩:=hd'; cases e; exact ⟨_,_,v,_,_,v',rfl,h1,.inr rfl,h2,.inl rfl,s1,hR⟩)
   | (obtain ⟨ds',e,hR⟩:=hd'; cases e; exact ⟨_,_,v,_,_,v',rfl,h1,.inr rfl,h2,.inr rfl,s1,hR⟩)
 subst e1
 obtain ⟨t,l,xs,rfl,q1,q2⟩:=Jff rd hw
 obtain ⟨t',l',ys,rfl,q3,q4⟩:=Jff rd' hw'
 obtain ⟨u,u',rfl,ru,ru'⟩:=vals2 r1
 cases ru; cases ru'
 obtain ⟨its,rv,pt,hz⟩:=Jq I1 q1
 obtain ⟨its2,rv2,pt2,hz2⟩:=Jq I1 q3
 have ap:Apart (s1.heap.objs.size + 4) (s1.heap.objs.size + 2) (s1.heap.objs.size + 3) s1.heap.objs.size (s1.heap.objs.size + 1):=⟨by simp [List.nodup_cons]⟩
 refine Jgj pt pt2 fun h' st kp=>wpAny_pyIter_zip st.1 ⟨s1.heap.objs.size + 4,_,_,_,H1,rfl,I1.kept (t':=s1.toks) kp,JhA t t' l l' _ _ _ _ _ ap,st,fun b hb=>?_,hR _ _ s2 (JhC I1 q1 q2 q3 q4) Jla⟩
 have hb':s1.heap.objs.size <= b:=by
  simp only [List.mem_cons,List.not_mem_nil,or_false] at hb
  rcases hb with rfl | rfl | rfl | rfl | rfl <;> first | exact Nat.le_refl _ | exact Nat.le_add_right _ _
 exact I1.fpOk hb' (I1.hok.fresh hb')
end
end Rd
namespace Rd
open PySem PySem.Spec PyProof.Rows L2 Pu
def uni (L:List Addr) (H H1:Hp):Hp:=fun a=>if a ∈ L then H a else H1 a
section
variable {L L':List Addr} {H H' H1:Hp} {a:Addr} {o:HO}
theorem Jo (h:a ∉ L):uni L H H1 a = H1 a:=by unfold uni; rw [if_neg h]
theorem Jbe (h:a ∈ L):uni L H H1 a = H a:=by unfold uni; rw [if_pos h]
theorem Jdl (h:∀ a ∈ L,H1 a = none):hid L (uni L H H1) = H1:=by
 funext a
 by_cases q:a ∈ L
 ·rw [Jal q,h a q]
 ·rw [Jh q,Jo q]
theorem JbJ (s:Same (hid L H) H1):Same H (uni L H H1):=fun a o h=>by
 by_cases q:a ∈ L
 ·rw [Jbe q]; exact h
 ·rw [Jo q]; exact s a o (by rw [Jh q]; exact h)
theorem Ows.tup {K:PySem.W.Frag} (h:Ows L H):Tups K H (hid L H):=by
 have nin:∀ b o,H b = some o -> ¬ Chgb o -> b ∉ L:=fun b o e nc hm=>by
  obtain ⟨u,e1,c⟩:=h b hm
  rw [e] at e1; cases e1; exact nc c
 refine ⟨fun b xs q=>?_,fun b o u q=>by rw [Jh (nin b _ q fun z=>z)]; exact q⟩
 rcases q with q | q
 ·exact .inl (by rw [Jh (nin b _ q fun z=>z)]; exact q)
 ·exact .inr q
end
section
variable {X:Cx} {pins ps:List (Addr × Obj)} {σ σ':L2.St} {H H1:Hp} {s s':Shared} {L:List Addr}
theorem Inv.obj (I:L2.Inv X pins σ H s) {a:Addr} {o:HO} (h:H a = some o) (hc:Chgb o):∃ ob,s.heap.get? a = some ob /\ ∀ v,ob.data ≠ .cell v:=by
 have:=I.hok a o h
 cases o with
 | lst xs=>obtain ⟨_,its,n,_,e⟩:=this; exact ⟨_,e,fun v z=>by cases z⟩
 | dK kvs=>obtain ⟨_,_,vs,_,ob,es,ep,e,c,d,_⟩:=this; exact ⟨ob,e,fun v z=>by rw [d] at z; cases z⟩
 | dT kvs=>obtain ⟨_,_,xs,_,ob,es,ep,e,c,d,_⟩:=this; exact ⟨ob,e,fun v z=>by rw [d] at z; cases z⟩
 | _=>exact hc.elim
theorem JdO (I:L2.Inv X pins σ H s):∀ L,Ows L H -> ∃ ps:List (Addr × Obj),ps.map (·.1) = L /\ ∀ p ∈ ps,s.heap.get? p.1 = some p.2 /\ ∀ v,p.2.data ≠ .cell v
 | [],_=>⟨[],rfl,by simp⟩
 | a :: L,h=>by
  obtain ⟨o,e,c⟩:=h a (by simp)
  obtain ⟨ob,e1,e2⟩:=Inv.obj I e c
  obtain ⟨ps,e3,e4⟩:=JdO I L fun b hb=>h b (by simp [hb])
  refine ⟨(a,ob) :: ps,by simp [e3],fun p hp=>?_⟩
  rcases List.mem_cons.mp hp with rfl | hp
  ·exact ⟨e1,e2⟩
  ·exact e4 p hp
theorem Inv.fsFree (I:L2.Inv X pins σ H s) {b:Addr} (hb:b ∈ X.fs):H b = none:=by
 obtain ⟨_,o,ho,_⟩:=I.ok.funs.mem hb
 exact I.base.free b o ho (I.ok.frf b hb) fun z=>I.ok.exfs b z hb
theorem Inv.hide (I:L2.Inv X pins σ H s) (hL:Ows L H):∃ ps:List (Addr × Obj),ps.map (·.1) = L /\ (∀ p ∈ ps,s.heap.get? p.1 = some p.2) /\ L2.Inv X (ps ++ pins) σ (hid L H) s:=by
 obtain ⟨ps,e1,e2⟩:=JdO I L hL
 have hin:∀ p ∈ ps,p.1 ∈ L:=fun p hp=>by rw [<- e1]; exact List.mem_map_of_mem hp
 have nin:∀ b o,H b = some o -> ¬ Chgb o -> b ∉ L:=fun b o e nc hm=>by
  obtain ⟨u,e3,c⟩:=hL b hm
  rw [e] at e3; cases e3; exact nc c
 have hn:∀ b,H b = none -> hid L H b = none:=fun b e=>by unfold hid; split <;> first | rfl | exact e
 refine ⟨ps,e1,fun p hp=>(e2 p hp).1,?_⟩
 exact {
  ok:=I.ok,os:=I.os,bare:=I.bare
  base:=⟨I.base.keep,I.base.slot,fun b o q n x=>hn b (I.base.free b o q n x),I.base.there,fun b xs q=>by
    have:=I.base.tups b xs q
    rw [Jh (nin b _ this fun z=>z)]; exact this,
   fun b o u q=>by
    have:=I.base.frzs b o u q
    rw [Jh (nin b _ this fun z=>z)]; exact this,
   fun b qs q=>by
    obtain ⟨m,this⟩:=I.base.tbls b qs q
    exact ⟨m,by rw [Jh (nin b _ this fun z=>z)]; exact this⟩⟩
  loc:=I.loc,cell:=I.cell,free:=hn _ I.free,freeC:=fun x c e=>hn _ (I.freeC x c e)
  pin:=fun p hp=>by
   have hp':p ∈ ps \/ p ∈ X.pn ++ pins:=by
    simp only [List.mem_append] at hp ⊢
    rcases hp with h | h | h
    ·exact .inr (.inl h)
    ·exact .inl h
    ·exact .inr (.inr h)
   rcases hp' with hp | hp
   ·obtain ⟨o,e3,_⟩:=hL p.1 (hin p hp)
    refine ⟨(e2 p hp).1,Jal (hin p hp),fun z=>?_,fun z=>?_,(e2 p hp).2⟩
    ·rw [z,I.free] at e3; cases e3
    ·rw [Inv.fsFree I z] at e3; cases e3
   ·obtain ⟨q1,q2,q3⟩:=I.pin p hp
    exact ⟨q1,hn _ q2,q3⟩
  hok:=fun a o e=>by
   obtain ⟨h1,h2⟩:=JbU e
   exact (I.hok a o h2).stay (fun _ _ _ q=>q) (fun b q=>by rw [Jh (nin b _ q fun z=>z)]; exact q) fun b xs q=>by rw [Jh (nin b _ q fun z=>z)]; exact q
  len:=I.len }
theorem Inv.unhide (I:L2.Inv X pins σ H s) (hL:Ows L H) (e1:ps.map (·.1) = L) (e2:∀ p ∈ ps,s.heap.get? p.1 = some p.2) (sm:Same (hid L H) H1) (I':L2.Inv X (ps ++ pins) σ' H1 s'):(∀ a ∈ L,H1 a = none) /\ L2.Inv X pins σ' (uni L H H1) s':=by
 have nin:∀ b o,H b = some o -> ¬ Chgb o -> b ∉ L:=fun b o e nc hm=>by
  obtain ⟨u,e3,c⟩:=hL b hm
  rw [e] at e3; cases e3; exact nc c
 have pinL:∀ a ∈ L,∃ ob,s.heap.get? a = some ob /\ s'.heap.get? a = some ob /\ H1 a = none:=fun a ha=>by
  rw [<- e1] at ha
  obtain ⟨p,hp,rfl⟩:=List.mem_map.mp ha
  obtain ⟨q1,q2,_⟩:=I'.pin p (by simp [hp])
  exact ⟨p.2,e2 p hp,q1,q2⟩
 have hnL:∀ b,H b = none -> b ∉ L:=fun b e hm=>by
  obtain ⟨o,e3,_⟩:=hL b hm
  rw [e] at e3; cases e3
 have tp:∀ b xs,H b = some (.tup xs) -> uni L H H1 b = some (.tup xs):=fun b xs q=>by
  have hb:=nin b _ q fun z=>z
  rw [Jo hb]; exact sm b _ (by rw [Jh hb]; exact q)
 refine ⟨fun a ha=>let ⟨_,_,_,h⟩:=pinL a ha; h,?_⟩
 exact {
  ok:=I.ok,os:=I'.os,bare:=I'.bare
  base:=⟨I'.base.keep,I'.base.slot,fun b o q n x=>by rw [Jo (hnL b (I.base.free b o q n x))]; exact I'.base.free b o q n x,I'.base.there,
   fun b xs q=>by rw [Jo (nin b _ (I.base.tups b xs q) fun z=>z)]; exact I'.base.tups b xs q,
   fun b o u q=>by rw [Jo (nin b _ (I.base.frzs b o u q) fun z=>z)]; exact I'.base.frzs b o u q,
   fun b qs q=>by
    obtain ⟨m,this⟩:=I.base.tbls b qs q
    rw [Jo (nin b _ this fun z=>z)]; exact I'.base.tbls b qs q⟩
  loc:=I'.loc,cell:=I'.cell
  free:=by rw [Jo (hnL _ I.free)]; exact I'.free
  freeC:=fun x c e=>by rw [Jo (hnL _ (I.freeC x c e))]; exact I'.freeC x c e
  pin:=fun p hp=>by
   obtain ⟨q1,q2,q3⟩:=I'.pin p (by
    simp only [List.mem_append] at hp ⊢
    rcases hp with h | h
    ·exact .inl h
    ·exact .inr (.inr h))
   exact ⟨q1,by rw [Jo (hnL _ (I.pin p hp).2.1)]; exact q2,q3⟩
  hok:=fun a o e=>by
   by_cases ha:a ∈ L
   ·rw [Jbe ha] at e
    obtain ⟨u,e3,hc⟩:=hL a ha
    rw [e] at e3; cases e3
    obtain ⟨ob,h1,h2,_⟩:=pinL a ha
    have:=I.hok a o e
    have tr:∀ {x:Obj},s.heap.get? a = some x -> s'.heap.get? a = some x:=fun {x} q=>by rw [h1] at q; cases q; exact h2
    cases o with
    | lst xs=>obtain ⟨z,its,n,r,q⟩:=this; exact ⟨z,its,n,r,tr q⟩
    | dK kvs=>obtain ⟨z,y,vs,r,ob,es,ep,q,c⟩:=this; exact ⟨z,y,vs,r,ob,es,ep,tr q,c⟩
    | dT kvs=>obtain ⟨z,y,xs,r,ob,es,ep,q,c⟩:=this; exact ⟨z,y,xs,Paired.mapP r fun p q z=>⟨z.1,tp _ _ z.2.1,z.2.2⟩,ob,es,ep,tr q,c⟩
    | _=>exact hc.elim
   ·rw [Jo ha] at e
    have nz:∀ b o,H1 b = some o -> b ∉ L:=fun b o q hm=>by
     obtain ⟨_,_,_,h⟩:=pinL b hm
     rw [q] at h; cases h
    exact (I'.hok a o e).stay (fun _ _ _ q=>q) (fun b q=>by rw [Jo (nz b _ q)]; exact q) fun b xs q=>by rw [Jo (nz b _ q)]; exact q
  len:=I'.len }
end
def OutH (X:Cx) (L:List Addr) (H:Hp) (Q:VK) (d:D):Prop:=∀ v H',Same H H' -> (∀ a ∈ L,H' a = H a) -> Rep X.K (hid L H') d v -> Q v H'
def tH (X:Cx) (call:CallD) (p:Px):TE:=fun σ H Q=>∃ env L,Ows L H /\ ReadOk X.K (hid L H) σ env /\ (evD call p env).Good (OutH X L H Q) (XW X (hid L H))
def OutFH (X:Cx) (L:List Addr) (H:Hp) (Q:VK) (d:D):Prop:=∃ ds,d = .lst ds /\ ∀ l xs H',Same H H' -> (∀ a ∈ L,H' a = H a) -> H l = none -> H' l = some (.lst xs) -> Reps X.K (hid L H') ds xs -> Q (.ref l) H'
def tFH (X:Cx) (call:CallD) (p:Px):TE:=fun σ H Q=>∃ env L,Ows L H /\ ReadOk X.K (hid L H) σ env /\ (evD call p env).Good (OutFH X L H Q) (XW X (hid L H))
section
variable {X:Cx} {call:CallD} {e:Expr} {p:Px}
theorem JfF (he:PE X e (tI X call p)):PE X e (tH X call p):=by
 intro pins s σ H Q I ⟨env,L,hL,r,h⟩
 obtain ⟨ps,e1,e2,I'⟩:=Inv.hide I hL
 refine wpAny_mono (he (ps ++ pins) s σ (hid L H) (fun v H1=>Same (hid L H) H1 /\ ((∀ a ∈ L,H1 a = none) -> Q v (uni L H H1))) I' ⟨env,r,h.mono (fun d hd v H1 s1 rv=>⟨s1,fun hn=>hd v _ (JbJ s1) (fun a ha=>Jbe ha) ?_⟩) fun c z=>z⟩)
  (fun u s1 ⟨v,H1,I1,rv,sm,q⟩=>?_) fun _ _ z=>z
 ·rw [Jdl hn]; exact rv
 ·obtain ⟨hn,I2⟩:=Inv.unhide I hL e1 e2 sm I1
  exact ⟨v,_,I2,rv,q hn⟩
end
def tWH (X:Cx) (call:CallD) (p:Px):TI:=fun σ H R=>∃ env L,Ows L H /\ ReadOk X.K (hid L H) σ env /\ (evD call p env).Good (fun d=>∃ ds,d = .lst ds /\ ∀ J H',Same H H' -> (∀ a ∈ L,H' a = H a) -> Walk X.K J (hid L H') ds -> ItOk J -> R J H') (XW X (hid L H))
section
variable {X:Cx} {call:CallD} {tg iter:Expr} {p:Px}
theorem Jlx (hi:PI X tg iter (tW X call p)):PI X tg iter (tWH X call p):=by
 intro pins s σ H R I ⟨env,L,hL,r,h⟩
 obtain ⟨ps,e1,e2,I'⟩:=Inv.hide I hL
 refine wpAny_mono (hi (ps ++ pins) s σ (hid L H) (fun J H1=>Same (hid L H) H1 /\ ((∀ a ∈ L,H1 a = none) -> R J (uni L H H1))) I' ⟨env,r,h.mono (fun d ⟨ds,ed,hd⟩=>⟨ds,ed,fun J H1 s1 w ok=>⟨s1,fun hn=>hd J _ (JbJ s1) (fun a ha=>Jbe ha) ?_ ok⟩⟩) fun c z=>z⟩)
  (fun v s1 q1=>wpAny_mono q1 (fun itv s2 ⟨it,fp,tn,J,H1,e3,I1,T,t0,hf,sm,q⟩=>?_) fun _ _ z=>z) fun _ _ z=>z
 ·rw [Jdl hn]; exact w
 ·obtain ⟨hn,I2⟩:=Inv.unhide I hL e1 e2 sm I1
  refine ⟨it,fp,tn,J,_,e3,I2,T,t0,fun b hb=>?_,q hn⟩
  obtain ⟨f0,f1,f2,f3,f4,f5⟩:=hf b hb
  have hbL:b ∉ L:=fun hm=>by
   rw [<- e1] at hm
   obtain ⟨p,hp,rfl⟩:=List.mem_map.mp hm
   exact f5 p (by simp [hp]) rfl
  exact ⟨by rw [Jo hbL]; exact f0,f1,f2,f3,f4,fun p hp=>f5 p (by
   simp only [List.mem_append] at hp ⊢
   rcases hp with h | h
   ·exact .inl h
   ·exact .inr (.inr h))⟩
end
end Rd
namespace Rd
open PySem PySem.Spec PyProof.Rows L2 Pu
def owA (env:Fm) (σ:L2.St) (i:Nat):Option Addr:=match env[i]?,σ[i]? with
 | some (some _),some (some (.ref l))=>some l
 | _,_=>none
def Ow (M:List Nat) (env:Fm) (σ:L2.St):List Addr:=M.filterMap (owA env σ)
theorem owA_iff {env:Fm} {σ:L2.St} {i:Nat} {l:Addr}:owA env σ i = some l ↔ ∃ d,env[i]? = some (some d) /\ σ[i]? = some (some (.ref l)):=by
 unfold owA
 constructor
 ·intro h
  split at h
  ·rename_i d m h1 h2; cases h; exact ⟨d,h1,h2⟩
  ·cases h
 ·rintro ⟨d,h1,h2⟩
  rw [h1,h2]
theorem mem_Ow {M:List Nat} {env:Fm} {σ:L2.St} {l:Addr}:l ∈ Ow M env σ ↔ ∃ i ∈ M,∃ d,env[i]? = some (some d) /\ σ[i]? = some (some (.ref l)):=by
 unfold Ow
 rw [List.mem_filterMap]
 constructor
 ·rintro ⟨i,hi,h⟩; exact ⟨i,hi,owA_iff.mp h⟩
 ·rintro ⟨i,hi,h⟩; exact ⟨i,hi,owA_iff.mpr h⟩
theorem JdL {M:List Nat} {env env':Fm} {σ σ':L2.St} (h:∀ i ∈ M,owA env σ i = owA env' σ' i):Ow M env σ = Ow M env' σ':=by
 unfold Ow
 induction M with
 | nil=>rfl
 | cons i M ih=>simp only [List.filterMap_cons,h i (.head _),ih fun j hj=>h j (.tail _ hj)]
theorem Jka {env:Fm} {σ:L2.St} {i j:Nat} {s:Option D} {t:Option V} (h:j ≠ i):owA (env.set i s) (σ.set i t) j = owA env σ j:=by
 unfold owA
 rw [List.getElem?_set_ne (Ne.symm h),List.getElem?_set_ne (Ne.symm h)]
theorem Ju {M:List Nat} {env:Fm} {σ:L2.St} {i:Nat} {s:Option D} {t:Option V} (h:i ∉ M):Ow M (env.set i s) (σ.set i t) = Ow M env σ:=JdL fun j hj=>Jka fun e=>h (e ▸ hj)
def OwnIs (K:PySem.W.Frag) (Hh H:Hp) (l:Addr):D -> Prop
 | .lst ds=>∃ xs,H l = some (.lst xs) /\ Reps K Hh ds xs
 | .dct t z ks vs=>z = false /\ ∃ xs,DK H l t false ks xs /\ Reps K Hh vs xs
 | _=>False
theorem OwnIs.mono {K:PySem.W.Frag} {Hh Hh' H H':Hp} {l:Addr} {d:D} (h:OwnIs K Hh H l d) (e:Same Hh Hh') (k:∀ o,H l = some o -> H' l = some o):OwnIs K Hh' H' l d:=by
 cases d with
 | lst ds=>obtain ⟨xs,h1,h2⟩:=h; exact ⟨xs,k _ h1,h2.mono e⟩
 | dct t z ks vs=>obtain ⟨hz,xs,h1,h2⟩:=h; exact ⟨hz,xs,h1.mono k,h2.mono e⟩
 | _=>exact h.elim
theorem OwnIs.chg {K:PySem.W.Frag} {Hh H:Hp} {l:Addr} {d:D} (h:OwnIs K Hh H l d):∃ o,H l = some o /\ Chgb o:=by
 cases d with
 | lst ds=>obtain ⟨xs,h1,h2⟩:=h; exact ⟨_,h1,trivial⟩
 | dct t z ks vs=>
  obtain ⟨hz,xs,h1,h2⟩:=h
  cases t <;> obtain ⟨kvs,h3,_⟩:=h1
  ·exact ⟨_,h3,trivial⟩
  ·exact ⟨_,h3,trivial⟩
 | _=>exact h.elim
theorem OwnIs.rep {K:PySem.W.Frag} {Hh H:Hp} {l:Addr} {d:D} (h:OwnIs K Hh H l d) (e:Same Hh H):Rep K H d (.ref l):=by
 cases d with
 | lst ds=>obtain ⟨xs,h1,h2⟩:=h; exact ⟨l,xs,rfl,SqL.of h1,h2.mono e⟩
 | dct t z ks vs=>obtain ⟨rfl,xs,h1,h2⟩:=h; exact ⟨l,xs,rfl,h1,h2.mono e⟩
 | _=>exact h.elim
structure EnvOk (K:PySem.W.Frag) (M:List Nat) (H0 H:Hp) (σ:L2.St) (env:Fm):Prop where
 same:Same H0 H
 len:σ.length = env.length
 read:∀ (i:Nat) (d:D),i ∉ M -> env[i]? = some (some d) -> ∃ v,σ[i]? = some (some v) /\ Rep K (hid (Ow M env σ) H) d v
 own:∀ (i:Nat) (d:D),i ∈ M -> env[i]? = some (some d) -> ∃ l,σ[i]? = some (some (.ref l)) /\ H0 l = none /\ OwnIs K (hid (Ow M env σ) H) H l d
 apart:∀ (i j:Nat) (l:Addr) (d d':D),i ∈ M -> j ∈ M -> i ≠ j -> env[i]? = some (some d) -> env[j]? = some (some d') -> σ[i]? = some (some (.ref l)) -> σ[j]? ≠ some (some (.ref l))
structure Fz (L:List Addr) (H:Hp) (L':List Addr) (H':Hp):Prop where
 keep:∀ a o,H a = some o -> a ∉ L -> H' a = some o
 own:∀ l ∈ L',l ∈ L \/ H l = none
section
variable {L L1 L2:List Addr} {H H1 H2:Hp}
theorem Fz.of (s:Same H H1) (h:∀ l ∈ L1,l ∈ L \/ H l = none):Fz L H L1 H1:=⟨fun a o e _=>s a o e,h⟩
theorem Fz.sm (s:Same H H1):Fz L H L H1:=.of s fun _ h=>.inl h
theorem Fz.trans (a:Fz L H L1 H1) (b:Fz L1 H1 L2 H2):Fz L H L2 H2 where
 keep:=fun c o e hn=>b.keep c o (a.keep c o e hn) fun hm=>by
  rcases a.own c hm with h | h
  ·exact hn h
  ·rw [e] at h; cases h
 own:=fun l hl=>by
  rcases b.own l hl with h | h
  ·exact a.own l h
  ·by_cases hm:l ∈ L
   ·exact .inl hm
   ·cases q:H l with
    | none=>exact .inr rfl
    | some o=>rw [a.keep l o q hm] at h; cases h
theorem Fz.hid (a:Fz L H L1 H1):Same (hid L H) (hid L1 H1):=Jiu fun b o e hn=>⟨a.keep b o e hn,fun hm=>by
 rcases a.own b hm with h | h
 ·exact hn h
 ·rw [e] at h; cases h⟩
end
section
variable {K:PySem.W.Frag} {M:List Nat} {H0 H H':Hp} {σ:L2.St} {env:Fm}
theorem EnvOk.ows (e:EnvOk K M H0 H σ env):Ows (Ow M env σ) H:=fun a ha=>by
 obtain ⟨i,hi,d,h1,h2⟩:=mem_Ow.mp ha
 obtain ⟨l,h3,_,h4⟩:=e.own i d hi h1
 rw [h2] at h3; cases h3
 exact h4.chg
theorem EnvOk.same0 (e:EnvOk K M H0 H σ env):Same H0 (hid (Ow M env σ) H):=fun a o h=>by
 have hn:a ∉ Ow M env σ:=fun ha=>by
  obtain ⟨i,hi,d,h1,h2⟩:=mem_Ow.mp ha
  obtain ⟨l,h3,h0,_⟩:=e.own i d hi h1
  rw [h2] at h3; cases h3
  rw [h] at h0; cases h0
 rw [Jh hn]; exact e.same a o h
theorem EnvOk.readOk (e:EnvOk K M H0 H σ env):ReadOk K H σ env:=fun i d h=>by
 by_cases hi:i ∈ M
 ·obtain ⟨l,h1,_,h2⟩:=e.own i d hi h
  exact ⟨_,h1,h2.rep hid_same⟩
 ·obtain ⟨v,h1,h2⟩:=e.read i d hi h
  exact ⟨v,h1,h2.mono hid_same⟩
theorem EnvOk.readHid (e:EnvOk K M H0 H σ env):ReadOk K (hid (Ow M env σ) H) σ (blankD M 0 env):=fun i d h=>by
 rw [JaT] at h
 cases q:env[i]? with
 | none=>rw [q] at h; cases h
 | some s=>
  rw [q] at h
  simp only [Option.map_some,Nat.zero_add,Option.some.injEq] at h
  split at h
  ·cases h
  ·rename_i hi
   subst h
   exact e.read i d hi q
theorem EnvOk.grow (e:EnvOk K M H0 H σ env) (s:Same H H'):EnvOk K M H0 H' σ env where
 same:=e.same.trans s
 len:=e.len
 read:=fun i d hi h=>let ⟨v,h1,h2⟩:=e.read i d hi h; ⟨v,h1,h2.mono (Fz.sm s).hid⟩
 own:=fun i d hi h=>let ⟨l,h1,h0,h2⟩:=e.own i d hi h; ⟨l,h1,h0,h2.mono (Fz.sm s).hid (s l)⟩
 apart:=e.apart
theorem Jr {α:Type} {l:List α} {i j:Nat} {a b:α} (h:(l.set i a)[j]? = some b):(j = i /\ b = a /\ i < l.length) \/ (j ≠ i /\ l[j]? = some b):=by
 by_cases q:j = i
 ·subst q
  by_cases hl:j < l.length
  ·rw [List.getElem?_set_self hl] at h; cases h; exact .inl ⟨rfl,rfl,hl⟩
  ·rw [List.getElem?_eq_none (by rw [List.length_set]; omega)] at h; cases h
 ·rw [List.getElem?_set_ne (Ne.symm q)] at h; exact .inr ⟨q,h⟩
theorem EnvOk.put (e:EnvOk K M H0 H σ env) {i:Nat} {d:D} {v:V} (hM:i ∉ M) (r:Rep K (hid (Ow M env σ) H) d v):EnvOk K M H0 H (σ.set i (some v)) (env.set i (some d)) where
 same:=e.same
 len:=by rw [List.length_set,List.length_set]; exact e.len
 read:=fun j d' hj h=>by
  rw [Ju hM]
  rcases Jr h with ⟨rfl,hd,hl⟩ | ⟨hn,h⟩
  ·cases hd; exact ⟨v,List.getElem?_set_self (by rw [e.len]; exact hl),r⟩
  ·rw [List.getElem?_set_ne (Ne.symm hn)]; exact e.read j d' hj h
 own:=fun j d' hj h=>by
  rw [Ju hM]
  rcases Jr h with ⟨rfl,_,_⟩ | ⟨hn,h⟩
  ·exact absurd hj hM
  ·rw [List.getElem?_set_ne (Ne.symm hn)]; exact e.own j d' hj h
 apart:=fun j k l d1 d2 hj hk hn h1 h2 h3=>by
  have n1:j ≠ i:=fun z=>hM (z ▸ hj)
  have n2:k ≠ i:=fun z=>hM (z ▸ hk)
  rw [List.getElem?_set_ne (Ne.symm n1)] at h1 h3
  rw [List.getElem?_set_ne (Ne.symm n2)] at h2 ⊢
  exact e.apart j k l d1 d2 hj hk hn h1 h2 h3
theorem JiV {i:Nat} {d:D} {l:Addr} (b:Addr) (h:b ∈ Ow M (env.set i (some d)) (σ.set i (some (.ref l)))):b = l \/ b ∈ Ow M env σ:=by
 obtain ⟨j,hj,d',h1,h2⟩:=mem_Ow.mp h
 by_cases q:j = i
 ·subst q
  by_cases hl:j < σ.length
  ·rw [List.getElem?_set_self hl] at h2; cases h2; exact .inl rfl
  ·rw [List.getElem?_eq_none (by rw [List.length_set]; omega)] at h2; cases h2
 ·rw [List.getElem?_set_ne (Ne.symm q)] at h1 h2
  exact .inr (mem_Ow.mpr ⟨j,hj,d',h1,h2⟩)
theorem EnvOk.putOwn (e:EnvOk K M H0 H σ env) (s:Same H H') {i:Nat} {d:D} {l:Addr} (h0:H l = none) (hl:∀ Hh,Tups K H' Hh -> OwnIs K Hh H' l d) :
  EnvOk K M H0 H' (σ.set i (some (.ref l))) (env.set i (some d)) /\ Fz (Ow M env σ) H (Ow M (env.set i (some d)) (σ.set i (some (.ref l)))) H':=by
 have fz:Fz (Ow M env σ) H (Ow M (env.set i (some d)) (σ.set i (some (.ref l)))) H':=.of s fun b hb=>by
  rcases JiV b hb with rfl | h
  ·exact .inr h0
  ·exact .inl h
 have ows:Ows (Ow M (env.set i (some d)) (σ.set i (some (.ref l)))) H':=fun b hb=>by
  rcases JiV b hb with rfl | h
  ·exact (hl H' (Tups.of (Same.refl _))).chg
  ·obtain ⟨o,h1,h2⟩:=e.ows b h; exact ⟨o,s _ _ h1,h2⟩
 refine ⟨{
  same:=e.same.trans s
  len:=by rw [List.length_set,List.length_set]; exact e.len
  read:=fun j d' hj h=>?_
  own:=fun j d' hj h=>?_
  apart:=fun j k m d1 d2 hj hk hn h1 h2 h3 h4=>?_ },fz⟩
 ·rcases Jr h with ⟨rfl,hd,hz⟩ | ⟨hn,h⟩
  ·cases hd
   exact ⟨.ref l,List.getElem?_set_self (by rw [e.len]; exact hz),(hl _ ows.tup).rep hid_same |> fun r=>by
    have ho:l ∉ Ow M (env.set j (some d)) (σ.set j (some (.ref l))):=fun hm=>by
     obtain ⟨k,hk,d2,k1,k2⟩:=mem_Ow.mp hm
     by_cases q:k = j
     ·exact hj (q ▸ hk)
     ·rw [List.getElem?_set_ne (Ne.symm q)] at k1 k2
      obtain ⟨l',g1,_,g3⟩:=e.own k d2 hk k1
      rw [k2] at g1; cases g1
      obtain ⟨o,g4,_⟩:=g3.chg
      rw [h0] at g4; cases g4
    have:=hl _ (ows.tup)
    cases d with
    | lst ds=>obtain ⟨xs,q1,q2⟩:=this; exact ⟨l,xs,rfl,SqL.of (by rw [Jh ho]; exact q1),q2⟩
    | dct t z ks vs=>obtain ⟨rfl,xs,q1,q2⟩:=this; exact ⟨l,xs,rfl,q1.mono fun o q=>by rw [Jh ho]; exact q,q2⟩
    | _=>exact this.elim⟩
  ·obtain ⟨v,g1,g2⟩:=e.read j d' hj h
   exact ⟨v,by rw [List.getElem?_set_ne (Ne.symm hn)]; exact g1,g2.mono fz.hid⟩
 ·rcases Jr h with ⟨rfl,hd,hz⟩ | ⟨hn,h⟩
  ·cases hd; exact ⟨l,List.getElem?_set_self (by rw [e.len]; exact hz),e.same.free h0,hl _ ows.tup⟩
  ·obtain ⟨m,g1,g0,g2⟩:=e.own j d' hj h
   exact ⟨m,by rw [List.getElem?_set_ne (Ne.symm hn)]; exact g1,g0,g2.mono fz.hid (s m)⟩
 ·have old:∀ q dq,q ∈ M -> q ≠ i -> env[q]? = some (some dq) -> σ[q]? ≠ some (some (.ref l)):=fun q dq hq hqi hqe hqs=>by
   obtain ⟨l',g1,_,g3⟩:=e.own q dq hq hqe
   rw [g1] at hqs; cases hqs
   obtain ⟨o,g4,_⟩:=g3.chg
   rw [h0] at g4; cases g4
  rcases Jr h1 with ⟨q1,_,hz⟩ | ⟨n1,k1⟩
  ·rw [q1,List.getElem?_set_self (by rw [e.len]; exact hz)] at h3
   cases h3
   rcases Jr h2 with ⟨q,_,_⟩ | ⟨n2,k2⟩
   ·exact hn (q1.trans q.symm)
   ·rw [List.getElem?_set_ne (Ne.symm n2)] at h4
    exact old k d2 hk n2 k2 h4
  ·rw [List.getElem?_set_ne (Ne.symm n1)] at h3
   rcases Jr h2 with ⟨q2,_,hz⟩ | ⟨n2,k2⟩
   ·rw [q2,List.getElem?_set_self (by rw [e.len]; exact hz)] at h4
    cases h4
    exact old j d1 hj n1 k1 h3
   ·rw [List.getElem?_set_ne (Ne.symm n2)] at h4
    exact e.apart j k m d1 d2 hj hk hn k1 k2 h3 h4
theorem Jda {L:List Addr} {l:Addr} {o:HO} (h:l ∈ L):hid L (upd H l o) = hid L H:=by
 funext b
 by_cases q:b ∈ L
 ·rw [Jal q,Jal q]
 ·rw [Jh q,Jh q,Ja (fun z:b = l=>q (by rw [z]; exact h))]
theorem EnvOk.change (e:EnvOk K M H0 H σ env) {i:Nat} {l:Addr} {d d':D} {o:HO} (hi:i ∈ M) (he:env[i]? = some (some d)) (hs:σ[i]? = some (some (.ref l))) (new:OwnIs K (hid (Ow M env σ) H) (upd H l o) l d') :
  EnvOk K M H0 (upd H l o) σ (env.set i (some d')) /\ Fz (Ow M env σ) H (Ow M (env.set i (some d')) σ) (upd H l o):=by
 have hl:l ∈ Ow M env σ:=mem_Ow.mpr ⟨i,hi,d,he,hs⟩
 obtain ⟨l',h1,h0,h2⟩:=e.own i d hi he
 rw [hs] at h1; cases h1
 have iσ:i < env.length:=(List.getElem?_eq_some_iff.mp he).1
 have ow:Ow M (env.set i (some d')) σ = Ow M env σ:=JdL fun j hj=>by
  by_cases q:j = i
  ·subst q
   rw [owA_iff.mpr ⟨d,he,hs⟩]
   exact owA_iff.mpr ⟨d',List.getElem?_set_self iσ,hs⟩
  ·unfold owA
   rw [List.getElem?_set_ne (Ne.symm q)]
 have hh:hid (Ow M (env.set i (some d')) σ) (upd H l o) = hid (Ow M env σ) H:=by rw [ow,Jda hl]
 refine ⟨⟨fun b ob q=>?_,by rw [List.length_set]; exact e.len,fun j dj hj h=>?_,fun j dj hj h=>?_,fun j k m d1 d2 hj hk hn h1 h2 h3=>?_⟩,⟨fun a ob q hn=>?_,fun b hb=>.inl (by rw [ow] at hb; exact hb)⟩⟩
 ·rw [Ja (Jg q h0)]; exact e.same b ob q
 ·rw [hh]
  rcases Jr h with ⟨rfl,_,_⟩ | ⟨hn,h⟩
  ·exact absurd hi hj
  ·exact e.read j dj hj h
 ·rw [hh]
  rcases Jr h with ⟨rfl,hd,_⟩ | ⟨hn,h⟩
  ·cases hd; exact ⟨l,hs,h0,new⟩
  ·obtain ⟨m,g1,g0,g2⟩:=e.own j dj hj h
   have hne:m ≠ l:=fun z=>e.apart i j l _ _ hi hj (Ne.symm hn) he h hs (z ▸ g1)
   exact ⟨m,g1,g0,g2.mono (Same.refl _) fun ob q=>by rw [Ja hne]; exact q⟩
 ·have back:∀ (q:Nat) (dq:D),(env.set i (some d'))[q]? = some (some dq) -> ∃ dq',env[q]? = some (some dq'):=fun q dq hq=>by
   rcases Jr hq with ⟨rfl,_,_⟩ | ⟨_,hq⟩
   ·exact ⟨_,he⟩
   ·exact ⟨dq,hq⟩
  obtain ⟨e1,k1⟩:=back j d1 h1
  obtain ⟨e2,k2⟩:=back k d2 h2
  exact e.apart j k m e1 e2 hj hk hn k1 k2 h3
 ·rw [Ja (fun z:a = l=>hn (by rw [z]; exact hl))]; exact q
end
def Chg (m:Bool) (L:List Addr) (H:Hp) (L':List Addr) (H':Hp):Prop:=Fz L H L' H' /\ (m = false -> Same H H')
section
variable {m n:Bool} {L L1 L2:List Addr} {H H1 H2:Hp}
theorem Chg.of (s:Same H H1):Chg m L H L H1:=⟨Fz.sm s,fun _=>s⟩
theorem Chg.trans (a:Chg m L H L1 H1) (b:Chg n L1 H1 L2 H2):Chg (m || n) L H L2 H2:=⟨a.1.trans b.1,fun h=>by
 simp only [Bool.or_eq_false_iff] at h
 exact (a.2 h.1).trans (b.2 h.2)⟩
theorem Chg.weak (a:Chg m L H L1 H1) (h:n = false -> m = false):Chg n L H L1 H1:=⟨a.1,fun q=>a.2 (h q)⟩
end
def OutS (X:Cx) (M:List Nat) (H0:Hp) (L:List Addr) (H:Hp) (m:Bool) (D:Ends) (r:Fw × Fm):Prop:=match r.1 with
 | .nx=>∀ σ' H',EnvOk X.K M H0 H' σ' r.2 -> Chg m L H (Ow M r.2 σ') H' -> D.nx σ' H'
 | .rt d=>∀ v H',Same H0 H' -> Rep X.K H' d v -> D.rt v H'
 | .bk=>∀ σ' H',EnvOk X.K M H0 H' σ' r.2 -> Chg m L H (Ow M r.2 σ') H' -> D.bk σ' H'
 | .ct=>∀ σ' H',EnvOk X.K M H0 H' σ' r.2 -> Chg m L H (Ow M r.2 σ') H' -> D.ct σ' H'
def tS (X:Cx) (call:CallD) (M:List Nat) (H0:Hp) (p:Sx):TS:=fun D σ H=>∃ env,EnvOk X.K M H0 H σ env /\ (exD call p env).Good (OutS X M H0 (Ow M env σ) H (mutS p) D) (XW X H0)
theorem OutS.after {X:Cx} {M:List Nat} {H0 H H1:Hp} {L L1:List Addr} {m n k:Bool} {D:Ends} {r:Fw × Fm} (h:OutS X M H0 L H k D r) (c:Chg m L H L1 H1) (hk:k = false -> m = false /\ n = false):OutS X M H0 L1 H1 n D r:=by
 obtain ⟨f,e⟩:=r
 have tr:∀ {L':List Addr} {H':Hp},Chg n L1 H1 L' H' -> Chg k L H L' H':=fun c2=>(c.trans c2).weak fun q=>by obtain ⟨a,b⟩:=hk q; rw [a,b]; rfl
 cases f with
 | nx=>exact fun σ' H' e' c'=>h σ' H' e' (tr c')
 | rt d=>exact h
 | bk=>exact fun σ' H' e' c'=>h σ' H' e' (tr c')
 | ct=>exact fun σ' H' e' c'=>h σ' H' e' (tr c')
section
variable {X:Cx} {call:CallD} {M:List Nat} {H0:Hp} {e c:Expr} {p pc:Px} {a b:Sx} {pos:Pos} {st:Stmt} {rest sa sb:List Stmt}
theorem PS.weak {t t':TS} (h:PS X st t) (hm:∀ D σ H,t' D σ H -> t D σ H):PS X st t':=fun pins s σ H D I hw=>h pins s σ H D I (hm D σ H hw)
theorem PSs.weak {sts:List Stmt} {t t':TS} (h:PSs X sts t) (hm:∀ D σ H,t' D σ H -> t D σ H):PSs X sts t':=fun pins s σ H D I hw=>h pins s σ H D I (hm D σ H hw)
theorem JmJ:PSs X [] (tS X call M H0 .skip):=PSs.weak Jjp fun D σ H ⟨env,e,h⟩=>h σ H e (Chg.of (Same.refl H))
theorem JlX (h:PS X st (tS X call M H0 a)):PSs X [st] (tS X call M H0 a):=JjK h
theorem Jjq (h1:PS X st (tS X call M H0 a)) (h2:PSs X rest (tS X call M H0 b)):PSs X (st :: rest) (tS X call M H0 (.seq a b)):=by
 refine PSs.weak (JhE h1 h2) fun D σ H ⟨env,e,h⟩=>⟨env,e,?_⟩
 simp only [exD] at h
 refine (Rs.good_bind.mp h).imp fun r hr=>?_
 obtain ⟨f,env2⟩:=r
 have wk:mutS (.seq a b) = false -> mutS a = false:=fun q=>by simp only [mutS,Bool.or_eq_false_iff] at q; exact q.1
 cases f with
 | nx=>
  intro σ' H' e' c'
  refine ⟨env2,e',hr.imp fun r2 h2=>h2.after c' fun q=>?_⟩
  simp only [mutS,Bool.or_eq_false_iff] at q
  exact q
 | rt d=>exact hr
 | bk=>exact fun σ' H' e' c'=>hr σ' H' e' (c'.weak wk)
 | ct=>exact fun σ' H' e' c'=>hr σ' H' e' (c'.weak wk)
theorem JmI (he:PE X e (tI X call p)):PS X (.Return (some e) pos) (tS X call M H0 (.ret p)):=by
 refine PS.weak (JlN he) fun D σ H ⟨env,e,h⟩=>⟨env,e.readOk,?_⟩
 simp only [exD] at h
 exact (Rs.good_bind.mp h).mono (fun d hd v H' s r=>hd v H' (e.same.trans s) r) fun c z=>z.mono e.same
theorem sS_if (hc:PT X c (tT X call pc)) (ha:PSs X sa (tS X call M H0 a)) (hb:PSs X sb (tS X call M H0 b)):PS X (.If c sa sb pos) (tS X call M H0 (.ite pc a b)):=by
 refine PS.weak (ps_if hc ha hb) fun D σ H ⟨env,e,h⟩=>⟨env,e.readOk,?_⟩
 simp only [exD] at h
 refine (Rs.good_bind.mp h).mono (fun d hd=>?_) fun c z=>z.mono e.same
 cases d with
 | bl k=>
  refine ⟨k,rfl,fun H' s=>?_⟩
  have fix:∀ {q:Sx},(mutS (.ite pc a b) = false -> mutS q = false) -> (exD call q env).Good (OutS X M H0 (Ow M env σ) H (mutS (.ite pc a b)) D) (XW X H0) -> tS X call M H0 q D σ H':=fun hm hg=>
   ⟨env,e.grow s,hg.imp fun r hr=>hr.after (m:=false) (Chg.of s) fun z=>⟨rfl,hm z⟩⟩
  cases k with
  | true=>exact iteT (fix (fun z=>by simp only [mutS,Bool.or_eq_false_iff] at z; exact z.1) hd)
  | false=>exact iteF (fix (fun z=>by simp only [mutS,Bool.or_eq_false_iff] at z; exact z.2) hd)
 | _=>exact hd.elim
section
variable {G:Gw} {N:List Str} {nm:List (Str × NameKind)} {x:Str} {i:Nat} {px:Pos}
theorem JfB (hM:i ∉ M) (hsp:sepP M p = true) {D:Ends} {σ:L2.St} {H:Hp} (h:tS X call M H0 (.set false i p) D σ H):tAsg (tH X call p) (gName i) D σ H:=by
 obtain ⟨env,e,h⟩:=h
 simp only [exD,Bool.false_and,Bool.false_eq_true,if_false] at h
 refine ⟨blankD M 0 env,Ow M env σ,e.ows,e.readHid,?_⟩
 rw [JZ call env hsp]
 exact (Rs.good_bind.mp h).mono (fun d hd v H' s k r=>hd _ _ ((e.grow s).put hM r) (by rw [Ju hM]; exact Chg.of s)) fun c z=>z.mono e.same0
theorem JgO {D:Ends} {σ:L2.St} {H:Hp} (h:tS X call M H0 (.own i p) D σ H):tAsg (tF X call p) (gName i) D σ H:=by
 obtain ⟨env,e,h⟩:=h
 simp only [exD] at h
 refine ⟨env,e.readOk,(Rs.good_bind.mp h).mono (fun d hd=>?_) fun c z=>z.mono e.same⟩
 cases d with
 | lst ds=>
  simp only at hd
  split at hd
  ·exact hd.elim
  ·rename_i q
   have him:imms ds = true:=by simpa using q
   refine ⟨ds,rfl,fun l xs H' s q0 q1 q2=>?_⟩
   obtain ⟨e2,f2⟩:=e.putOwn s (i:=i) (d:=.lst ds) q0 fun Hh tp=>⟨xs,q1,Reps.tups tp ds him q2⟩
   exact hd _ _ e2 ⟨f2,fun _=>s⟩
 | _=>exact hd.elim
theorem JkU (C:Ctx X G N nm) (hi:N[i]? = some x) (hx:locB nm x = true) (hM:i ∉ M) (hsp:sepP M p = true) (he:PE X e (tI X call p)) (hs:swapsWith e (some (.Name x px)) pos.line X.env = pure false:=by rfl) :
  PS X (.Assign [.Name x px] e pos) (tS X call M H0 (.set false i p)):=by
 obtain ⟨h1,h2⟩:=C.sto x hx
 exact PS.weak (JfG (by rw [C.hN]; exact C.nd) (by rw [C.hN]; exact hi) h1 (JfF he) hs h2) fun D σ H h=>JfB hM hsp h
theorem Jlv (C:Ctx X G N nm) (hi:N[i]? = some x) (hx:locB nm x = true) (he:PE X e (tF X call p)) (hs:swapsWith e (some (.Name x px)) pos.line X.env = pure false:=by rfl) :
  PS X (.Assign [.Name x px] e pos) (tS X call M H0 (.own i p)):=by
 obtain ⟨h1,h2⟩:=C.sto x hx
 exact PS.weak (JfG (by rw [C.hN]; exact C.nd) (by rw [C.hN]; exact hi) h1 he hs h2) fun D σ H h=>JgO h
theorem JhB {m:Bool} {te:TE} (hM:i ∈ M) {D:Ends} {σ:L2.St} {H:Hp} (h:tS X call M H0 (.app m i p) D σ H)
  (hte:∀ env,EnvOk X.K M H0 H σ env -> ∀ Q,(evD call p env).Good (fun d=>∀ v H1,Same H H1 -> (m = true -> d.imm = true) -> Rep X.K (hid (Ow M env σ) H1) d v -> Q v H1) (XW X H0) -> (∀ d,evD call p env = .ok d -> m = true -> d.imm = true) -> te σ H Q) :
  ∃ l,σ[i]? = some (some (.ref l)) /\ (∃ xs,H l = some (.lst xs)) /\ te σ H fun v H1=>∃ xs,H1 l = some (.lst xs) /\ xs.length < sizeLine /\ D.nx σ (upd H1 l (.lst (xs ++ [v]))):=by
 obtain ⟨env,e,h⟩:=h
 simp only [exD] at h
 cases q:env[i]? with
 | none=>rw [q] at h; exact h.elim
 | some o=>
  rw [q] at h
  cases o with
  | none=>exact h.elim
  | some d=>
   cases d with
   | lst ds=>
    obtain ⟨l,hσ,h0,xs,hl,hr⟩:=e.own i _ hM q
    refine ⟨l,hσ,⟨xs,hl⟩,hte env e _ ((Rs.good_bind.mp h).imp fun d hd v H1 s1 him r1=>?_) fun d ed hm=>?_⟩
    ·split at hd
     ·exact hd.elim
     ·rename_i hz
      simp only [Bool.or_eq_true,not_or,Bool.not_eq_true',Bool.not_eq_true,decide_eq_false_iff_not,Decidable.not_not] at hz
      have hl1:=s1 _ _ hl
      have hz2:ds.length < lineD:=by simpa using hz.2
      refine ⟨xs,hl1,by rw [hr.length,sizeLine_eq]; exact hz2,?_⟩
      obtain ⟨e2,f2⟩:=(e.grow s1).change (d':=.lst (ds ++ [d])) (o:=.lst (xs ++ [v])) hM q hσ ⟨_,Ji,(hr.mono (Fz.sm s1).hid).append (Reps.one r1)⟩
      exact hd σ _ e2 ⟨(Fz.sm s1).trans f2,fun z=>by cases z⟩
    ·rw [ed] at h
     simp only [Rs.bind_ok] at h
     split at h
     ·exact h.elim
     ·rename_i hz
      simp only [Bool.or_eq_true,not_or,hm,Bool.true_and] at hz
      simpa using hz.1
   | _=>exact h.elim
theorem JlK {apos:Pos} (C:Ctx X G N nm) (hi:N[i]? = some x) (hx:visB nm x = true) (hd1:(x == ("__debug__" : Str)) = false) (hd2:(x == ("__classdict__" : Str)) = false) (hM:i ∈ M) (hsp:sepP M p = true) (he:PE X e (tI X call p))
  (hl:(apos.endLine == pos.line) = true) {pos':Pos} (hs:starEach [e] X.env = (false,eval e X.env) :: starEach [] X.env:=by rfl):PS X (.Expr (.Call (.Attribute (.Name x px) "append" apos) [e] [] pos) pos') (tS X call M H0 (.app false i p)):=by
 refine PS.weak (JfY (JiK PySem.F.plainAttrs_list PySem.F.slot_list_append PySem.F.type_list_append Jgy (JdG (by rw [C.hN]; exact hi) (C.vis x hx) hd1 hd2) (JD (JfF he) JaD hs) rfl (by rw [hs]; rfl) hl hs rfl) rfl) fun D σ H h=>?_
 obtain ⟨l,hσ,⟨xs,hl⟩,h⟩:=JhB (te:=tH X call p) hM h fun env e Q g _=>⟨blankD M 0 env,Ow M env σ,e.ows,e.readHid,by
  rw [JZ call env hsp]
  exact g.mono (fun d hd v H' s k r=>hd v H' s (fun z=>by cases z) r) fun c z=>z.mono e.same0⟩
 obtain ⟨env,L,k1,k2,k3⟩:=h
 refine ⟨.ref l,hσ,.inl ⟨rfl,xs,SqL.of hl⟩,env,L,k1,k2,k3.imp fun d hd v H1 s1 kk r1=>?_⟩
 simp only [tNil]
 obtain ⟨ys,g1,g2,g3⟩:=hd v H1 s1 kk r1
 exact ⟨l,ys,v,rfl,rfl,g1,g2,g3⟩
end
end
end Rd
namespace Rd
open PySem PySem.Spec PyProof.Rows L2 Pu
def gS (X:Cx) (M:List Nat) (H0:Hp) (ts:List Nat) (nt:Nat):TG:=fun v σ H Q=>∃ env d new,EnvOk X.K M H0 H σ env /\ Rep X.K (hid (Ow M env σ) H) d v /\ bindT nt d = .ok new /\ ∀ σ',EnvOk X.K M H0 H σ' (setAll ts new env) -> Ow M (setAll ts new env) σ' = Ow M env σ -> Q σ' H
section
variable {X:Cx} {call:CallD} {M:List Nat} {H0:Hp} {G:Gw} {N:List Str} {nm:List (Str × NameKind)} {x y z:Str} {i j l k:Nat} {pos p1 p2 p3:Pos}
theorem JlY (C:Ctx X G N nm) (hi:N[i]? = some x) (hx:locB nm x = true) (hM:i ∉ M):PG X (.Name x pos) (gS X M H0 [i] 0):=by
 obtain ⟨h1,h2⟩:=C.sto x hx
 intro pins s σ H v u Q I r ⟨env,d,new,e,rd,hb,h⟩
 refine Jx (pos:=pos) (i:=i) (by rw [C.hN]; exact C.nd) (by rw [C.hN]; exact hi) h1 h2 pins s σ H v u Q I r ?_
 simp only [bindT,if_true] at hb
 cases hb
 exact h _ (e.put hM rd) (Ju hM)
theorem Jlf (C:Ctx X G N nm) (hi:N[i]? = some x) (hx:locB nm x = true) (hM:i ∉ M) (hj:N[j]? = some y) (hy:locB nm y = true) (hM2:j ∉ M):PG X (.Tuple [.Name x p1,.Name y p2] k pos) (gS X M H0 [i,j] 2):=by
 obtain ⟨h1,h2⟩:=C.sto x hx
 obtain ⟨h3,h4⟩:=C.sto y hy
 intro pins s σ H v u Q I r ⟨env,d,new,e,rd,hb,h⟩
 refine JfE (pos:=pos) C.calm (JA (Jx (i:=i) (pos:=p1) (by rw [C.hN]; exact C.nd) (by rw [C.hN]; exact hi) h1 h2) (JA (Jx (i:=j) (pos:=p2) (by rw [C.hN]; exact C.nd) (by rw [C.hN]; exact hj) h3 h4) JcY)) rfl rfl pins s σ H v u Q I r ?_
 unfold bindT at hb
 rw [if_neg (by decide)] at hb
 cases d with
 | tup ds=>
  dsimp only at hb
  split at hb
  ·rename_i hd
   cases hb
   obtain ⟨a,xs,rfl,hq,hr⟩:=rd
   match ds,hd with
   | [d0,d1],_=>
    obtain ⟨x0,r0,e0,k0,x1,r1,e1,k1,e2⟩:=hr
    subst e1; subst e2; subst e0
    exact ⟨a,[x0,x1],rfl,SqT.same hid_same hq,rfl,x0,[x1],rfl,x1,[],rfl,rfl,h _ ((e.put hM k0).put hM2 (by rw [Ju hM]; exact k1)) (by rw [show setAll [i,j] ([d0,d1].map some) env = (env.set i (some d0)).set j (some d1) from rfl,Ju hM2,Ju hM])⟩
  ·cases hb
 | _=>cases hb
theorem Jiw (C:Ctx X G N nm) (hi:N[i]? = some x) (hx:locB nm x = true) (hM:i ∉ M) (hj:N[j]? = some y) (hy:locB nm y = true) (hM2:j ∉ M) (hl:N[l]? = some z) (hz:locB nm z = true) (hM3:l ∉ M):PG X (.Tuple [.Name x p1,.Name y p2,.Name z p3] k pos) (gS X M H0 [i,j,l] 3):=by
 obtain ⟨h1,h2⟩:=C.sto x hx
 obtain ⟨h3,h4⟩:=C.sto y hy
 obtain ⟨h5,h6⟩:=C.sto z hz
 intro pins s σ H v u Q I r ⟨env,d,new,e,rd,hb,h⟩
 refine JfE (pos:=pos) C.calm (JA (Jx (i:=i) (pos:=p1) (by rw [C.hN]; exact C.nd) (by rw [C.hN]; exact hi) h1 h2) (JA (Jx (i:=j) (pos:=p2) (by rw [C.hN]; exact C.nd) (by rw [C.hN]; exact hj) h3 h4) (JA (Jx (i:=l) (pos:=p3) (by rw [C.hN]; exact C.nd) (by rw [C.hN]; exact hl) h5 h6) JcY))) rfl rfl pins s σ H v u Q I r ?_
 unfold bindT at hb
 rw [if_neg (by decide)] at hb
 cases d with
 | tup ds=>
  dsimp only at hb
  split at hb
  ·rename_i hd
   cases hb
   obtain ⟨a,xs,rfl,hq,hr⟩:=rd
   match ds,hd with
   | [d0,d1,d2],_=>
    obtain ⟨x0,r0,e0,k0,x1,r1,e1,k1,x2,r2,e2,k2,e3⟩:=hr
    subst e3; subst e2; subst e1; subst e0
    exact ⟨a,[x0,x1,x2],rfl,SqT.same hid_same hq,rfl,x0,[x1,x2],rfl,x1,[x2],rfl,x2,[],rfl,rfl,h _ (((e.put hM k0).put hM2 (by rw [Ju hM]; exact k1)).put hM3 (by rw [Ju hM2,Ju hM]; exact k2))
     (by rw [show setAll [i,j,l] ([d0,d1,d2].map some) env = ((env.set i (some d0)).set j (some d1)).set l (some d2) from rfl,Ju hM3,Ju hM2,Ju hM])⟩
  ·cases hb
 | _=>cases hb
theorem JhJ {body:Sx} {ts:List Nat} {nt:Nat} {D:Ends} {σ:L2.St} {H H1:Hp} {env:Fm} {ds:List Pu.D} {J:It} (e:EnvOk X.K M H0 H1 σ env) (s1:Same H H1)
  (wk:∀ L' H',Chg (mutS body) (Ow M env σ) H1 L' H' -> Ows L' H' -> (∀ i,i < ds.length -> J.go i H') /\ J.stop ds.length H' /\ ∀ i x H'',i < ds.length -> J.yld i H' x H'' -> Same H' H'' /\ ∃ d,ds[i]? = some d /\ Rep X.K (hid L' H'') d x)
  (h:(forL ts nt (exD call body) ds env).Good (OutS X M H0 (Ow M env σ) H (mutS body) D) (XW X H0)) :
  ∃ W:Nat -> Nat -> L2.St -> Hp -> Prop,(∃ m,W 0 m σ H1) /\ ∀ i m σ H,W i m σ H -> (J.stop i H /\ D.nx σ H) \/ (J.go i H /\ ∃ Nn:L2.St -> Hp -> Prop,(∀ σ' H',Nn σ' H' -> ∃ m',m' < m /\ W (i + 1) m' σ' H') /\
   ∀ x H',J.yld i H x H' -> gS X M H0 ts nt x σ H' fun σ2 H2=>tS X call M H0 body { D with nx:=Nn,ct:=Nn,bk:=D.nx } σ2 H2):=by
 refine ⟨fun i m σ' H'=>∃ env',EnvOk X.K M H0 H' σ' env' /\ Chg (mutS body) (Ow M env σ) H1 (Ow M env' σ') H' /\ i <= ds.length /\ m = ds.length - i /\ (forL ts nt (exD call body) (ds.drop i) env').Good (OutS X M H0 (Ow M env σ) H (mutS body) D) (XW X H0),
  ⟨ds.length,env,e,Chg.of (Same.refl _),Nat.zero_le _,rfl,by simpa using h⟩,?_⟩
 rintro i m σ' H' ⟨env',e',c',hi,rfl,hg⟩
 obtain ⟨w1,w2,w3⟩:=wk _ H' c' e'.ows
 have cH:∀ {L':List Addr} {Hz:Hp},Chg (mutS body) (Ow M env σ) H1 L' Hz -> Chg (mutS body) (Ow M env σ) H L' Hz:=fun z=>((Chg.of (m:=false) s1).trans z).weak fun q=>by rw [q]; rfl
 by_cases hlt:i < ds.length
 ·refine .inr ⟨w1 i hlt,fun σ2 H2=>∃ m',m' < ds.length - i /\ ∃ env',EnvOk X.K M H0 H2 σ2 env' /\ Chg (mutS body) (Ow M env σ) H1 (Ow M env' σ2) H2 /\ i + 1 <= ds.length /\ m' = ds.length - (i + 1) /\ (forL ts nt (exD call body) (ds.drop (i + 1)) env').Good (OutS X M H0 (Ow M env σ) H (mutS body) D) (XW X H0),fun σ2 H2 q=>q,fun x H2 hy=>?_⟩
  obtain ⟨s2,d,hd,rd⟩:=w3 i x H2 hlt hy
  rw [Jcb hd] at hg
  simp only [forL] at hg
  replace hg:=Rs.good_bind.mp hg
  cases hb:bindT nt d with
  | stuck=>rw [hb] at hg; exact hg.elim
  | ex c=>exact (Jek hb).elim
  | ok new=>
   rw [hb] at hg
   refine ⟨env',d,new,e'.grow s2,rd,hb,fun σ3 e3 ow3=>⟨setAll ts new env',e3,(Rs.good_bind.mp hg).imp fun r hr=>?_⟩⟩
   have c2:Chg (mutS body) (Ow M env σ) H1 (Ow M env' σ') H2:=(c'.trans (n:=false) (Chg.of s2)).weak fun q=>by rw [q]; rfl
   have cc:∀ {L':List Addr} {Hz:Hp},Chg (mutS body) (Ow M (setAll ts new env') σ3) H2 L' Hz -> Chg (mutS body) (Ow M env σ) H1 L' Hz:=fun z=>by
    rw [ow3] at z
    exact (c2.trans z).weak fun q=>by rw [q]; rfl
   obtain ⟨f,env4⟩:=r
   cases f with
   | nx=>exact fun σ4 H4 e4 c4=>⟨_,by omega,env4,e4,cc c4,by omega,rfl,hr⟩
   | ct=>exact fun σ4 H4 e4 c4=>⟨_,by omega,env4,e4,cc c4,by omega,rfl,hr⟩
   | bk=>exact fun σ4 H4 e4 c4=>hr σ4 H4 e4 (cH (cc c4))
   | rt d=>exact hr
 ·have he:i = ds.length:=by omega
  subst he
  rw [List.drop_length] at hg
  exact .inl ⟨w2,hg σ' H' e' (cH c')⟩
variable {tg iter:Expr} {body:List Stmt} {src:Px} {sb:Sx} {ts:List Nat} {nt:Nat}
theorem Jlc (C:Ctx X G N nm) (hp:PassesOwn (model X.prog X.w) X.A X.env X.xe) (hi:PI X tg iter (tW X call src)) (hg:PG X tg (gS X M H0 ts nt)) (hb:PSs X body (tS X call M H0 sb)) (hsp:sepP M src = true)
  (hs:∀ x,foldedSetIterable iter X.env x = pure x:=by intro _; rfl):PS X (.For tg iter body [] pos) (tS X call M H0 (.loop false ts nt src sb)):=by
 refine PS.weak (Jln hp C.calm (Jlx hi) hg hb hs) fun D σ H ⟨env,e,h⟩=>⟨blankD M 0 env,Ow M env σ,e.ows,e.readHid,?_⟩
 simp only [exD] at h
 rw [JZ call env hsp]
 refine (Rs.good_bind.mp h).mono (fun d hd=>?_) fun c z=>z.mono e.same0
 cases d with
 | lst ds=>
  simp only [Pu.D.asL,Rs.bind_ok,Bool.false_and,Bool.false_eq_true,if_false] at hd
  refine ⟨ds,rfl,fun J H' s1 kk w ok=>JhJ (call:=call) (e.grow s1) s1 (fun L' Hz q ow=>?_) hd⟩
  have sh:Same (hid (Ow M env σ) H') (hid L' Hz):=q.1.hid
  obtain ⟨a1,a2,a3⟩:=w Hz (sh.trans hid_same)
  refine ⟨a1,a2,fun i x H'' hi hy=>⟨(a3 i x H'' hi hy).1,?_⟩⟩
  have hy':=ok L' i Hz x H'' ow hy
  exact ((w _ sh).2.2 i x _ hi hy').2
 | _=>exact hd.elim
end
end Rd
namespace Rd
open PySem PySem.Spec PyProof.Rows L2 Pu
def spI (K:PySem.W.Frag) (mg:Str -> Option Value) (call:CallD) (fi:Nat):Sp:=fun vs H Q E=>∃ ds,Reps K H ds vs /\ (call fi ds).Good (fun d=>∀ v H',Same H H' -> Rep K H' d v -> Q v H') (fun c=>∀ C H',mg c = some (.ref C) -> Same H H' -> E (.ref C) none H')
theorem Room.out {k:Nat} {A:Around} (r:Room k A.in1.in1):Room k A:=⟨r.hd,r.dp,by have:=r.un; simp only [Around.in1] at this; omega⟩
structure Callee (G:Gw) (call:CallD) (fi:Nat) (x:Str):Prop where
 ex:∃ (kk:Nat) (f:Addr) (fd:FuncData) (ps:List Str),FnOk G.prog G.w G.K G.mg G.base (CXr G.prog G.w) kk f fd ps (spI G.K G.mg call fi) /\ Room kk G.A.in1.in1 /\ G.mg x = some (.ref f) /\ PySem.W.keepIn G.K (.ref f) = true /\ Binds G.K fd ps []
section
variable {X:Cx} {call:CallD} {G:Gw} {N:List Str} {nm:List (Str × NameKind)} {e:Expr} {es:List Expr} {p:Px} {pos p1:Pos} {x:Str} {fi:Nat}
theorem Jkf (C:Ctx X G N nm) (hc:Callee G call fi x) (hg:gloB nm x = true) (hdb:(x == ("__debug__" : Str)) = false) (ha:PA X (e :: es) (tA X call p)) (he:starEach (e :: es) X.env = (false,eval e X.env) :: starEach es X.env:=by rfl)
  (hpl:(backTo pos (starEach es X.env)).any (·.1) = false:=by rfl):PE X (.Call (.Name x p1) (e :: es) [] pos) (tI X call (.call fi p)):=by
 obtain ⟨kk,f,fd,ps,F,hr,hm,hk,hb⟩:=hc.ex
 have hr:=Room.out hr
 have hG:=C.g
 subst hG
 have hp:Passes (CXr X.prog X.w) X (fun cls _ H'=>∀ C,cls = .ref C -> XE X C H'):=fun pins σ H s e s' I hc=>by
  obtain ⟨a,C,H',rfl,F,hE⟩:=Jec I hc
  exact hE C rfl a s' F
 refine PE.weak (JjZ F hr (C.glo x hg) hm hk hb .nil hp ha hdb he hpl) fun σ H Q ⟨env,r,h⟩=>⟨env,r,?_⟩
 simp only [evD] at h
 refine (Rs.good_bind.mp h).imp fun d hd=>?_
 cases d with
 | lst ds=>
  simp only [D.asL,Rs.bind_ok] at hd
  refine ⟨ds,rfl,fun vs H' s rs=>?_⟩
  show spI X.K X.mg call fi (vs ++ []) H' Q _
  rw [List.append_nil]
  exact ⟨ds,rs,hd.mono (fun d o v H2 s2 rv=>o v H2 (s.trans s2) rv) fun c z C H2 hm2 s2 C' e=>by cases e; exact z C H2 hm2 (s.trans s2)⟩
 | _=>exact hd.elim
end
theorem JcJ {n:Nat} {ds:List D} {i:Nat} {d:D} (h:(startD n ds)[i]? = some (some d)):ds[i]? = some d:=by
 unfold startD at h
 by_cases hi:i < ds.length
 ·rw [List.getElem?_append_left (by simpa using hi),List.getElem?_map] at h
  cases q:ds[i]? with
  | none=>rw [q] at h; cases h
  | some d'=>rw [q] at h; cases h; rfl
 ·rw [List.getElem?_append_right (by simpa using hi),List.getElem?_replicate] at h
  split at h <;> cases h
section
variable {P:Program} {w:World} {K:PySem.W.Frag} {mg:Str -> Option Value} {base:Heap} {defs:List DefD} {fi k:Nat} {d:DefD}
theorem Jfp {H:Hp} {N:List Str} {ds:List D} {vs:List V} {M:List Nat} (hs:d.slots = N.length) (hl:ds.length <= N.length) (hM:∀ i ∈ M,ds.length <= i) (r:Reps K H ds vs):EnvOk K M H H (L2.start N vs) (startD d.slots ds):=by
 have l:=r.length
 have get:∀ (i:Nat) (dd:D),(startD d.slots ds)[i]? = some (some dd) -> ∃ v,(L2.start N vs)[i]? = some (some v) /\ Rep K H dd v:=fun i dd h=>by
  have h':=JcJ h
  obtain ⟨v,h1,h2⟩:=r.get h'
  refine ⟨v,?_,h2⟩
  have hi:i < vs.length:=(List.getElem?_eq_some_iff.mp h1).1
  unfold L2.start
  rw [List.getElem?_append_left (by simpa using hi),List.getElem?_map,h1]
  rfl
 have no:∀ (i:Nat) (dd:D),i ∈ M -> (startD d.slots ds)[i]? = some (some dd) -> False:=fun i dd hi h=>by
  have h':=JcJ h
  have:=(List.getElem?_eq_some_iff.mp h').1
  have:=hM i hi
  omega
 have ow:Ow M (startD d.slots ds) (L2.start N vs) = []:=by
  cases q:Ow M (startD d.slots ds) (L2.start N vs) with
  | nil=>rfl
  | cons b t=>
   obtain ⟨i,hi,dd,h1,_⟩:=mem_Ow.mp (show b ∈ Ow M (startD d.slots ds) (L2.start N vs) by rw [q]; simp)
   exact (no i dd hi h1).elim
 refine ⟨Same.refl H,?_,fun i dd _ h=>by rw [ow,Jky]; exact get i dd h,fun i dd hi h=>(no i dd hi h).elim,fun i j l d1 d2 hi _ _ h=>(no i d1 hi h).elim⟩
 unfold L2.start startD
 rw [List.length_append,List.length_append,List.length_map,List.length_map,List.length_replicate,List.length_replicate,hs,l]
structure HX (X:Cx) (nm:List (Str × NameKind)):Prop where
 sc:X.env.scope.names = nm
 pass:PassesOwn (model X.prog X.w) X.A X.env X.xe
 stk:X.stack = X.env :: X.outer
 frm:X.env.frame = some X.env.locals
 ex:X.ex = []
theorem fn_ok {j:Nat} {x qual:Str} {st:Stmt} {f:Addr} {fd:FuncData} {N ps:List Str} {M:List Nat} (F:Fun K x qual st f fd) (S:FnScope N ps (defScope st)) (hd:defs[fi]? = some d) (hs:d.slots = N.length) (hp:d.params = ps.length) (hM:∀ i ∈ M,ps.length <= i) (hpN:ps.length <= N.length)
  (hbody:∀ (X:Cx) (A:Around) (H0:Hp),Ctx X ⟨P,w,K,mg,base,A⟩ N (defScope st).names -> Room j A -> HX X (defScope st).names -> PSs X (defBody st) (tS X (runD defs k) M H0 d.body)) :
  FnOk P w K mg base (CXr P w) (j + 1) f fd ps (spI K mg (runD defs (k + 1)) fi):=by
 have unf:∀ ds,runD defs (k + 1) fi ds = if ds.length = d.params then answerD (exD (runD defs k) d.body (startD d.slots ds)) else .stuck:=fun ds=>by
  simp only [runD,hd]
 obtain ⟨oc,od,kV,doc,pm,an,cdv,ct,osl,rfl,lk,hcd⟩:=F.ex
 refine fn_of lk hcd S (fun vs H Q E h=>?_) (fun A outer s H vs Q E hr h=>?_)
 ·obtain ⟨ds,r,g⟩:=h
  rw [unf] at g
  split at g
  ·rename_i q
   rw [r.length,q,hp]
  ·exact g.elim
 ·obtain ⟨ds,r,g⟩:=h
  rw [unf] at g
  split at g
  ·rename_i q
   have C:Ctx (cxOf (CXr P w) P w K mg base N qual (defScope st) f cdv A outer s H E) ⟨P,w,K,mg,base,A.deeper (envOfC qual (defScope st) s.heap.objs.size f cdv)⟩ N (defScope st).names:={
    g:=rfl
    hN:=rfl
    nd:=S.nd
    vis:=fun y hy=>by
     show Vis (defScope st) y
     unfold visB at hy
     split at hy
     ·rename_i z; exact .inl z
     ·rename_i z; exact .inr (.inl z)
     ·rename_i z; exact .inr (.inr z)
     ·cases hy
    cel:=fun y hy=>by
     show (defScope st).names.lookup y = some .cell \/ (defScope st).names.lookup y = some .free
     unfold celB at hy
     split at hy
     ·rename_i z; exact .inl z
     ·rename_i z; exact .inr z
     ·cases hy
    glo:=fun y hy=>by
     show (defScope st).names.lookup y = some .globalImplicit
     unfold gloB at hy
     split at hy
     ·rename_i z; exact z
     ·cases hy
    sto:=fun y hy=>by
     show Loc (defScope st) y /\ (true = true \/ _)
     unfold locB at hy
     split at hy
     ·rename_i z; exact ⟨.inl z,.inl rfl⟩
     ·rename_i z; exact ⟨.inr z,.inl rfl⟩
     ·cases hy
    calm:=rfl
    un:=hr.units }
   refine ⟨_,hbody _ _ H C hr ⟨rfl,PassesOwn.leaving,rfl,rfl,rfl⟩,startD d.slots ds,Jfp hs (by omega) (fun i hi=>by have:=hM i hi; omega) r,?_⟩
   cases q2:exD (runD defs k) d.body (startD d.slots ds) with
   | ok r2=>
    rw [q2] at g
    obtain ⟨fl,env2⟩:=r2
    cases fl with
    | nx=>exact fun σ' H' e' _=>g .non H' e'.same rfl
    | rt dd=>exact fun v H' s' r'=>g v H' s' r'
    | bk=>exact g.elim
    | ct=>exact g.elim
   | ex c=>
    rw [q2] at g
    exact fun C2 H2 hm s2 a s' F=>JiJ F (g C2 H2 hm s2)
   | stuck=>rw [q2] at g; exact g.elim
  ·exact g.elim
theorem JjT {f:Addr} {fd:FuncData} {ps:List Str}:FnOk P w K mg base (CXr P w) 0 f fd ps (spI K mg (runD defs 0) fi):=
 ⟨fun vs H Q E ⟨_,_,h⟩=>h.elim,fun A outer s H args us vs Q E _ _ _ _ ⟨_,_,h⟩=>h.elim⟩
end
section
variable {X:Cx} {call:CallD} {M:List Nat} {H0:Hp} {e:Expr} {p:Px} {pos:Pos} {G:Gw} {N:List Str} {nm:List (Str × NameKind)} {x:Str} {i:Nat} {px:Pos}
open PySem.AutoSeq1 in
theorem Jey (t:Bool) (l:Addr) (items:Array Value) (n:Nat) (b:Addr) (items2:Array Value) (hs0:¬(!items.isEmpty && Builtin.List.listTooLong (items.size + items2.size)) = true) (hs1:items.size <= sizeLine) (hs2:items.size + items2.size <= sizeLine + 1) :
  Meets (Builtin.«list.extend» ⟨[.ref l,.ref b],[]⟩) (fun _ R s=>s.heap.get? l = some { cls:=.type "list",dict:=none,data:=.seq items n,slots:=#[] } /\ (∃ dd n2 sl,s.heap.get? b = some { cls:=.type (if t then "tuple" else "list"),dict:=dd,data:=.seq items2 n2,slots:=sl }) /\ R (.ok (.ret Value.none)) { s with heap:=s.heap.update l (Obj.mapSeq fun x=>x ++ items2),toks:=s.toks }):=
 .of_wp fun prog w A R s h=>by
  obtain ⟨hp,g,d,tk,os⟩:=s; obtain ⟨hl,⟨dd,n2,sl,hb⟩,h⟩:=h; have f1:=AutoSeq1.idx_int; have f2:=AutoSeq1.sub_tuple_tuple; have f3:=AutoSeq1.sub_list_list; have f4:=AutoSeq1.sub_tuple_list; have f5:=AutoSeq1.sub_list_tuple
  have hz':(items ++ items2).size <= sizeLine + 1:=by rw [Array.size_append]; exact hs2
  cases t with
  | true=>
   simp only [if_true] at hb
   wp_walk using (wpAny_updateSeq hl rfl (hz:=hs1) (_hz':=hz')),wpAny_loadPart' hl,wpAny_loadPart' hb; exact ⟨_,rfl,h⟩
  | false=>
   simp only [Bool.false_eq_true,if_false] at hb
   wp_walk using (wpAny_updateSeq hl rfl (hz:=hs1) (_hz':=hz')),wpAny_loadPart' hl,wpAny_loadPart' hb; exact ⟨_,rfl,h⟩
def rExtS (K:PySem.W.Frag):V -> List V -> Hp -> VK -> Prop:=fun x vs H Q=>∃ l b xs zs,x = .ref l /\ vs = [.ref b] /\ H l = some (.lst xs) /\ (SqL K H b zs \/ SqT K H b zs) /\ xs.length + zs.length <= sizeLine /\ Q .non (upd H l (.lst (xs ++ zs)))
theorem JjL:MtM X "list.extend" (rExtS X.K):=by
 intro pins s σ H x vs v us Q I rx rv h
 obtain ⟨l,b,xs,zs,rfl,rfl,hH,hB,hz,q⟩:=h
 cases rx
 obtain ⟨u,rfl,ru⟩:=rv.one
 cases ru
 obtain ⟨z,its,n,r,hl,e⟩:=I.lstM hH
 obtain ⟨t,its2,r2,hb⟩:∃ (t:Bool) (its2:List Value),Vals zs its2 /\ ∃ dd n2 sl,s.heap.get? b = some { cls:=.type (if t then "tuple" else "list"),dict:=dd,data:=.seq its2.toArray n2,slots:=sl }:=by
  rcases hB with h | h
  ·obtain ⟨its2,r2,⟨o,n2,e2,c2,d2,k2⟩,_⟩:=I.list h
   obtain ⟨c,dd,da,sl⟩:=o
   simp only at c2 k2
   subst c2; subst k2
   exact ⟨false,its2,r2,dd,n2,sl,e2⟩
  ·obtain ⟨its2,r2,⟨o,e2,c2,n2,k2⟩,_⟩:=I.tuple h
   obtain ⟨c,dd,da,sl⟩:=o
   simp only at c2 k2
   subst c2; subst k2
   exact ⟨true,its2,r2,dd,n2,sl,e2⟩
 have hl2:=r2.length
 have hsz:its.toArray.size + its2.toArray.size <= sizeLine:=by rw [List.size_toArray,List.size_toArray]; omega
 have hlong:¬ (!its.toArray.isEmpty && Builtin.List.listTooLong (its.toArray.size + its2.toArray.size)) = true:=by
  rw [Jhr hsz,Bool.and_false]
  exact Bool.false_ne_true
 refine call_meets F.slot_list_extend ⟨_,e,rfl⟩ F.entry_list_extend (F.args_list_extend_2 _ _)
  (Jey t l its.toArray n b its2.toArray hlong (by rw [List.size_toArray]; omega) (by omega)) ⟨e,hb,?_⟩
 refine ⟨.non,_,I.lset (its':=its ++ its2) hH e (by simp) (r.append r2) ?_,rfl,q⟩
 rw [List.length_append]
 omega
theorem JhL {m:Bool} (hM:i ∈ M) {D:Ends} {σ:L2.St} {H:Hp} (h:tS X call M H0 (.ext m i p) D σ H) :
  ∃ env l xs,EnvOk X.K M H0 H σ env /\ σ[i]? = some (some (.ref l)) /\ H l = some (.lst xs) /\ (evD call p env).Good (fun d=>∃ es,d = .lst es /\ (m = true -> imms es = true) /\ ∀ zs H1,Same H H1 -> Reps X.K (hid (Ow M env σ) H1) es zs -> ∃ ys,H1 l = some (.lst ys) /\ ys.length + zs.length <= sizeLine /\ D.nx σ (upd H1 l (.lst (ys ++ zs)))) (XW X H0):=by
 obtain ⟨env,e,h⟩:=h
 simp only [exD] at h
 cases q:env[i]? with
 | none=>rw [q] at h; exact h.elim
 | some o=>
  rw [q] at h
  cases o with
  | none=>exact h.elim
  | some d=>
   cases d with
   | lst ds=>
    obtain ⟨l,hσ,h0,xs,hl,hr⟩:=e.own i _ hM q
    refine ⟨env,l,xs,e,hσ,hl,(Rs.good_bind.mp h).imp fun d hd=>?_⟩
    cases d with
    | lst es=>
     simp only [Pu.D.asL,Rs.bind_ok] at hd
     split at hd
     ·exact hd.elim
     ·rename_i hz
      simp only [Bool.or_eq_true,not_or,Bool.not_eq_true,Bool.and_eq_false_iff] at hz
      have hz2:ds.length + es.length <= lineD:=by simpa using hz.2
      refine ⟨es,rfl,fun hm=>?_,fun zs H1 s1 r1=>⟨xs,s1 _ _ hl,by rw [hr.length,r1.length,sizeLine_eq]; exact hz2,?_⟩⟩
      ·rcases hz.1 with z | z
       ·rw [hm] at z; cases z
       ·simpa using z
      ·obtain ⟨e2,f2⟩:=(e.grow s1).change (d':=.lst (ds ++ es)) (o:=.lst (xs ++ zs)) hM q hσ ⟨_,Ji,(hr.mono (Fz.sm s1).hid).append r1⟩
       exact hd σ _ e2 ⟨(Fz.sm s1).trans f2,fun z=>by cases z⟩
    | _=>exact hd.elim
   | _=>exact h.elim
theorem JmB {apos:Pos} (C:Ctx X G N nm) (hi:N[i]? = some x) (hx:visB nm x = true) (hd1:(x == ("__debug__" : Str)) = false) (hd2:(x == ("__classdict__" : Str)) = false) (hM:i ∈ M) (hsp:sepP M p = true) (he:PE X e (tI X call p))
  (hl:(apos.endLine == pos.line) = true) {pos':Pos} (hs:starEach [e] X.env = (false,eval e X.env) :: starEach [] X.env:=by rfl):PS X (.Expr (.Call (.Attribute (.Name x px) "extend" apos) [e] [] pos) pos') (tS X call M H0 (.ext false i (.walk (.un .rows p)))):=by
 refine PS.weak (JfY (JiK PySem.F.plainAttrs_list PySem.F.slot_list_extend PySem.F.type_list_extend JjL (JdG (by rw [C.hN]; exact hi) (C.vis x hx) hd1 hd2) (JD (JfF he) JaD hs) rfl (by rw [hs]; rfl) hl hs rfl) rfl) fun D σ H h=>?_
 obtain ⟨env,l,xs,e,hσ,hl,g⟩:=JhL hM h
 simp only [evD,Rs.bind_assoc] at g
 refine ⟨.ref l,hσ,.inl ⟨rfl,xs,SqL.of hl⟩,blankD M 0 env,Ow M env σ,e.ows,e.readHid,?_⟩
 rw [JZ call env hsp]
 refine (Rs.good_bind.mp g).mono (fun d hd v H1 s1 kk r1=>?_) fun c z=>z.mono e.same0
 simp only [tNil]
 cases d with
 | tup es=>
  obtain ⟨es',e1,_,hd⟩:=hd
  cases e1
  obtain ⟨b,zs,rfl,q1,q2⟩:=r1
  obtain ⟨ys,g1,g2,g3⟩:=hd zs H1 s1 q2
  exact ⟨l,b,ys,zs,rfl,rfl,g1,.inr (SqT.same hid_same q1),g2,g3⟩
 | lst es=>
  obtain ⟨es',e1,_,hd⟩:=hd
  cases e1
  obtain ⟨b,zs,rfl,q1,q2⟩:=r1
  obtain ⟨ys,g1,g2,g3⟩:=hd zs H1 s1 q2
  exact ⟨l,b,ys,zs,rfl,rfl,g1,.inl (hid_same.seq q1),g2,g3⟩
 | _=>exact (show False from hd).elim
end
end Rd
namespace Rd
open PySem PySem.Spec PyProof.Rows L2 Pu
section
variable {X:Cx} {call:CallD} {a b:Expr} {pa pb:Px} {pos p1 p2:Pos} {G:Gw} {N:List Str} {nm:List (Str × NameKind)}
theorem JgM:MtR X "str.startswith" (fun x xs H Q=>∃ y,xs = [y] /\ rD2 X .starts x y H Q):=by
 intro pins s σ H x xs v us Q I rx rv ⟨y,e,dx,dy,r1,r2,h⟩
 subst e
 obtain ⟨u,rfl,ru⟩:=Jaz rv
 cases dx <;> cases dy <;> first
  | exact (show False from h).elim
  | skip
 rename_i z w
 have e1:x = V.str z:=r1
 have e2:y = V.str w:=r2
 subst e1; subst e2
 obtain ⟨t,rfl⟩:=rx
 obtain ⟨t',rfl⟩:=ru
 refine call_meets F.slot_str_startswith (typeIs_str _ _ _) F.entry_str_startswith (F.args_str_startswith_2 _ _) (gives_str_startswith z w t t').meets ?_
 exact ⟨.bl _,H,I,rfl,Out.now h rfl⟩
theorem JfR {apos:Pos} {dc:D} (ha:PE X a (tI X call pa)) (hb:PE X b (tI X call (.con dc))) (hstr:True) (hl:(apos.endLine == pos.line) = true) (hbase:attributeBase a "startswith" X.env (eval a X.env) = eval a X.env:=by rfl)
  (hs:starEach [b] X.env = (false,eval b X.env) :: starEach [] X.env:=by rfl):PE X (.Call (.Attribute a "startswith" apos) [b] [] pos) (tI X call (.bi .starts pa (.con dc))):=by
 refine PE.weak (JiK F.plainAttrs_str F.slot_str_startswith F.type_str_startswith JgM ha (JD hb JaD hs) hbase (by rw [hs]; rfl) hl hs rfl) fun σ H Q h=>?_
 obtain ⟨env,r,h⟩:=h
 simp only [evD] at h
 refine tI.then r h fun dx x H1 s1 r1 q1 h1=>?_
 simp only [Rs.bind_ok] at h1
 have ty:∃ z,dx = .str z:=by
  cases dx <;> cases dc <;> first | exact (show False from h1).elim | exact ⟨_,rfl⟩
 obtain ⟨z,rfl⟩:=ty
 refine ⟨by rw [show x = V.str z from r1]; rfl,env,q1,?_⟩
 intro y H2 s2 r2
 exact ⟨y,rfl,.str z,dc,r1.mono s2,r2,h1.mono (fun _ o=>o.mono s2) fun _ q=>q.mono s2⟩
end
example (K:PySem.W.Frag):PySem.W.kitOne K (.type "str") (.type "tuple") = some false:=by
 first | rfl | decide | (unfold PySem.W.kitOne PySem.W.kitCls; simp)
end Rd
namespace Rd
open PySem PySem.Spec PyProof.Rows L2 Pu
section
variable {X:Cx} {call:CallD} {a b:Expr} {pa pb:Px} {pos p1 p2:Pos} {G:Gw} {N:List Str} {nm:List (Str × NameKind)}
theorem globT {K:PySem.W.Frag} {a:Addr} {y:Str} (hy:PySem.W.nsIn K mainGlobals y = some (some (.ref a))) {its:List Value} {n:Nat} {sl:Array (Option Value)} {ds:List D} {xs:List V} (v:K.lookup a = some ⟨.type "tuple",none,.seq its.toArray n,sl⟩) (hz:its.length <= 1000) (r:Vals xs its) (rs:∀ H,Reps K H ds xs) (H:Hp):Rep K H (.tup ds) (.ref a):=
 ⟨a,xs,rfl,.inr ⟨y,_,its.toArray,n,hy,v,rfl,rfl,rfl,Jas (Nat.le_trans (by simpa using hz) (by decide)),by simpa using r⟩,rs H⟩
variable {M:List Nat} {H0:Hp}
end
end Rd
namespace Rd
open PySem PySem.Spec PyProof.Rows L2 Pu
section
variable {prog:Program} {w:World}
def keysAre (es:List (Int × Value)):List Str:=es.map fun e=>strOf e.2
def TS (prog:Program) (w:World) (lb:Bool) (h:Heap) (a:Addr) (ks:List Str):Prop:=
 ∃ o es ep t,(h.get? a = some o /\ o.ExactSet /\ o.data = .set es ep t) /\ ElemsOf (PySem.strKind prog w) es.toList /\ (t.fits es.size = true /\ es.size < scanBound) /\ t.led = lb /\ (es.size ≠ 0 -> t.plain = false) /\ (keysAre es.toList).Perm ks /\ ks.Nodup
theorem TS.stay {lb:Bool} {h h':Heap} {a:Addr} {ks:List Str} (x:TS prog w lb h a ks) (k:∀ o,h.get? a = some o -> h'.get? a = some o):TS prog w lb h' a ks:=
 let ⟨o,es,ep,t,⟨e,r1⟩,r2⟩:=x
 ⟨o,es,ep,t,⟨k o e,r1⟩,r2⟩
theorem TS.there {lb:Bool} {h:Heap} {a:Addr} {ks:List Str} (x:TS prog w lb h a ks):∃ o,h.get? a = some o:=let ⟨o,_,_,_,⟨e,_⟩,_⟩:=x; ⟨o,e⟩
theorem Jgn (t:SetTable) (n:Nat):(t.orStandIn n).led = t.led:=by
 unfold SetTable.orStandIn
 split <;> rfl
theorem JjC (t:SetTable) (es:Array (Int × Value)) (h:Int) (x:Value):(layNew t es h x).2.1.led = t.led:=by
 unfold layNew
 split
 ·exact Jgn ..
 ·rfl
theorem JgL (t:SetTable) (es:Array (Int × Value)) (n:Nat):(relayAll t es n).2.1.led = t.led /\ (t.plain = false -> (relayAll t es n).2.1.plain = false):=by
 unfold relayAll
 split
 ·rename_i t' order q
  have e:t'.led = t.led /\ t'.plain = t.plain:=by
   unfold SetTable.relaid SetTable.laid at q
   cases hq:SetTable.layClean (SetTable.sizeAbove n - 1) (es.map (·.1)) with
   | none=>rw [hq] at q; cases q
   | some ow=>rw [hq] at q; cases q; exact ⟨rfl,rfl⟩
  dsimp only
  split
  ·exact ⟨e.1,fun z=>e.2.trans z⟩
  ·exact ⟨rfl,fun _=>rfl⟩
 ·exact ⟨rfl,fun _=>rfl⟩
theorem Jfy {k:Str} {v:Value} (h:(PySem.strKind prog w).is k v = true):∃ t,v = .str k t:=Value.isStrOf_shape h
theorem key_of {es:List (Int × Value)} (h:ElemsOf (PySem.strKind prog w) es) (k:Str):k ∈ keysAre es ↔ ∃ e ∈ es,(PySem.strKind prog w).is k e.2 = true:=by
 unfold keysAre
 rw [List.mem_map]
 constructor
 ·rintro ⟨e,he,rfl⟩
  obtain ⟨⟨k',hk,_⟩,_⟩:=h e he
  obtain ⟨t,q⟩:=Jfy hk
  refine ⟨e,he,?_⟩
  rw [q] at hk ⊢
  exact hk
 ·rintro ⟨e,he,hk⟩
  obtain ⟨t,q⟩:=Jfy hk
  exact ⟨e,he,by rw [q]; rfl⟩
end
section
variable {prog:Program} {w:World} {A:Around} {E:Value -> Shared -> Prop} {s:Shared}
theorem Jeo {lb:Bool} {a:Addr} {o:Obj} {es es':Array (Int × Value)} {ep:Nat} {t t':SetTable} {ks:List Str} (ho:s.heap.get? a = some o) (hx:o.ExactSet) (hd:o.data = .set es ep t)
  (h1:ElemsOf (PySem.strKind prog w) es'.toList) (h2:t'.fits es'.size = true) (h3:es'.size < scanBound) (h4:t'.led = lb) (h5:t'.plain = false) (h6:(keysAre es'.toList).Perm ks) (h7:ks.Nodup) :
  TS prog w lb (s.heap.update a (Obj.putSet es' t')) a ks /\ (s.heap.update a (Obj.putSet es' t')).get? a = some { o with data:=.set es' (ep + 1) t' }:=by
 have g:(s.heap.update a (Obj.putSet es' t')).get? a = some { o with data:=.set es' (ep + 1) t' }:=by
  have q:=Heap.get?_update_self (Obj.putSet es' t') ho (by rw [putSet_of es' t' hd]; rfl)
  rwa [putSet_of es' t' hd] at q
 exact ⟨⟨_,es',ep + 1,t',⟨g,hx,rfl⟩,h1,⟨h2,h3⟩,h4,fun _=>h5,h6,h7⟩,g⟩
theorem JgA {b:Bool} {Q:Unit -> Shared -> Prop} (h:Q () s):wpAny (model prog w) A (match b with | true=>rule "set.scan.the-table-gave-way" | false=>pure ()) Q E s:=by
 cases b
 ·exact wpAny_pure h
 ·exact wpAny_rule h
theorem Jmk {lb:Bool} {a:Addr} {ks:List Str} {x:Str} {tk:Tok} {Q:Bool -> Shared -> Prop} (hS:TS prog w lb s.heap a ks) (hb:ks.length + 1 < scanBound)
  (h:∀ b h',Heap.SameBut a s.heap h' -> TS prog w lb h' a (if x ∈ ks then ks else ks ++ [x]) -> Q b { s with heap:=h' }):wpAny (model prog w) A (setAddHashed a (.str x tk) (hashStr w x)) Q E s:=by
 obtain ⟨o,es,ep,t,⟨ho,hx,hd⟩,hel,⟨hf,hz⟩,hl,hp,hk,hn⟩:=hS
 have hlen:es.size = ks.length:=by
  have:=hk.length_eq
  simpa [keysAre] using this
 have hkey:(PySem.strKind prog w).is x (.str x tk) = true:=by simp [PySem.strKind,Value.isStrOf]
 have hmem:x ∈ ks ↔ ∃ e ∈ es.toList,(PySem.strKind prog w).is x e.2 = true:=(hk.mem_iff).symm.trans (key_of hel x)
 have hh:hashStr w x = (PySem.strKind prog w).hash x:=rfl
 rw [hh]
 unfold setAddHashed setAddHashedIn
 refine wpAny_holding (wpAny_bind (wpAny_setState_of ho hd hf ?_)); dsimp only
 rw [byScan_of rfl hz hel]; simp only [if_true]
 unfold setAddByScan
 refine wpAny_bind (wpAny_bind (wpAny_rule (wpAny_bind (wpAny_setScan_of hkey ho hd hf hel ?_))))
 cases hr:List.findIdx? (fun e=>(PySem.strKind prog w).is x e.2) es.toList with
 | some j=>
  dsimp only
  obtain ⟨hj,hpj,_⟩:=List.findIdx?_eq_some_iff_getElem.mp hr
  have hin:x ∈ ks:=hmem.mpr ⟨_,List.getElem_mem hj,hpj⟩
  refine wpAny_pure (wpAny_pure ?_)
  have q:=h false s.heap (Heap.SameBut.refl a s.heap) (by rw [if_pos hin]; exact ⟨o,es,ep,t,⟨ho,hx,hd⟩,hel,⟨hf,hz⟩,hl,hp,hk,hn⟩)
  cases s; exact q
 | none=>
  dsimp only
  have hin:¬ x ∈ ks:=fun z=>by
   obtain ⟨e,he,hp⟩:=hmem.mp z
   have:=List.findIdx?_eq_none_iff.mp hr e he
   rw [hp] at this
   cases this
  rw [if_neg hin] at h
  have a1:=layNew_perm t es ((PySem.strKind prog w).hash x) (.str x tk)
  have a2:=layNew_fits t es ((PySem.strKind prog w).hash x) (.str x tk)
  have a3:=JjC t es ((PySem.strKind prog w).hash x) (.str x tk)
  generalize layNew t es ((PySem.strKind prog w).hash x) (.str x tk) = L at a1 a2 a3 ⊢
  obtain ⟨es1,t1,wd,gv⟩:=L
  dsimp only at a1 a2 a3 ⊢
  rw [Array.toList_push] at a1
  have b1:ElemsOf (PySem.strKind prog w) es1.toList:=(hel.push hkey rfl).perm a1
  have b2:(keysAre es1.toList).Perm (ks ++ [x]):=by
   have c1:=a1.map fun e:Int × Value=>strOf e.2
   rw [List.map_append] at c1
   exact c1.trans (hk.append_right [x])
  have b3:(ks ++ [x]).Nodup:=by
   rw [List.nodup_append]
   refine ⟨hn,by simp,fun u hu v hv e=>?_⟩
   rw [List.mem_singleton] at hv
   subst hv e
   exact hin hu
  have b4:es1.size < scanBound:=by
   have:=b2.length_eq
   simp only [keysAre,List.length_map,Array.length_toList,List.length_append,List.length_singleton] at this
   omega
  refine wpAny_bind (JgA ?_)
  have tail:∀ t2:SetTable,t2.led = lb -> t2.plain = false -> t2.fits es1.size = true -> wpAny (model prog w) A (do
    storeSet a es1 t2
    if (!wd && t2.tooFull) = true then do
      (match (relayAll t2 es1 (SetTable.grown es1.size)).2.2 with | true=>rule "set.scan.the-table-gave-way" | false=>pure ())
      storeSet a (relayAll t2 es1 (SetTable.grown es1.size)).1 (relayAll t2 es1 (SetTable.grown es1.size)).2.1
      pure (some true)
     else pure (some true)) (fun r s'=>wpAny (model prog w) A (match r with
      | some added=>pure added
      | none=>setAddHashedIn a (.str x tk) ((PySem.strKind prog w).hash x) 99999) Q E s') E s:=by
   intro t2 c1 c2 c3
   refine wpAny_bind (wpAny_storeSet_of ho hd ?_ (fits_of_scanBound b4))
   obtain ⟨T1,g1⟩:=Jeo (s:=s) ho hx hd b1 c3 b4 c1 c2 b2 b3
   have u1:=Heap.SameBut.update s.heap a (Obj.putSet es1 t2)
   split
   ·have d1:=relayAll_perm t2 es1 (SetTable.grown es1.size)
    have d2:=relayAll_fits t2 es1 (SetTable.grown es1.size)
    have d3:=JgL t2 es1 (SetTable.grown es1.size)
    generalize relayAll t2 es1 (SetTable.grown es1.size) = R at d1 d2 d3 ⊢
    obtain ⟨es2,t3,gv2⟩:=R
    dsimp only at d1 d2 d3 ⊢
    refine wpAny_bind (JgA ?_)
    have z2:es2.size = es1.size:=by simpa using d1.length_eq
    refine wpAny_bind (wpAny_storeSet_of g1 rfl ?_ (fits_of_scanBound (by rw [z2]; exact b4)))
    obtain ⟨T2,_⟩:=Jeo (s:={ s with heap:=s.heap.update a (Obj.putSet es1 t2) }) g1 hx rfl (b1.perm d1) d2 (by rw [z2]; exact b4) (d3.1.trans c1) (d3.2 c2) ((d1.map _).trans b2) b3
    exact wpAny_pure (wpAny_pure (h true _ (u1.trans (Heap.SameBut.update _ a _)) T2))
   ·exact wpAny_pure (wpAny_pure (h true _ u1 T1))
  split
  ·refine wpAny_bind ?_
   rw [hashByValue_scannable 8 (x:=.str x tk) rfl]
   refine wpAny_pure ?_
   exact tail _ (a3.trans hl) rfl (SetTable.fits_plain_off a2)
  ·rename_i np
   refine wpAny_bind (wpAny_pure ?_)
   simp only [if_true]
   exact tail _ (a3.trans hl) (by simpa using np) a2
end
end Rd
namespace Rd
open PySem PySem.Spec PyProof.Rows L2 Pu
def addS (ks:List Str) (x:Str):List Str:=if x ∈ ks then ks else ks ++ [x]
def metS (ws:List Str):List Str:=ws.foldl addS []
theorem Jgr (ws:List Str) (x:Str):metS (ws ++ [x]) = addS (metS ws) x:=by unfold metS; rw [List.foldl_append]; rfl
theorem Jgi (val:Nat -> Str) (i:Nat):metS ((List.range (i + 1)).map val) = addS (metS ((List.range i).map val)) (val i):=by
 rw [List.range_succ,List.map_append]
 exact Jgr _ _
theorem JhN (ws:List Str):∀ (ks:List Str) (k:Str),k ∈ ws.foldl addS ks ↔ k ∈ ks \/ k ∈ ws:=by
 induction ws with
 | nil=>intro ks k; simp
 | cons x ws ih=>
  intro ks k
  rw [List.foldl_cons,ih]
  unfold addS
  split
  ·rename_i h
   constructor
   ·rintro (z | z) <;> simp [z]
   ·rintro (z | z)
    ·exact .inl z
    ·rcases List.mem_cons.mp z with rfl | z
     ·exact .inl h
     ·exact .inr z
  ·simp [or_assoc]
theorem JhO (ws:List Str) (k:Str):k ∈ metS ws ↔ k ∈ ws:=by rw [metS,JhN]; simp
theorem Jif (ws:List Str):∀ ks:List Str,(ws.foldl addS ks).length <= ks.length + ws.length:=by
 induction ws with
 | nil=>intro ks; simp
 | cons x ws ih=>
  intro ks
  rw [List.foldl_cons]
  have:=ih (addS ks x)
  have h1:(addS ks x).length <= ks.length + 1:=by
   unfold addS
   split <;> simp
  simp only [List.length_cons]
  omega
theorem Jea (ws:List Str):(metS ws).length <= ws.length:=by
 have:=Jif ws []
 simpa [metS] using this
section
variable {prog:Program} {w:World} {A:Around} {R:Result -> Shared -> Prop} {I:Addr} {fp wr:List Addr} {G:Array GenState -> Array GenState -> Prop} {n:Nat} {P:Nat -> Value -> Prop} {St:Nat -> Shared -> Prop} {lb:Bool}
theorem JjM (W:WalksS prog w A.in1 I fp wr G n P St) (S:Addr) (hSf:S ∉ fp) (val:Nat -> Str) (hval:∀ i v,P i v -> ∃ t,v = .str (val i) t) (hb:n + 1 < scanBound) :
  ∀ (k i:Nat) (s:Shared),n - i = k -> i <= n -> St i s -> TS prog w lb s.heap S (metS ((List.range i).map val)) ->
   (∀ s',Moved (S :: wr) G s s' -> TS prog w lb s'.heap S (metS ((List.range n).map val)) -> R (.ok (.ret .none)) s') -> codeAny (model prog w) A (.builtin "set.update.loop" ⟨[.ref S,.ref I],[]⟩) R s:=by
 have notin:S ∉ wr:=fun h=>hSf (W.sub _ h)
 have more:∀ b ∈ wr,b ∈ S :: wr:=fun b hb=>List.mem_cons_of_mem _ hb
 intro k
 induction k with
 | zero=>
  intro i s hk hi hst hS hR
  obtain rfl:i = n:=by omega
  refine codeAny_builtin F.entry_set_update_loop ?_; rw [Around.under_plainId F.plain_set_update_loop _]
  show wpAny _ A.in1 (pyNext (.ref I) >>= _) _ _ s; refine wpAny_bind (W.done s _ _ hst fun s' hm=>?_)
  show wpAny _ A.in1 (ret Value.none) _ _ s'; exact wpAny_pure (hR s' (hm.mono more) (hS.stay fun o e=>hm.heap S o notin e))
 | succ k ih=>
  intro i s hk hi hst hS hR
  have hlt:i < n:=by omega
  refine codeAny_builtin F.entry_set_update_loop ?_; rw [Around.under_plainId F.plain_set_update_loop _]
  show wpAny _ A.in1 (pyNext (.ref I) >>= _) _ _ s; refine wpAny_bind (W.item i s _ _ hlt hst fun v s' hP hst' hm=>?_)
  obtain ⟨t,rfl⟩:=hval i v hP
  have hS':=hS.stay fun o e=>hm.heap S o notin e
  show wpAny _ A.in1 (holding [Value.str (val i) t] (setAdd S (.str (val i) t)) >>= _) _ _ s'; refine wpAny_bind (wpAny_holding ?_)
  unfold setAdd
  refine wpAny_holding (wpAny_bind ((PySem.strKind prog w).pyHash (k:=val i) (by simp [PySem.strKind,Value.isStrOf]) ?_))
  have room:(metS ((List.range i).map val)).length + 1 < scanBound:=by
   have:=Jea ((List.range i).map val)
   simp only [List.length_map,List.length_range] at this
   omega
  refine Jmk (s:={ s' with toks:=s'.toks + 1 }) hS' room fun _ h' hsb hS2=>?_
  have hSi:TS prog w lb h' S (metS ((List.range (i + 1)).map val)):=by rw [Jgi]; exact hS2
  refine wpAny_pure ⟨plainId_quiet F.plain_set_update_loop _,ih (i + 1) _ (by omega) hlt (W.frame _ s' _ _ hst' (Nat.le_succ _) fun b hb o e=>?_) hSi fun s'' hm'' hS''=>?_⟩
  ·rw [hsb.2 b (fun h:b = S=>hSf (by rw [<- h]; exact hb))]; exact e
  ·refine hR s'' (Moved.trans W.gtrans ((hm.mono more).then_heap (Nat.le_succ _) fun b o hb e=>?_) hm'') hS''
   rw [hsb.2 b (fun h:b = S=>hb (by rw [h]; exact List.mem_cons_self))]; exact e
end
section
variable {prog:Program} {w:World} {A:Around} {E:Value -> Shared -> Prop} {s:Shared}
abbrev byT (w:World):Bool:=w.params.followText "set-order"
abbrev newS (w:World):Obj:={ cls:=.type "set",dict:=none,data:=.set #[] 0 (.fresh 0 0 (!byT w)) }
theorem Jjv (a:Value) {Q:Value -> Shared -> Prop} (h:Q (.ref s.heap.objs.size) { s with heap:=s.heap.push (newS w) }):codeAny (model prog w) A (.call (.builtin "set.__new__") ⟨[.type "set",a],[]⟩) (wants Q E) s:=by
 refine codeAny_of_tree ?_
 show wpAny _ A.in1 (do checkBuiltinCall "set.__new__" ⟨[.type "set",a],[]⟩; again (.builtin "set.__new__" ⟨[.type "set",a],[]⟩)) _ _ s
 refine wpAny_bind (wpAny_of_eq (F.newCall_set_1 a) (wpAny_pure ⟨plainId_quiet F.plain_set_new _,codeAny_builtin F.entry_set_new ?_⟩)); rw [Around.under_plainId F.plain_set_new _]
 unfold Builtin.«set.__new__» Builtin.Frozenset.newClass
 have sub:=sub_set_self
 obtain ⟨hp,g,d,tk,os⟩:=s
 dsimp only
 wp_walk
 refine wpAny_askSetting (wpAny_pure ?_); dsimp only
 simp only [newObj]; refine wpAny_bind (wpAny_alloc (wpAny_pure (wpAny_pure h)))
theorem JfH {l:Addr} {items:Array Value} {ws:List Str} {Q:Value -> Shared -> Prop} (hh:A.handled = none) (hl:s.heap.IsList l items) (hi:StrsAre items.toList ws) (hb:items.size + 1 < scanBound)
  (h:∀ (h':Heap) (tk:Nat),TS prog w (!byT w) h' s.heap.objs.size (metS ws) -> (∀ b o,b < s.heap.objs.size -> s.heap.get? b = some o -> h'.get? b = some o) -> Q (.ref s.heap.objs.size) { s with heap:=h',toks:=tk }) :
  wpAny (model prog w) A (call (.type "set") [.ref l]) Q E s:=by
 obtain ⟨c,tl,hmro⟩:=F.called_set.mro
 have hmade:=F.called_set.made
 have hsub:=F.called_set.sub
 refine wpAny_call (codeAny_of_tree ?_); show wpAny _ _ (callAny (.type "set") _) _ _ _
 refine wpAny_pure ⟨Code.quiet_builtin _ (by decide +kernel),codeAny_builtin F.entry_type_call ?_⟩; rw [Around.under_plain (weight_type_call_type "set" [.ref l] []) rfl]
 have h1:=F.called_set.notType
 have h2:=F.called_set.canCreate
 have hct:=F.typeCall_set_1 (.ref l)
 repeat (any_goals (first | assumption | wp_step))
 refine codeAny_mono (Jjv (.ref l) (E:=E) (Q:=fun obj s₁=>obj = .ref s.heap.objs.size /\ s₁ = { s with heap:=s.heap.push (newS w) }) ⟨rfl,rfl⟩) fun r s₁ hr=>?_
 cases r with
 | error e=>exact hr
 | ok fl=>
  cases fl with
  | ret obj=>
   obtain ⟨rfl,rfl⟩:=hr
   have hS:(s.heap.push (newS w)).get? s.heap.objs.size = some (newS w):=Heap.get?_push_size _ rfl
   have hT:Shared.TypeIs { s with heap:=s.heap.push (newS w) } (.ref s.heap.objs.size) "set":=⟨_,hS,rfl⟩
   have hli:=F.called_set.init.lookup
   have hbi:=F.called_set.init.bind (.ref s.heap.objs.size)
   repeat (any_goals (first | assumption | wp_step))
   refine codeAny_mono (codeAny_call_builtin (R:=wants (fun r s₂=>r = .none /\ ∃ h' tk,s₂ = { s with heap:=h',toks:=tk } /\ TS prog w (!byT w) h' s.heap.objs.size (metS ws) /\
     (∀ b o,b < s.heap.objs.size -> s.heap.get? b = some o -> h'.get? b = some o)) E) F.called_set.init.plain F.entry_set_init (check_set_init_1 hT ?_)) fun r₂ s₂ hr₂=>?_
   ·obtain ⟨ol,hol,hcl,nl,hdl⟩:=hl
    obtain ⟨ocls,odict,odata,oslots⟩:=ol
    simp only at hcl hdl
    subst hcl; subst hdl
    have hol':(s.heap.push (newS w)).get? l = some { cls:=.type "list",dict:=odict,data:=.seq items nl,slots:=oslots }:=Heap.get?_push_of_some _ hol
    have hsls:=F.sub_list_set
    have hslf:=F.sub_list_frozenset
    have hne:(Value.type "list" == Value.type "dict") = false:=by decide
    have hl1:(s.heap.push (newS w)).IsList l items:=⟨_,hol',rfl,nl,rfl⟩
    unfold Builtin.«set.__init__» noKeywords Builtin.Frozenset.updateFrom
    generalize hPI:pyIter = PI
    wp_walk
    subst hPI
    refine wpAny_pyIter_list hl1 (wpAny_bind (wpAny_runValue ?_))
    have hlS:l < s.heap.objs.size:=Heap.lt_size hol
    have hh3:A.in1.in1.in1.handled = none:=by simp [hh]
    have hneI:l ≠ (s.heap.push (newS w)).objs.size:=by rw [Heap.size_push]; exact Nat.ne_of_lt (Nat.lt_succ_of_lt hlS)
    have hSf:s.heap.objs.size ∉ [(s.heap.push (newS w)).objs.size,l]:=by
     rw [Heap.size_push]; simp only [List.mem_cons,List.not_mem_nil,or_false,not_or]; exact ⟨Nat.ne_of_lt (Nat.lt_succ_self _),Nat.ne_of_gt hlS⟩
    have hlen:items.size = ws.length:=by
     have:=hi.strs
     rw [<- this]
     simp
    have hval:∀ (i:Nat) (v:Value),items[i]? = some v -> ∃ t,v = .str ((fun i=>ws.getD i ⟨#[]⟩) i) t:=fun i v hv=>by
     have hv':items.toList[i]? = some v:=by rw [Array.getElem?_toList]; exact hv
     obtain ⟨x,t,e⟩:=hi.all v (List.mem_of_getElem? hv')
     have q:=congrArg (fun l:List Str=>l[i]?) hi.strs
     simp only [List.getElem?_map,hv',Option.map_some] at q
     refine ⟨t,?_⟩
     rw [e] at q ⊢
     simp only [List.getD_eq_getElem?_getD,<- q]
     rfl
    have hws:(List.range items.size).map (fun i=>ws.getD i ⟨#[]⟩) = ws:=by
     rw [hlen]
     refine List.ext_getElem (by simp) fun i h1 h2=>?_
     simp [List.getD_eq_getElem?_getD,h2]
    refine JjM (lb:=!byT w) ((Walks.list hh3 _ l hneI items).toS) s.heap.objs.size hSf (fun i=>ws.getD i ⟨#[]⟩) hval hb (items.size - 0) 0 _ (by omega) (Nat.zero_le _) ⟨⟨_,Heap.get?_push_size _ rfl,rfl,rfl⟩,(hl1.push _)⟩ ?hS0 ?hR
    case hS0=>
     refine ⟨newS w,#[],0,.fresh 0 0 (!byT w),⟨Heap.get?_push_of_some _ hS,⟨rfl,rfl,rfl⟩,rfl⟩,fun e he=>by simp at he,⟨rfl,by decide⟩,rfl,fun z=>absurd rfl z,List.Perm.refl _,List.nodup_nil⟩
    case hR=>
     intro s' hm hS'
     rw [hws] at hS'
     obtain ⟨h',g',d',tk',os'⟩:=s'
     have eg:g' = s.gens:=hm.gens
     have ed:d' = s.drawn:=hm.drawn
     have eo:os' = s.os:=hm.os
     subst eg; subst ed; subst eo
     show wpAny _ _ _ _ _ _
     refine wpAny_pure ?_; show wpAny _ _ (ret Value.none) _ _ _; refine wpAny_pure ⟨rfl,h',tk',rfl,hS',fun b o hb e=>?_⟩
     have hb1:b ≠ s.heap.objs.size:=Nat.ne_of_lt hb
     have hb2:b ≠ (s.heap.push (newS w)).objs.size:=by rw [Heap.size_push]; exact Nat.ne_of_lt (Nat.lt_succ_of_lt hb)
     exact hm.heap b o (by simp only [List.mem_cons,List.not_mem_nil,or_false,not_or]; exact ⟨hb1,hb2⟩) (Heap.get?_push_of_some _ (Heap.get?_push_of_some _ e))
   ·cases r₂ with
    | error e=>exact hr₂
    | ok fl₂=>
     cases fl₂ with
     | ret r=>
      obtain ⟨rfl,h',tk,rfl,hS',hk'⟩:=hr₂
      repeat (any_goals (first | assumption | wp_step))
      exact h _ _ hS' hk'
     | _=>exact hr₂.elim
  | _=>exact hr.elim
end
end Rd
namespace Rd
open PySem PySem.Spec PyProof.Rows L2 Pu
theorem Jkr:entryFor table "set.__iter__" = some Builtin.«frozenset.__iter__»:=entryFor_alias (id':="frozenset.__iter__") (by kernel_rfl) rfl (by decide +kernel) (by kernel_rfl)
theorem JbQ:entryFor table "set_iterator.__next__" = some Builtin.«set_iterator.__next__»:=entryFor_of_tree (by kernel_rfl)
theorem at_next:Slot "set_iterator" "__next__" "set_iterator.__next__":=.of (owner:="set_iterator") (n:="__next__") (by rw [typeLookup_type,builtinLookup_eq_fast]; kernel_rfl) (by decide +kernel) (by decide +kernel) (by decide +kernel) (by first | exact .inl (by decide +kernel) | exact .inr (by decide +kernel)) (by rw [isSubtype_type]; kernel_rfl)
theorem JdY:Manifest.owners.lookup (String.ofList ['r','o','t','a','r','e','t','i','_','t','e','s'].reverse) = some Manifest.sig_set_iterator:=by kernel_rfl
theorem Jaf (a:Value):argsOk "set_iterator.__next__" ⟨[a],[]⟩:=by
 unfold argsOk; rw [signature?_of (id:="set_iterator.__next__") (n:=['_','_','t','x','e','n','_','_']) (o:=['r','o','t','a','r','e','t','i','_','t','e','s']) (by kernel_rfl) JdY]; kernel_rfl
section
variable {prog:Program} {w:World} {A:Around} {E:Value -> Shared -> Prop} {s:Shared}
theorem JgN {src:Source} {n:Nat} {Q:Nat -> Shared -> Prop} (hn:n ≠ 0) (h:∀ i d,i < n -> Q i { s with drawn:=d }):wpAny (model prog w) A (choose src n) Q E s:=fun Γ p _=>⟨hn,h _ _ (Nat.mod_lt _ (Nat.pos_of_ne_zero hn))⟩
theorem Jaw {α:Type}:∀ (xs:List α) (i:Nat) (h:i < xs.length),(xs[i] :: xs.eraseIdx i).Perm xs
 | x :: xs,0,h=>List.Perm.refl _
 | x :: xs,i + 1,h=>by
  simp only [List.getElem_cons_succ,List.eraseIdx_cons_succ]
  exact (List.Perm.swap ..).trans ((Jaw xs i (by simpa using h)).cons x)
theorem JdN {α:Type}:∀ (n:Nat) (xs:List α) (s:Shared) (Q:List α -> Shared -> Prop),xs.length = n -> (∀ ys d,ys.Perm xs -> Q ys { s with drawn:=d }) -> wpAny (model prog w) A (drawOrder n xs) Q E s
 | 0,[],s,Q,_,h=>by
  unfold drawOrder
  refine wpAny_pure ?_
  have:=h [] s.drawn (List.Perm.refl _)
  cases s; exact this
 | n + 1,x :: xs,s,Q,hl,h=>by
  unfold drawOrder
  refine wpAny_bind (JgN (by simp) fun i d hi=>?_)
  have hg:(x :: xs)[i]? = some (x :: xs)[i]:=List.getElem?_eq_getElem hi
  rw [hg]
  dsimp only
  refine wpAny_bind (JdN n _ _ _ (by rw [List.length_eraseIdx_of_lt hi]; omega) fun ys d' hp=>wpAny_pure ?_)
  refine h _ d' ?_
  exact (List.Perm.cons _ hp).trans (Jaw _ i hi)
 | 0,x :: xs,s,Q,hl,_=>by simp at hl
 | n + 1,[],s,Q,hl,_=>by simp at hl
theorem JcA {α:Type} (next:Nat -> Nat):∀ (fuel k:Nat) (left:List α) (out:Array α),left.length = fuel -> (pickOrder.go next fuel k left out).toList.Perm (out.toList ++ left)
 | 0,k,left,out,h=>by
  have:left = []:=List.length_eq_zero_iff.mp h
  subst this
  simp [pickOrder.go]
 | fuel + 1,k,left,out,h=>by
  have hlt:next k % left.length < left.length:=Nat.mod_lt _ (by omega)
  unfold pickOrder.go
  rw [List.getElem?_eq_getElem hlt]
  dsimp only
  refine (JcA next fuel (k + 1) _ _ (by rw [List.length_eraseIdx_of_lt hlt]; omega)).trans ?_
  rw [Array.toList_push,List.append_assoc]
  exact (List.Perm.append_left _ (Jaw _ _ hlt))
end
end Rd
namespace Rd
open PySem PySem.Spec PyProof.Rows L2 Pu
def IsSI (h:Heap) (it:Addr) (first:Value) (i:Nat) (a:Addr) (n ep:Nat):Prop:=h.get? it = some { cls:=.type "set_iterator",data:=.fields #[first,.int i 0,.ref a,.int n 0,.int ep 0] }
structure SetAt (h:Heap) (a:Addr) (o:Obj) (es:Array (Int × Value)) (ep:Nat) (t:SetTable):Prop where
 ho:h.get? a = some o
 hx:o.ExactSet
 hd:o.data = .set es ep t
 hf:t.fits es.size = true
theorem SetAt.stay {h h':Heap} {a:Addr} {o:Obj} {es:Array (Int × Value)} {ep:Nat} {t:SetTable} (x:SetAt h a o es ep t) (k:∀ o,h.get? a = some o -> h'.get? a = some o):SetAt h' a o es ep t:=⟨k _ x.ho,x.hx,x.hd,x.hf⟩
section
variable {prog:Program} {w:World} {A:Around} {E:Value -> Shared -> Prop} {s:Shared} {a it:Addr} {o:Obj} {es:Array (Int × Value)} {ep:Nat} {t:SetTable}
theorem IsSI.ty {h:Heap} {first:Value} {i n:Nat} {s:Shared} (x:IsSI s.heap it first i a n ep):s.TypeIs (.ref it) "set_iterator":=⟨_,x,rfl⟩
theorem Jfi {Q:Fin -> Shared -> Prop} (hh:A.handled = none) (hE:∀ h' e,(∀ b o,s.heap.get? b = some o -> h'.get? b = some o) -> (∃ o,h'.get? e = some o /\ o.cls = .type "StopIteration") -> E (.ref e) { s with heap:=h' }) :
  wpAny (model prog w) A (do raiseNew (<- newExc (.type "StopIteration") [])) Q E s:=by
 refine wpAny_bind ?_
 simp only [newExc,newTuple]; refine wpAny_bind (wpAny_newObj_type ?_ (by size_fits))
 refine wpAny_bind (m:=firstArgMember _ _) (wpAny_of_eq (a:=Value.none) (by first | rfl | (simp only [firstArgMember]; rfl)) (wpAny_newObj_type ?_ (by size_fits)))
 simp only [raiseNew]; refine wpAny_bind (wpAny_handled ?_); rw [hh]
 refine wpAny_bind (wpAny_pure (wpAny_throw ?_)); exact hE _ _ (fun b o e=>Heap.get?_push_of_some _ (Heap.get?_push_of_some _ e)) ⟨_,Heap.get?_push_size _ rfl,rfl⟩
theorem Jcd {i sl nx:Nat} {x:Value} {Q:Option Value -> Shared -> Prop} (hit:IsSI s.heap it (.int sl 0) i a es.size ep) (hs:SetAt s.heap a o es ep t) (hsn:∀ (E':Value -> Shared -> Prop) (Q':Option (Value × Nat) -> Shared -> Prop),Q' (some (x,nx)) s -> wpAny (model prog w) A.in1 (setNext a sl i ep) Q' E' s)
  (hQ:∀ h',IsSI h' it (.int nx 0) (i + 1) a es.size ep -> Heap.SameBut it s.heap h' -> Q (some x) { s with heap:=h' }):wpAny (model prog w) A (pyNext (.ref it)) Q E s:=by
 unfold pyNext
 refine wpAny_bind (wpAny_attempt (wpAny_callSpecial?_slot (name:=Str.ofString "__next__") (hit.ty (h:=s.heap)) at_next (wpAny_call_entry at_next (hit.ty (h:=s.heap)) JbQ ?_ (Jaf _))))
 show wpAny _ _ (fieldsOf (.ref it) >>= _) _ _ s; refine wpAny_bind (wpAny_fieldsOf hit rfl ?_)
 show wpAny _ _ (setEntries a >>= _) _ _ s; refine wpAny_bind (wpAny_setEntries_of hs.ho hs.hd hs.hf ?_)
 show wpAny _ _ (if (((es.size:Nat):Int) != (es.size:Int)) = true then _ else _) _ _ s; rw [if_neg (by simp)]
 show wpAny _ _ (setNext a sl i ep >>= _) _ _ s
 refine wpAny_bind (hsn _ _ ?_)
 refine wpAny_bind (wpAny_setField hit rfl (by simp) ?_)
 have g1:(s.heap.update it (Obj.mapFields (·.setIfInBounds 0 (rawInt (nx:Int))))).get? it = some { cls:=.type "set_iterator",data:=.fields #[.int nx 0,.int i 0,.ref a,.int es.size 0,.int ep 0] }:=Heap.get?_update_self _ hit rfl
 refine wpAny_bind (wpAny_setField g1 rfl (by simp) (wpAny_pure ⟨x,rfl,wpAny_pure (hQ _ ?_ ((Heap.SameBut.update ..).trans (Heap.SameBut.update ..)))⟩))
 exact Heap.get?_update_self _ g1 rfl
theorem JcI {i sl:Nat} {Q:Option Value -> Shared -> Prop} (hh:A.handled = none) (hit:IsSI s.heap it (.int sl 0) i a es.size ep) (hs:SetAt s.heap a o es ep t) (hsn:∀ (E':Value -> Shared -> Prop) (Q':Option (Value × Nat) -> Shared -> Prop),Q' none s -> wpAny (model prog w) A.in1 (setNext a sl i ep) Q' E' s)
  (hQ:∀ h',(∀ b o,b ≠ it -> s.heap.get? b = some o -> h'.get? b = some o) -> Q none { s with heap:=h' }):wpAny (model prog w) A (pyNext (.ref it)) Q E s:=by
 unfold pyNext
 refine wpAny_bind (wpAny_attempt (wpAny_callSpecial?_slot (name:=Str.ofString "__next__") (hit.ty (h:=s.heap)) at_next (wpAny_call_entry at_next (hit.ty (h:=s.heap)) JbQ ?_ (Jaf _))))
 show wpAny _ _ (fieldsOf (.ref it) >>= _) _ _ s; refine wpAny_bind (wpAny_fieldsOf hit rfl ?_)
 show wpAny _ _ (setEntries a >>= _) _ _ s; refine wpAny_bind (wpAny_setEntries_of hs.ho hs.hd hs.hf ?_)
 show wpAny _ _ (if (((es.size:Nat):Int) != (es.size:Int)) = true then _ else _) _ _ s; rw [if_neg (by simp)]
 show wpAny _ _ (setNext a sl i ep >>= _) _ _ s
 refine wpAny_bind (hsn _ _ ?_)
 refine wpAny_bind (wpAny_setField hit rfl (by simp) ?_)
 refine Jfi hh fun h' e hk he=>?_
 obtain ⟨o',ho',hc'⟩:=he
 refine wpAny_bind (wpAny_isInstance (T:="StopIteration") (b:=true) ⟨o',ho',hc'⟩ isSubtype_stop (wpAny_pure (hQ h' fun b o hb e=>hk b o ?_)))
 exact (Heap.get?_update_other _ _ (Ne.symm hb)).trans e
theorem JeK {i j:Nat} {tp:Addr} {ord:Array Value} {e:Int × Value} {Q:Option Value -> Shared -> Prop} (hit:IsSI s.heap it (.ref tp) i a es.size ep) (hs:SetAt s.heap a o es ep t) (htp:s.heap.get? tp = some { cls:=.type "tuple",data:=.seq ord }) (hj:ord[i]? = some (.int (j:Int) 0)) (he:es[j]? = some e)
  (hQ:∀ h',IsSI h' it (.ref tp) (i + 1) a es.size ep -> Heap.SameBut it s.heap h' -> Q (some e.2) { s with heap:=h' }):wpAny (model prog w) A (pyNext (.ref it)) Q E s:=by
 unfold pyNext
 refine wpAny_bind (wpAny_attempt (wpAny_callSpecial?_slot (name:=Str.ofString "__next__") (hit.ty (h:=s.heap)) at_next (wpAny_call_entry at_next (hit.ty (h:=s.heap)) JbQ ?_ (Jaf _))))
 show wpAny _ _ (fieldsOf (.ref it) >>= _) _ _ s; refine wpAny_bind (wpAny_fieldsOf hit rfl ?_)
 show wpAny _ _ (setEntries a >>= _) _ _ s; refine wpAny_bind (wpAny_setEntries_of hs.ho hs.hd hs.hf ?_)
 show wpAny _ _ (if (((es.size:Nat):Int) != (es.size:Int)) = true then _ else _) _ _ s; rw [if_neg (by simp)]
 show wpAny _ _ (seqItems? (.ref tp) >>= _) _ _ s; refine wpAny_bind (wpAny_seqItems htp rfl ?_)
 simp only [Int.toNat_natCast,hj]
 refine wpAny_bind ?_
 unfold setNextDrawn
 refine wpAny_bind (wpAny_setState_of hs.ho hs.hd hs.hf ?_)
 simp only [bne_self_eq_false,Bool.false_eq_true,if_false,he]
 first | refine wpAny_bind (wpAny_pure (wpAny_pure ?_)) | refine wpAny_pure ?_
 refine wpAny_bind (wpAny_setField hit rfl (by simp) (wpAny_pure ⟨e.2,rfl,wpAny_pure (hQ _ ?_ (Heap.SameBut.update ..))⟩))
 exact Heap.get?_update_self _ hit rfl
theorem Jbi {i:Nat} {tp:Addr} {ord:Array Value} {Q:Option Value -> Shared -> Prop} (hh:A.handled = none) (hit:IsSI s.heap it (.ref tp) i a es.size ep) (hs:SetAt s.heap a o es ep t) (htp:s.heap.get? tp = some { cls:=.type "tuple",data:=.seq ord }) (hj:ord[i]? = none)
  (hQ:∀ h',(∀ b o,b ≠ it -> s.heap.get? b = some o -> h'.get? b = some o) -> Q none { s with heap:=h' }):wpAny (model prog w) A (pyNext (.ref it)) Q E s:=by
 unfold pyNext
 refine wpAny_bind (wpAny_attempt (wpAny_callSpecial?_slot (name:=Str.ofString "__next__") (hit.ty (h:=s.heap)) at_next (wpAny_call_entry at_next (hit.ty (h:=s.heap)) JbQ ?_ (Jaf _))))
 show wpAny _ _ (fieldsOf (.ref it) >>= _) _ _ s; refine wpAny_bind (wpAny_fieldsOf hit rfl ?_)
 show wpAny _ _ (setEntries a >>= _) _ _ s; refine wpAny_bind (wpAny_setEntries_of hs.ho hs.hd hs.hf ?_)
 show wpAny _ _ (if (((es.size:Nat):Int) != (es.size:Int)) = true then _ else _) _ _ s; rw [if_neg (by simp)]
 show wpAny _ _ (seqItems? (.ref tp) >>= _) _ _ s; refine wpAny_bind (wpAny_seqItems htp rfl ?_)
 simp only [Int.toNat_natCast,hj]
 refine wpAny_bind (wpAny_setField hit rfl (by simp) ?_)
 have g1:(s.heap.update it (Obj.mapFields (·.setIfInBounds 0 (rawInt 0)))).get? it = some { cls:=.type "set_iterator",data:=.fields #[.int 0 0,.int i 0,.ref a,.int es.size 0,.int ep 0] }:=Heap.get?_update_self _ hit rfl
 refine wpAny_bind (wpAny_setField g1 rfl (by simp) ?_)
 refine Jfi hh fun h' e hk he=>?_
 obtain ⟨o',ho',hc'⟩:=he
 refine wpAny_bind (wpAny_isInstance (T:="StopIteration") (b:=true) ⟨o',ho',hc'⟩ isSubtype_stop (wpAny_pure (hQ h' fun b o hb e=>hk b o ?_)))
 exact (Heap.get?_update_other _ _ (Ne.symm hb)).trans ((Heap.get?_update_other _ _ (Ne.symm hb)).trans e)
theorem Jhd (hs:SetAt s.heap a o es ep t) (hT:byT w = true) {sl i:Nat} (E':Value -> Shared -> Prop) (Q':Option (Value × Nat) -> Shared -> Prop) (h:Q' (((pickOrder (w.params.setOrder a ep) es)[i]?).map fun e=>(e.2,sl)) s):wpAny (model prog w) A (setNext a sl i ep) Q' E' s:=by
 unfold setNext
 refine wpAny_bind (wpAny_setState_of hs.ho hs.hd hs.hf ?_)
 unfold setsByText
 refine wpAny_bind (wpAny_bind (wpAny_askSetting (wpAny_pure ?_)))
 show wpAny _ _ (if byT w = true then _ else _) _ _ s
 rw [if_pos hT]
 simp only [bne_self_eq_false,Bool.false_eq_true,if_false]
 first | refine wpAny_bind (wpAny_pure ?_) | skip
 unfold setWalk
 refine wpAny_bind (wpAny_bind (wpAny_setState_of hs.ho hs.hd hs.hf ?_))
 unfold setsByText
 refine wpAny_bind (wpAny_bind (wpAny_askSetting (wpAny_pure ?_)))
 show wpAny _ _ (if byT w = true then _ else _) _ _ s
 rw [if_pos hT]
 refine wpAny_bind (wpAny_askSetting (wpAny_pure ?_))
 exact wpAny_pure h
theorem Jjd (hs:SetAt s.heap a o es ep t) (hT:byT w = false) (h1:es.size <= 1) (hl:es.size = 0 \/ t.led = true) {sl i:Nat} (E':Value -> Shared -> Prop) (Q':Option (Value × Nat) -> Shared -> Prop)
  (h:Q' (match es[SetTable.below t.place sl]?,t.place[SetTable.below t.place sl]? with
   | some (_,x),some j=>some (x,j + 1)
   | _,_=>none) s):wpAny (model prog w) A (setNext a sl i ep) Q' E' s:=by
 unfold setNext
 refine wpAny_bind (wpAny_setState_of hs.ho hs.hd hs.hf ?_)
 unfold setsByText
 refine wpAny_bind (wpAny_bind (wpAny_askSetting (wpAny_pure ?_)))
 show wpAny _ _ (if byT w = true then _ else _) _ _ s
 rw [if_neg (by rw [hT]; decide)]
 have h2:(!t.plain && decide (es.size > 1)) = false:=by
  rw [decide_eq_false (by omega),Bool.and_false]
 show wpAny _ _ (if (!t.plain && decide (es.size > 1)) = true then _ else _) _ _ s
 rw [if_neg (by rw [h2]; decide)]
 have h3:(!t.led && !es.isEmpty) = false:=by
  rcases hl with z | z
  ·have:es.isEmpty = true:=by simpa [Array.isEmpty] using z
   rw [this]; simp
  ·rw [z]; rfl
 show wpAny _ _ ((if (!t.led && !es.isEmpty) = true then _ else _) >>= _) _ _ s
 rw [if_neg (by rw [h3]; decide)]
 refine wpAny_bind (wpAny_pure (wpAny_pure h))
end
end Rd
namespace Rd
open PySem PySem.Spec PyProof.Rows L2 Pu
theorem Jia:entryFor table "set_iterator.__iter__" = some Builtin.«dict_keyiterator.__iter__»:=entryFor_alias (id':="dict_keyiterator.__iter__") (by kernel_rfl) rfl (by decide +kernel) (by kernel_rfl)
theorem JdC:Slot "set_iterator" "__iter__" "set_iterator.__iter__":=.of (owner:="set_iterator") (n:="__iter__") (by rw [typeLookup_type,builtinLookup_eq_fast]; kernel_rfl) (by decide +kernel) (by decide +kernel) (by decide +kernel) (by first | exact .inl (by decide +kernel) | exact .inr (by decide +kernel)) (by rw [isSubtype_type]; kernel_rfl)
theorem Jfd (a:Value):argsOk "set_iterator.__iter__" ⟨[a],[]⟩:=by
 unfold argsOk; rw [signature?_of (id:="set_iterator.__iter__") (n:=['_','_','r','e','t','i','_','_']) (o:=['r','o','t','a','r','e','t','i','_','t','e','s']) (by kernel_rfl) JdY]; kernel_rfl
section
variable {prog:Program} {w:World} {A:Around} {E:Value -> Shared -> Prop} {s:Shared} {a it:Addr} {o:Obj} {es:Array (Int × Value)} {ep:Nat} {t:SetTable}
theorem Jba {first:Value} {i n:Nat} {Q:Value -> Shared -> Prop} (hit:IsSI s.heap it first i a n ep) (h:Q (.ref it) s):wpAny (model prog w) A (pyIter (.ref it)) Q E s:=by
 refine wpAny_pyIter_slot (hit.ty (h:=s.heap)) JdC (wpAny_call_entry JdC (hit.ty (h:=s.heap)) Jia ?_ (Jfd _))
 show wpAny _ _ (ret (.ref it)) _ _ s; exact wpAny_pure ⟨_,rfl,"set_iterator",_,(hit.ty (h:=s.heap)),at_next.lookup,h⟩
theorem Jgh (hh:A.handled = none) (hT:byT w = true) (hne:a ≠ it):Walks prog w A it [it,a] [it] ((pickOrder (w.params.setOrder a ep) es).toList.map (·.2)).length (fun i v=>((pickOrder (w.params.setOrder a ep) es).toList.map (·.2))[i]? = some v)
  (fun i h=>IsSI h it (.int (0:Nat) 0) i a es.size ep /\ SetAt h a o es ep t) where
 sub:=fun b hb=>by simp at hb; simp [hb]
 frame:=fun i h h' st hk=>⟨hk it (by simp) _ st.1,st.2.stay fun o e=>hk a (by simp) o e⟩
 item:=fun i s Q E hi st hQ=>by
  have hi':i < (pickOrder (w.params.setOrder a ep) es).size:=by simpa using hi
  refine Jcd (sl:=0) (nx:=0) (x:=(pickOrder (w.params.setOrder a ep) es)[i].2) st.1 st.2 (fun E' Q' q=>Jhd st.2 hT E' Q' ?_) fun h' g1 g2=>?_
  ·rw [Array.getElem?_eq_getElem hi']; exact q
  ·refine hQ _ h' s.toks ?_ ⟨g1,st.2.stay fun o e=>(g2.2 a hne).trans e⟩ fun b o hb e=>(g2.2 b fun z=>hb (by simp [z])).trans e
   rw [List.getElem?_map,Array.getElem?_toList,Array.getElem?_eq_getElem hi']; rfl
 done:=fun s Q E st hQ=>by
  refine JcI (sl:=0) hh st.1 st.2 (fun E' Q' q=>Jhd st.2 hT E' Q' ?_) fun h' k=>hQ h' s.toks fun b o hb e=>k b o (fun z=>hb (by simp [z])) e
  rw [Array.getElem?_eq_none (by simp)]; exact q
 self:=fun i s Q E st h=>Jba st.1 h
theorem JeA {tp:Addr} {ord:List Nat} (hh:A.handled = none) (hne:a ≠ it) (hnt:tp ≠ it) (ho:∀ j ∈ ord,j < es.size):Walks prog w A it [it,a,tp] [it] (ord.map fun j=>(es.getD j (0,.none)).2).length (fun i v=>(ord.map fun j=>(es.getD j (0,.none)).2)[i]? = some v)
  (fun i h=>IsSI h it (.ref tp) i a es.size ep /\ SetAt h a o es ep t /\ h.get? tp = some { cls:=.type "tuple",data:=.seq (ord.map fun j:Nat=>Value.int (j:Int) 0).toArray }) where
 sub:=fun b hb=>by simp at hb; simp [hb]
 frame:=fun i h h' st hk=>⟨hk it (by simp) _ st.1,st.2.1.stay fun o e=>hk a (by simp) o e,hk tp (by simp) _ st.2.2⟩
 item:=fun i s Q E hi st hQ=>by
  have hi':i < ord.length:=by simpa using hi
  have hj:ord[i] < es.size:=ho _ (List.getElem_mem hi')
  refine JeK (j:=ord[i]) (e:=es[ord[i]]) st.1 st.2.1 st.2.2 (by simp [hi']) (Array.getElem?_eq_getElem hj) fun h' g1 g2=>?_
  refine hQ _ h' s.toks ?_ ⟨g1,st.2.1.stay fun o e=>(g2.2 a hne).trans e,(g2.2 tp hnt).trans st.2.2⟩ fun b o hb e=>(g2.2 b fun z=>hb (by simp [z])).trans e
  rw [List.getElem?_map,List.getElem?_eq_getElem hi']
  simp [Array.getD,hj]
 done:=fun s Q E st hQ=>Jbi hh st.1 st.2.1 st.2.2 (by simp) fun h' k=>hQ h' s.toks fun b o hb e=>k b o (fun z=>hb (by simp [z])) e
 self:=fun i s Q E st h=>Jba st.1 h
theorem JhY (hh:A.handled = none) (hT:byT w = false) (hne:a ≠ it) (h1:es.size <= 1) (hl:es.size = 0 \/ t.led = true):Walks prog w A it [it,a] [it] (es.toList.map (·.2)).length (fun i v=>(es.toList.map (·.2))[i]? = some v)
  (fun i h=>IsSI h it (.int ((if i = 0 then 0 else t.place.getD 0 0 + 1:Nat):Nat) 0) i a es.size ep /\ SetAt h a o es ep t) where
 sub:=fun b hb=>by simp at hb; simp [hb]
 frame:=fun i h h' st hk=>⟨hk it (by simp) _ st.1,st.2.stay fun o e=>hk a (by simp) o e⟩
 item:=fun i s Q E hi st hQ=>by
  have hi':i < es.size:=by simpa using hi
  have i0:i = 0:=by omega
  subst i0
  have hsz:es.size = 1:=by omega
  have hp:t.place.size = 1:=by
   have:=st.2.hf
   simp only [SetTable.fits,Bool.and_eq_true,beq_iff_eq] at this
   omega
  have hb:SetTable.below t.place 0 = 0:=by
   unfold SetTable.below
   rw [hp]
   simp [SetTable.below.go]
  refine Jcd (sl:=0) (nx:=t.place.getD 0 0 + 1) (x:=es[0].2) st.1 st.2 (fun E' Q' q=>Jjd st.2 hT h1 hl E' Q' ?_) fun h' g1 g2=>?_
  ·rw [hb,Array.getElem?_eq_getElem hi',Array.getElem?_eq_getElem (show 0 < t.place.size by omega)]
   have:t.place.getD 0 0 = t.place[0]:=by simp [Array.getD,hp]
   rw [this] at q
   exact q
  ·refine hQ _ h' s.toks ?_ ⟨g1,st.2.stay fun o e=>(g2.2 a hne).trans e⟩ fun b o hb e=>(g2.2 b fun z=>hb (by simp [z])).trans e
   rw [List.getElem?_map,Array.getElem?_toList,Array.getElem?_eq_getElem hi']; rfl
 done:=fun s Q E st hQ=>by
  rw [List.length_map,Array.length_toList] at st
  refine JcI hh st.1 st.2 (fun E' Q' q=>Jjd st.2 hT h1 hl E' Q' ?_) fun h' k=>hQ h' s.toks fun b o hb e=>k b o (fun z=>hb (by simp [z])) e
  have hp:t.place.size = es.size:=by
   have:=st.2.hf
   simp only [SetTable.fits,Bool.and_eq_true,beq_iff_eq] at this
   exact this.1
  have hout:es.size <= SetTable.below t.place (if es.size = 0 then 0 else t.place.getD 0 0 + 1):=by
   by_cases z:es.size = 0
   ·omega
   ·have z1:es.size = 1:=by omega
    rw [if_neg z]
    have hp1:t.place.size = 1:=by omega
    unfold SetTable.below
    rw [hp1]
    have h0:t.place[0]? = some (t.place[0]'(by omega)):=Array.getElem?_eq_getElem (by omega)
    simp [SetTable.below.go,h0,z1]
  rw [Array.getElem?_eq_none hout]
  exact q
 self:=fun i s Q E st h=>Jba st.1 h
theorem JiA {ks:List Str} {Q:Value -> Shared -> Prop} (hS:TS prog w (!byT w) s.heap a ks) (hk:ks.length <= 4000)
  (hQ:∀ (h1:Heap) (d:Drawn) (I:Addr) (fp:List Addr) (vs:List Value) (ks':List Str) (St:Nat -> Heap -> Prop),(∀ b o,s.heap.get? b = some o -> h1.get? b = some o) -> (∀ b ∈ fp,b = a \/ s.heap.objs.size <= b) -> s.heap.objs.size <= I ->
   (∀ A':Around,A'.handled = none -> Walks prog w A' I fp [I] vs.length (fun i v=>vs[i]? = some v) St) -> St 0 h1 -> StrsAre vs ks' -> ks'.Perm ks -> Q (.ref I) { s with heap:=h1,drawn:=d }):wpAny (model prog w) A (pyIter (.ref a)) Q E s:=by
 obtain ⟨o,es,ep,t,⟨ho,hx,hd⟩,hel,⟨hf,hz⟩,hl,hp,hkp,hn⟩:=hS
 have sa:SetAt s.heap a o es ep t:=⟨ho,hx,hd,hf⟩
 have hty:s.TypeIs (.ref a) "set":=⟨o,ho,hx.1⟩
 have hlt:a < s.heap.objs.size:=Heap.lt_size ho
 have allS:∀ e ∈ es.toList,∃ x u,e.2 = .str x u:=fun e he=>by
  obtain ⟨⟨k,hk,_⟩,_⟩:=hel e he
  obtain ⟨u,q⟩:=Jfy hk
  exact ⟨k,u,q⟩
 have sts:∀ l:List (Int × Value),l.Perm es.toList -> StrsAre (l.map (·.2)) ((l.map (·.2)).map strOf) /\ ((l.map (·.2)).map strOf).Perm ks:=fun l pl=>by
  refine ⟨strsAre_map _ fun v hv=>?_,?_⟩
  ·obtain ⟨e,he,rfl⟩:=List.mem_map.mp hv
   exact allS e (pl.mem_iff.mp he)
  ·rw [List.map_map]
   exact (pl.map _).trans hkp
 refine wpAny_pyIter_slot hty F.slot_set_iter (wpAny_call_entry F.slot_set_iter hty Jkr ?_ (F.args_set_iter_1 _))
 unfold Builtin.«frozenset.__iter__» Builtin.Frozenset.slot0 slotArgs
 simp only [List.isEmpty_nil,Bool.not_true,Bool.false_eq_true,if_false,bind_assoc,List.length_nil,bne_self_eq_false]
 unfold Builtin.Frozenset.addrOf Builtin.Frozenset.sizeOf
 refine wpAny_bind (wpAny_pure ?_); try dsimp only
 refine wpAny_bind (wpAny_pure ?_)
 refine wpAny_bind (wpAny_bind (wpAny_setEntries_of ho hd hf (wpAny_pure ?_)))
 unfold setDrawn
 refine wpAny_bind (wpAny_bind (wpAny_setState_of ho hd hf ?_))
 unfold setsByText
 refine wpAny_bind (wpAny_bind (wpAny_askSetting (wpAny_pure ?_)))
 refine wpAny_pure ?_
 show wpAny _ _ (if (!byT w && (!t.plain && decide (es.size > 1))) = true then _ else _) _ _ s
 have z1:es.size <= sizeLine:=fits_of_scanBound hz
 by_cases hdr:(!byT w && (!t.plain && decide (es.size > 1))) = true
 ·rw [if_pos hdr]
  refine wpAny_bind (JdN _ _ _ _ (by simp) fun ord d po=>?_)
  refine wpAny_bind (wpAny_newTuple ?_ (by rw [List.length_map,po.length_eq,List.length_range]; exact z1))
  refine wpAny_bind (wpAny_setEpoch_of (Heap.get?_push_of_some _ ho) hd hf ?_)
  refine wpAny_bind (wpAny_newObj_type (wpAny_pure ⟨_,rfl,"set_iterator",_,⟨_,Heap.get?_push_size _ rfl,rfl⟩,at_next.lookup,?_⟩))
  have oj:∀ j ∈ ord,j < es.size:=fun j hj=>by simpa using po.mem_iff.mp hj
  have pl:((ord.map fun j=>es.getD j (0,.none))).Perm es.toList:=by
   have c1:=po.map fun j=>es.getD j (0,Value.none)
   refine c1.trans (List.Perm.of_eq ?_)
   refine List.ext_getElem (by simp) fun i h1 h2=>?_
   have h3:i < es.size:=by simpa using h2
   simp [Array.getD,h3]
  obtain ⟨q1,q2⟩:=sts _ pl
  have em:(ord.map fun j=>es.getD j (0,Value.none)).map (·.2) = ord.map fun j=>(es.getD j (0,Value.none)).2:=by rw [List.map_map]; rfl
  rw [em] at q1 q2
  refine hQ _ d _ [_,a,s.heap.objs.size] _ _ _ (fun b o e=>Heap.get?_push_of_some _ (Heap.get?_push_of_some _ e)) (fun b hb=>?_) ?_ (fun A' hA=>JeA (tp:=s.heap.objs.size) (ord:=ord) hA ?_ ?_ oj) ⟨Heap.get?_push_size _ rfl,sa.stay fun o e=>Heap.get?_push_of_some _ (Heap.get?_push_of_some _ e),Heap.get?_push_of_some _ (Heap.get?_push_size _ rfl)⟩ q1 q2
  ·simp only [List.mem_cons,List.not_mem_nil,or_false] at hb
   rcases hb with rfl | rfl | rfl
   ·right; show _ <= (Heap.push _ _).objs.size; rw [Heap.size_push]; exact Nat.le_succ _
   ·exact .inl rfl
   ·exact .inr (Nat.le_refl _)
  ·show _ <= (Heap.push _ _).objs.size; rw [Heap.size_push]; exact Nat.le_succ _
  ·show a ≠ (Heap.push _ _).objs.size; rw [Heap.size_push]; exact Nat.ne_of_lt (Nat.lt_succ_of_lt hlt)
  ·show s.heap.objs.size ≠ (Heap.push _ _).objs.size; rw [Heap.size_push]; exact Nat.ne_of_lt (Nat.lt_succ_self _)
 ·rw [if_neg hdr]
  refine wpAny_bind (wpAny_pure ?_)
  refine wpAny_bind (wpAny_setEpoch_of ho hd hf ?_)
  refine wpAny_bind (wpAny_newObj_type (wpAny_pure ⟨_,rfl,"set_iterator",_,⟨_,Heap.get?_push_size _ rfl,rfl⟩,at_next.lookup,?_⟩))
  have fpo:∀ b ∈ [s.heap.objs.size,a],b = a \/ s.heap.objs.size <= b:=fun b hb=>by
   simp only [List.mem_cons,List.not_mem_nil,or_false] at hb
   rcases hb with rfl | rfl
   ·exact .inr (Nat.le_refl _)
   ·exact .inl rfl
  have kp:∀ (x:Obj) b o,s.heap.get? b = some o -> (s.heap.push x).get? b = some o:=fun x b o e=>Heap.get?_push_of_some _ e
  cases hT:byT w with
  | true=>
   have pl:(pickOrder (w.params.setOrder a ep) es).toList.Perm es.toList:=by
    have:=JcA (w.params.setOrder a ep) es.size 0 es.toList #[] (by simp)
    simpa [pickOrder] using this
   obtain ⟨q1,q2⟩:=sts _ pl
   exact hQ _ s.drawn _ _ _ _ _ (kp _) fpo (Nat.le_refl _) (fun A' hA=>Jgh (o:=o) (t:=t) hA hT (Nat.ne_of_lt hlt)) ⟨Heap.get?_push_size _ rfl,sa.stay fun o e=>Heap.get?_push_of_some _ e⟩ q1 q2
  | false=>
   have few:es.size <= 1:=by
    by_cases z:es.size <= 1
    ·exact z
    ·exfalso
     apply hdr
     rw [hT,hp (by omega),decide_eq_true (by omega)]
     rfl
   obtain ⟨q1,q2⟩:=sts _ (List.Perm.refl _)
   rw [hT] at hl
   exact hQ _ s.drawn _ _ _ _ _ (kp _) fpo (Nat.le_refl _) (fun A' hA=>JhY (o:=o) (t:=t) hA hT (Nat.ne_of_lt hlt) few (.inr hl)) ⟨Heap.get?_push_size _ rfl,sa.stay fun o e=>Heap.get?_push_of_some _ e⟩ q1 q2
end
end Rd
namespace Rd
open PySem PySem.Spec PyProof.Rows L2 Pu
section
variable {prog:Program} {w:World} {A:Around} {E:Value -> Shared -> Prop} {s:Shared} {a:Addr}
theorem JiN {Q:Bool -> Shared -> Prop} (hT:s.TypeIs (.ref a) "set") (h:Q false s):wpAny (model prog w) A (Builtin.List.listLengthHint (.ref a)) Q E s:=by
 unfold Builtin.List.listLengthHint
 refine wpAny_bind (wpAny_specialOf hT F.slot_set_len.lookup ?_); generalize hid:("set.__len__" : String) = id0
 wp_delta
 rw [show splitId id0 = some ("set","__len__") from by subst hid; decide +kernel]; subst hid
 refine wpAny_bind (wpAny_isInstance (T:="set") (b:=true) hT (by rw [isSubtype_type]; kernel_rfl) (wpAny_ite_split (fun hab=>absurd hab (by decide)) (fun _=>wpAny_ite_split (fun _=>?_) (fun hab=>absurd (by decide +kernel) hab))))
 exact wpAny_bind (wpAny_typeOf hT (wpAny_pure h))
theorem JcZ {ks:List Str} {Q:List Value -> Shared -> Prop} (hh:A.handled = none) (hS:TS prog w (!byT w) s.heap a ks) (hk:ks.length < 60)
  (hQ:∀ (h1:Heap) (d:Drawn) (tk:Nat) (vs:List Value) (ks':List Str),(∀ b o,s.heap.get? b = some o -> h1.get? b = some o) -> s.heap.objs.size <= h1.objs.size -> StrsAre vs ks' -> ks'.Perm ks -> Q vs { s with heap:=h1,drawn:=d,toks:=tk }):wpAny (model prog w) A (collect (.ref a)) Q E s:=by
 obtain ⟨oa,hoa⟩:=hS.there
 have hty:∀ s':Shared,TS prog w (!byT w) s'.heap a ks -> s'.TypeIs (.ref a) "set":=fun s' ⟨o,_,_,_,⟨e,x,_⟩,_⟩=>⟨o,e,x.1⟩
 have hne:s.heap.objs.size ≠ a:=Nat.ne_of_gt (Heap.lt_size hoa)
 unfold collect
 refine wpAny_bind (wpAny_runValue (codeAny_builtin F.entry_proto_collect ?_)); rw [Around.under_plainId F.plain_proto_collect _]
 show wpAny _ A.in1 (newList [] >>= fun l=>again (.builtin "list.__iadd__" ⟨[l,.ref a],[]⟩)) _ _ s; refine wpAny_bind (wpAny_newObj_type ?_)
 refine wpAny_pure ⟨plainId_quiet F.plain_list_iadd _,codeAny_builtin F.entry_list_iadd ?_⟩; rw [Around.under_plainId F.plain_list_iadd _]
 show wpAny _ A.in1 (Builtin.List.listExtendWith (.ref s.heap.objs.size) (.ref a) (.ref s.heap.objs.size)) _ _ _; unfold Builtin.List.listExtendWith
 have hS1:TS prog w (!byT w) (s.heap.push { cls:=.type "list",data:=.seq ([]:List Value).toArray }) a ks:=hS.stay fun o e=>Heap.get?_push_of_some _ e
 refine wpAny_bind (wpAny_typeOf (hty { s with heap:=s.heap.push { cls:=.type "list",data:=.seq ([]:List Value).toArray } } hS1) ?_)
 have h1:Builtin.List.listSameRef (.ref s.heap.objs.size) (.ref a) = false:=by simp [Builtin.List.listSameRef,hne]
 have h2:(Value.type "set" == Value.type "list") = false:=by decide
 have h3:(Value.type "set" == Value.type "tuple") = false:=by decide
 simp only [h1,h2,h3,Bool.or_false,Bool.false_eq_true,if_false]
 refine wpAny_bind (JiA (s:={ s with heap:=s.heap.push { cls:=.type "list",data:=.seq ([]:List Value).toArray } }) hS1 (by omega) fun g1 d I fp vs ks' St kp fpo hI W st q1 q2=>?_)
 have hsz:(s.heap.push { cls:=.type "list",data:=.seq ([]:List Value).toArray }).objs.size = s.heap.objs.size + 1:=Heap.size_push ..
 have hSf:s.heap.objs.size ∉ fp:=fun z=>by
  rcases fpo _ z with e | e
  ·exact hne e
  ·change (s.heap.push { cls:=.type "list",data:=.seq ([]:List Value).toArray }).objs.size <= _ at e
   rw [hsz] at e
   omega
 have hIS:s.heap.objs.size ≠ I:=fun z=>by
  change (s.heap.push { cls:=.type "list",data:=.seq ([]:List Value).toArray }).objs.size <= _ at hI
  rw [hsz] at hI
  omega
 have hlen:vs.length = ks.length:=by
  have:=q2.length_eq
  rw [<- q1.strs,List.length_map] at this
  exact this
 have hnl:vs.length <= sizeLine:=by rw [sizeLine_eq]; omega
 have hL1:g1.get? s.heap.objs.size = some { cls:=.type "list",data:=.seq #[] }:=kp _ _ (Heap.get?_push_size _ rfl)
 have hh1:A.in1.in1.handled = none:=by simp [hh]
 have key:∀ (g:Heap) (c:Nat) (tk:Nat),St 0 g -> (∀ b o,b ≠ s.heap.objs.size -> g1.get? b = some o -> g.get? b = some o) -> g.get? s.heap.objs.size = some { cls:=.type "list",data:=.seq #[] c } ->
   codeAny (model prog w) A (.builtin "list.extend.loop" ⟨[.ref s.heap.objs.size,.ref I,.ref s.heap.objs.size],[]⟩) (fun r s'=>match r with
    | .ok (.ret v)=>wpAny (model prog w) A (match v with
     | .ref a=>do match (<- load a).data with
      | .seq xs _=>pure xs.toList
      | _=>unsupported "internal:collect"
     | _=>unsupported "internal:collect") Q E s'
    | .ok _=>False
    | .error e=>E e s') { s with heap:=g,drawn:=d,toks:=tk }:=by
  intro g c tk st' kp' hL
  refine codeAny_extend_loopS (W A.in1 (by simp [hh])).toS hnl s.heap.objs.size hSf _ vs.length 0 _ #[] c rfl (Nat.zero_le _) st' hL (ItemsOf.nil _) fun s' acc' c' hm hS' hacc=>?_
  have e2:acc'.toList = vs:=by
   refine List.ext_getElem (by simpa using hacc.1) fun i a1 a2=>?_
   have a3:i < acc'.size:=by simpa using a1
   have:vs[i]? = some acc'[i]:=hacc.2 i acc'[i] (Array.getElem?_eq_getElem a3)
   rw [List.getElem?_eq_getElem a2] at this
   simpa using (Option.some.inj this).symm
  show wpAny _ _ (load s.heap.objs.size >>= _) _ _ s'
  refine wpAny_bind (wpAny_load hS' (wpAny_pure ?_))
  obtain ⟨g',ge',d',tk',os'⟩:=s'
  have eg:ge' = s.gens:=hm.gens
  have ed:d' = d:=hm.drawn
  have eo:os' = s.os:=hm.os
  subst eg ed eo
  show Q acc'.toList _
  rw [e2]
  refine hQ g' d' tk' vs ks' (fun b o e=>?_) (Nat.le_of_lt (Heap.lt_size hS')) q1 q2
  have hb:b < s.heap.objs.size:=Heap.lt_size e
  refine hm.heap b o ?_ (kp' b o (Nat.ne_of_lt hb) (kp b o (Heap.get?_push_of_some _ e)))
  simp only [List.mem_cons,List.not_mem_nil,or_false,not_or]
  refine ⟨Nat.ne_of_lt hb,fun z=>?_⟩
  change (s.heap.push { cls:=.type "list",data:=.seq ([]:List Value).toArray }).objs.size <= _ at hI
  rw [hsz] at hI
  have hb':b < s.heap.objs.size:=hb
  rw [z] at hb'
  exact absurd (Nat.lt_of_lt_of_le hb' (Nat.le_of_succ_le hI)) (Nat.lt_irrefl _)
 have hS2:TS prog w (!byT w) g1 a ks:=hS1.stay fun o e=>kp a o e
 refine wpAny_bind (wpAny_holding (JiN (hty { s with heap:=g1,drawn:=d } hS2) ?_))
 refine wpAny_ite_split (fun _=>?_) (fun _=>wpAny_pure ⟨plainId_quiet F.plain_extend_loop _,key g1 0 s.toks st (fun b o _ e=>e) hL1⟩)
 refine wpAny_bind (wpAny_rule (wpAny_bind ?_))
 show wpAny _ A.in1 (updateSeq s.heap.objs.size (·.push .none) >>= fun _=>updateSeq s.heap.objs.size (·.pop)) _ _ _; refine wpAny_bind (wpAny_updateSeq hL1 rfl ?_)
 have hL2:=Heap.get?_update_self (Obj.mapSeq (·.push Value.none)) hL1 rfl
 refine wpAny_updateSeq (hz:=by seq_fits) hL2 rfl ?_
 have hL3:=Heap.get?_update_self (Obj.mapSeq (·.pop)) hL2 rfl
 have oth:∀ b o,b ≠ s.heap.objs.size -> g1.get? b = some o -> ((g1.update s.heap.objs.size (Obj.mapSeq (·.push Value.none))).update s.heap.objs.size (Obj.mapSeq (·.pop))).get? b = some o:=fun b o hb e=>(Heap.get?_update_other _ _ (Ne.symm hb)).trans ((Heap.get?_update_other _ _ (Ne.symm hb)).trans e)
 exact wpAny_pure ⟨plainId_quiet F.plain_extend_loop _,key _ _ s.toks ((W A.in1 (by simp [hh])).frame 0 _ _ st fun b hb o e=>oth b o (fun z=>hSf (z ▸ hb)) e) oth hL3⟩
end
end Rd
namespace Rd
open PySem PySem.Spec PyProof.Rows L2 Pu
section
variable {prog:Program} {w:World} {A:Around} {E:Value -> Shared -> Prop} {s:Shared} {a:Addr}
theorem JcT {ks:List Str} {Q:Value -> Shared -> Prop} (hh:A.handled = none) (hS:TS prog w (!byT w) s.heap a ks) (hk:ks.length < 60)
  (h:∀ (h':Heap) (d:Drawn) (tk:Nat) (l:Addr) (vs:List Value) (ss:List Str) (e:Nat),(∀ b o,s.heap.get? b = some o -> h'.get? b = some o) -> s.heap.objs.size <= l -> h'.get? l = some (seqObj "list" vs.toArray e) -> StrsAre vs ss -> ss.Perm ks -> PyProof.Rows.sortedS ss = true -> Q (.ref l) { s with heap:=h',drawn:=d,toks:=tk }) :
  wpAny (model prog w) A (call (.builtin "sorted") [.ref a]) Q E s:=by
 obtain ⟨oa,hoa⟩:=hS.there
 refine Calls.call_function_entry kind_sorted plain_sorted entry_sorted (args_sorted1 _) ?_
 unfold Builtin.«sorted»
 refine wpAny_bind (m:=checkCount "sorted" 1 1 _) (wpAny_pure (wpAny_bind (JcZ (by simp [hh]) hS hk fun h1 d tk vs ks' kp hle q1 q2=>?_)))
 have hlen:vs.length = ks.length:=by
  have:=q2.length_eq
  rw [<- q1.strs,List.length_map] at this
  exact this
 refine wpAny_bind (wpAny_newList ?_ (by rw [sizeLine_eq]; omega))
 have hoL:(h1.push (seqObj "list" vs.toArray 0)).get? h1.objs.size = some (seqObj "list" vs.toArray 0):=Heap.get?_push_size _ rfl
 refine wpAny_bind (wpAny_holding (wpAny_call_entry slot_list_sort ⟨_,hoL,rfl⟩ entry_list_sort (list_sort_treeK strKind_oneLt (s:={ s with heap:=h1.push (seqObj "list" vs.toArray 0),drawn:=d,toks:=tk }) hoL q1.keysOf (fun v₁ v₂ rest e=>keyKind_strs (by rw [<- e]; exact q1)) (by omega) fun st' a1 a2=>⟨_,rfl,?_⟩) (args_list_sort _)))
 obtain ⟨ss,b1,b2,b3⟩:=sorted_out_str q1 a1 a2
 obtain ⟨e,he⟩:=sortedHeap_at (out:=(arrOf st').map (·.2)) hoL
 refine wpAny_pure ⟨_,rfl,h _ d tk h1.objs.size ((arrOf st').map (·.2)).toList ss e (fun b o q=>?_) hle (by rw [Array.toArray_toList]; exact he) b1 (b2.trans q2) b3⟩
 have q':=kp b o q
 have hlt:=Heap.lt_size q'
 rw [sortedHeap_old (Nat.ne_of_lt hlt) (by rw [Heap.size_push]; exact Nat.lt_succ_of_lt hlt)]
 exact Heap.get?_push_of_some _ q'
end
def SetO (X:Cx) (a:Addr) (ks:List Str):HO:=.ext fun h=>TS X.prog X.w (!byT X.w) h a ks
section
variable {X:Cx}
theorem JcC:∀ {ws:List Str} {its:List Value},Vals (ws.map V.str) its -> StrsAre its ws
 | [],_,.nil=>.nil
 | x :: ws,_,.cons ⟨t,e⟩ r=>by subst e; exact .cons x t (JcC r)
theorem Jcw:∀ {ws:List Str} {its:List Value},StrsAre its ws -> Vals (ws.map V.str) its
 | _,_,.nil=>.nil
 | _,_,.cons x t r=>.cons ⟨t,rfl⟩ (Jcw r)
theorem JgE {pins:List (Addr × Obj)} {σ:L2.St} {H:Hp} {s:Shared} (I:L2.Inv X pins σ H s) (d:Drawn):L2.Inv X pins σ H { s with drawn:=d }:=⟨I.ok,I.os,I.bare,I.base,I.loc,I.cell,I.free,I.freeC,I.pin,I.hok,I.len⟩
def rSet (X:Cx):List V -> Hp -> VK -> Prop:=fun xs H Q=>∃ p ws,xs = [.ref p] /\ SqL X.K H p (ws.map V.str) /\ ws.length < 60 /\ ∀ l,H l = none -> Q (.ref l) (upd H l (SetO X l (metS ws)))
theorem JkI (hc:X.calm = true):CallR X (.type "set") (rSet X):=by
 intro pins s σ H xs us Q I r h
 obtain ⟨p,ws,rfl,hq,hl,q⟩:=h
 obtain ⟨u,rfl,rx⟩:=Jaz r
 cases rx
 obtain ⟨its,r',pl,hz⟩:=I.list hq
 have hlen:=r'.length
 rw [List.length_map] at hlen
 refine JfH (items:=its.toArray) (ws:=ws) (I.ok.hd hc) pl.isList (by simpa using JcC r') (by rw [List.size_toArray,<- hlen]; show _ < 4096; omega) fun h' tk hS kp=>?_
 obtain ⟨o,ho⟩:=hS.there
 exact ⟨.ref s.heap.objs.size,_,I.laid (t':=tk) (fun b o e=>kp b o (Heap.lt_size e) e) (Nat.le_refl _) (show ObjOk X.prog X.w _ h' _ (SetO X s.heap.objs.size (metS ws)) from ⟨hS,⟨o,ho⟩,fun h1 h2 z k=>TS.stay z k⟩),rfl,q _ (I.hok.fresh (Nat.le_refl _))⟩
theorem JfD (hc:X.calm = true):CallR X (.builtin "sorted") (fun xs H Q=>∃ p ks,xs = [.ref p] /\ H p = some (SetO X p ks) /\ ks.length < 60 /\ ∀ (l:Addr) (ss:List Str),H l = none -> ss.Perm ks -> PyProof.Rows.sortedS ss = true -> Q (.ref l) (upd H l (.lst (ss.map V.str)))):=by
 intro pins s σ H xs us Q I r h
 obtain ⟨p,ks,rfl,hq,hl,q⟩:=h
 obtain ⟨u,rfl,rx⟩:=Jaz r
 cases rx
 have hS:TS X.prog X.w (!byT X.w) s.heap p ks:=(I.hok p _ hq).1
 refine JcT (I.ok.hd hc) hS hl fun h' d tk l vs ss e kp hle hg q1 q2 q3=>?_
 have hz:vs.length = ks.length:=by
  have:=q2.length_eq
  rw [<- q1.strs,List.length_map] at this
  exact this
 have I1:L2.Inv X pins σ (upd H l (.lst (ss.map V.str))) { s with heap:=h',drawn:=d,toks:=tk }:=
  (JgE I d).laid (t':=tk) kp hle ⟨by rw [List.length_map,q2.length_eq,sizeLine_eq]; omega,vs,e,Jcw q1,hg⟩
 exact ⟨.ref l,_,I1,rfl,q l ss (I.hok.fresh hle) q2 q3⟩
theorem JaL:∀ (p:Str) (l:List Str),risingS p l = true -> (p :: l).Nodup -> (p :: l).Pairwise LtS
 | p,[],_,_=>by simp
 | p,x :: r,h,hn=>by
  simp only [risingS,Bool.and_eq_true,Bool.not_eq_true'] at h
  obtain ⟨h1,h2⟩:=h
  rw [ltCps_eq] at h1
  have n1:¬ LtS x p:=by simpa [LtS] using h1
  obtain ⟨m1,m2⟩:=List.nodup_cons.mp hn
  have ih:=JaL x r h2 m2
  have px:LtS p x:=LtS.total n1 fun e=>m1 (by simp [e])
  refine List.pairwise_cons.mpr ⟨fun z hz=>?_,ih⟩
  rcases List.mem_cons.mp hz with rfl | hz
  ·exact px
  ·exact px.trans ((List.pairwise_cons.mp ih).1 z hz)
theorem JgV {ss ks ws:List Str} (h1:ss.Perm ks) (h2:PyProof.Rows.sortedS ss = true) (hn:ks.Nodup) (hm:∀ k,k ∈ ks ↔ k ∈ ws):ss = Pu.sortS ws:=by
 have hn':ss.Nodup:=h1.symm.nodup hn
 have hp:ss.Pairwise LtS:=by
  cases ss with
  | nil=>exact List.Pairwise.nil
  | cons p l=>exact JaL p l h2 hn'
 exact JcF _ _ hp (Jat ws) fun k=>(h1.mem_iff.trans (hm k)).trans (JH ws k).symm
theorem JeB (ws:List Str):∀ ks:List Str,ks.Nodup -> (ws.foldl addS ks).Nodup:=by
 induction ws with
 | nil=>intro ks h; exact h
 | cons x ws ih=>
  intro ks h
  rw [List.foldl_cons]
  refine ih _ ?_
  unfold addS
  split
  ·exact h
  ·rename_i hin
   rw [List.nodup_append]
   refine ⟨h,by simp,fun u hu v hv e=>?_⟩
   rw [List.mem_singleton] at hv
   subst hv e
   exact hin hu
theorem JeJ (ws:List Str):(metS ws).Nodup:=JeB ws [] List.nodup_nil
theorem JaS:∀ {ds:List D} {ws:List Str},strsOf ds = some ws -> ds = ws.map D.str
 | [],ws,h=>by cases h; rfl
 | .str x :: ds,ws,h=>by
  simp only [strsOf] at h
  cases q:strsOf ds with
  | none=>rw [q] at h; cases h
  | some vs=>rw [q] at h; cases h; rw [JaS q]; rfl
 | .non :: ds,ws,h=>by cases h
 | .bl _ :: ds,ws,h=>by cases h
 | .int _ :: ds,ws,h=>by cases h
 | .tup _ :: ds,ws,h=>by cases h
 | .lst _ :: ds,ws,h=>by cases h
theorem JdX {K:PySem.W.Frag} {H:Hp}:∀ {ws:List Str} {xs:List V},Reps K H (ws.map D.str) xs -> xs = ws.map V.str
 | [],xs,h=>by cases h; rfl
 | w :: ws,xs,h=>by
  obtain ⟨x,r,rfl,h1,h2⟩:=h
  cases h1
  rw [JdX h2]; rfl
theorem JdU {K:PySem.W.Frag} {H:Hp}:∀ ws:List Str,Reps K H (ws.map D.str) (ws.map V.str)
 | []=>rfl
 | w :: ws=>⟨.str w,ws.map V.str,rfl,rfl,JdU ws⟩
variable {call:CallD} {a:Expr} {pa:Px} {pos p1 p2 p3:Pos} {G:Gw} {N:List Str} {nm:List (Str × NameKind)}
theorem JlG (C:Ctx X G N nm) (ha:PE X a (tI X call pa)) (hg2:gloB nm "set" = true) (hm2:G.mg "set" = none) (hs:starEach [a] X.env = (false,eval a X.env) :: starEach [] X.env:=by rfl):PE X (.Call (.Name "set" p2) [a] [] p3) (tCB (rSet X) (tCons (tI X call pa) tNil)):=
 Jce (JkI C.calm) (C.glo _ hg2) (by rw [C.mg]; exact hm2) boot_set (JD ha JaD hs) (by decide +kernel) (by decide +kernel) hs rfl
theorem Jjo (C:Ctx X G N nm) (ha:PE X a (tI X call pa)) (hg:gloB nm "sorted" = true) (hm:G.mg "sorted" = none) (hg2:gloB nm "set" = true) (hm2:G.mg "set" = none) (hs:starEach [a] X.env = (false,eval a X.env) :: starEach [] X.env:=by rfl):PE X (.Call (.Name "sorted" p1) [.Call (.Name "set" p2) [a] [] p3] [] pos) (tI X call (.un .sset pa)):=by
 refine PE.weak (JdI (JfD C.calm) (C.glo _ hg) (by rw [C.mg]; exact hm) (by decide +kernel) (JD (JlG C ha hg2 hm2 hs) JaD rfl) (by decide +kernel) (by decide +kernel) rfl rfl) fun σ H Q h=>?_
 obtain ⟨env,r,h⟩:=h
 simp only [evD] at h
 refine ⟨env,r,(Rs.good_bind.mp h).imp fun d hd=>fun v H1 s1 rv=>?_⟩
 show ∃ p ws,[v] = [.ref p] /\ _
 cases d with
 | lst ds=>
  obtain ⟨p,xs,rfl,h1,h2⟩:=rv
  simp only [op1] at hd
  cases q:strsOf ds with
  | none=>rw [q] at hd; exact hd.elim
  | some ws=>
   rw [q] at hd
   have e:=JaS q
   subst e
   have e2:=JdX h2
   subst e2
   simp only at hd
   split at hd
   ·rename_i hlt
    refine ⟨p,ws,rfl,h1,hlt,fun l hl=>?_⟩
    show ∃ p' ks,[V.ref l] = [.ref p'] /\ _
    refine ⟨l,metS ws,rfl,Ji,Nat.lt_of_le_of_lt (Jea ws) hlt,fun l2 ss hl2 a1 a2=>?_⟩
    have e3:=JgV a1 a2 (JeJ ws) (JhO ws)
    subst e3
    have s2:Same H1 (upd H1 l (SetO X l (metS ws))):=fun b o e=>by rw [Ja (Jg e hl)]; exact e
    obtain ⟨s3,r3⟩:=Jci (K:=X.K) (H:=upd H1 l (SetO X l (metS ws))) hl2 (JdU (Pu.sortS ws))
    exact hd _ _ (s1.trans (s2.trans s3)) r3
   ·exact hd.elim
 | _=>exact hd.elim
end
end Rd
namespace Rd
open PySem PySem.Spec PyProof.Rows L2 Pu
def plainN (x:Str):Bool:=!(x == ("__debug__" : Str)) && !(x == ("__classdict__" : Str))
def chkV (N:List Str) (nm:List (Str × NameKind)) (i:Nat) (x:Str):Bool:=(N[i]? == some x) && visB nm x && plainN x
def chkS (N:List Str) (nm:List (Str × NameKind)) (i:Nat) (x:Str):Bool:=(N[i]? == some x) && locB nm x && plainN x
def chkG (nm:List (Str × NameKind)) (x:Str):Bool:=gloB nm x && plainN x
section
variable {X:Cx} {call:CallD} {G:Gw} {N:List Str} {nm:List (Str × NameKind)} {e a b c:Expr} {es:List Expr} {p pa pb pc pl ph:Px} {pos p1 p2 p3:Pos} {x y:Str}
theorem plainN.d (h:plainN x = true):(x == ("__debug__" : Str)) = false /\ (x == ("__classdict__" : Str)) = false:=by
 simpa [plainN] using h
theorem vV (C:Ctx X G N nm) {i:Nat} (h:chkV N nm i x = true):PE X (.Name x pos) (tI X call (.var i)):=by
 simp only [chkV,Bool.and_eq_true,beq_iff_eq] at h
 obtain ⟨d1,d2⟩:=plainN.d h.2
 exact JkB (by rw [C.hN]; exact h.1.1) (C.vis x h.1.2) d1 d2
def GlobC (G:Gw) (x:Str) (d:D):Prop:=∃ v u,G.mg x = some u /\ RelV v u /\ ∀ H,Rep G.K H d v
theorem vG (C:Ctx X G N nm) {d:D} (hk:GlobC G x d) (h:chkG nm x = true):PE X (.Name x pos) (tI X call (.con d)):=by
 simp only [chkG,Bool.and_eq_true] at h
 obtain ⟨d1,d2⟩:=plainN.d h.2
 obtain ⟨v,u,h1,h2,h3⟩:=hk
 exact JjB (C.glo x h.1) ⟨v,u,by rw [C.mg]; exact h1,h2,fun H=>by rw [C.K]; exact h3 H⟩ d1
theorem cF (C:Ctx X G N nm) {fi:Nat} (hc:Callee G call fi x) (h:chkG nm x = true) (ha:PA X (e :: es) (tA X call p)) (he:starEach (e :: es) X.env = (false,eval e X.env) :: starEach es X.env:=by rfl) (hpl:(backTo pos (starEach es X.env)).any (·.1) = false:=by rfl) :
  PE X (.Call (.Name x p1) (e :: es) [] pos) (tI X call (.call fi p)):=by
 simp only [chkG,Bool.and_eq_true] at h
 exact Jkf C hc h.1 (plainN.d h.2).1 ha he hpl
theorem cLen (C:Ctx X G N nm) (hm:G.mg "len" = none) (ha:PE X a (tI X call pa)) (hg:gloB nm "len" = true) (hs:starEach [a] X.env = (false,eval a X.env) :: starEach [] X.env:=by rfl):PE X (.Call (.Name "len" p1) [a] [] pos) (tI X call (.un .len pa)):=JgK C Jlz ha hg hm PySem.boot_len (by decide +kernel) (by decide +kernel) hs
theorem cAll (C:Ctx X G N nm) (hm:G.mg "all" = none) (ha:PE X a (tI X call pa)) (hg:gloB nm "all" = true) (hs:starEach [a] X.env = (false,eval a X.env) :: starEach [] X.env:=by rfl):PE X (.Call (.Name "all" p1) [a] [] pos) (tI X call (.un .all pa)):=JgK C (JlB C.calm) ha hg hm boot_all (by decide +kernel) (by decide +kernel) hs
theorem Jlh (C:Ctx X G N nm) (hm:G.mg "tuple" = none) (ha:PE X a (tI X call pa)) (hg:gloB nm "tuple" = true) (hs:starEach [a] X.env = (false,eval a X.env) :: starEach [] X.env:=by rfl):PE X (.Call (.Name "tuple" p1) [a] [] pos) (tI X call (.un .tuple pa)):=Jjm C Jiv ha hg hm PyProof.Rows.boot_tuple (by decide +kernel) (by decide +kernel) hs
theorem cList (C:Ctx X G N nm) (hm:G.mg "list" = none) (ha:PE X a (tI X call pa)) (hg:gloB nm "list" = true) (hs:starEach [a] X.env = (false,eval a X.env) :: starEach [] X.env:=by rfl):PE X (.Call (.Name "list" p1) [a] [] pos) (tI X call (.un .list pa)):=Jjm C Jkl ha hg hm PyProof.Rows.boot_list (by decide +kernel) (by decide +kernel) hs
theorem cInt (C:Ctx X G N nm) (hm:G.mg "int" = none) (ha:PE X a (tI X call pa)) (hg:gloB nm "int" = true) (hs:starEach [a] X.env = (false,eval a X.env) :: starEach [] X.env:=by rfl):PE X (.Call (.Name "int" p1) [a] [] pos) (tI X call (.un .ints pa)):=Jjm C Jmo ha hg hm PyProof.Rows.boot_int (by decide +kernel) (by decide +kernel) hs
theorem eEq (C:Ctx X G N nm) (ha:PE X a (tI X call pa)) (hb:PE X b (tI X call pb)):PE X (.Compare a [.Eq] [b] pos) (tI X call (.bi .eq pa pb)):=JbX (Jjf C.un) ha hb (JN _)
theorem eNe (C:Ctx X G N nm) (ha:PE X a (tI X call pa)) (hb:PE X b (tI X call pb)):PE X (.Compare a [.NotEq] [b] pos) (tI X call (.bi .ne pa pb)):=JbX (JiR C.un) ha hb (JN _)
theorem eGt (ha:PE X a (tI X call pa)) (hb:PE X b (tI X call pb)):PE X (.Compare a [.Gt] [b] pos) (tI X call (.bi .gt pa pb)):=JbX Jgl ha hb (JN _)
theorem eGe (ha:PE X a (tI X call pa)) (hb:PE X b (tI X call pb)):PE X (.Compare a [.GtE] [b] pos) (tI X call (.bi .ge pa pb)):=JbX Jjh ha hb (JN _)
theorem eIn (C:Ctx X G N nm) (ha:PE X a (tI X call pa)) (hb:PE X b (tI X call pb)) (hm:behindInMarks .In b = false:=by rfl):PE X (.Compare a [.In] [b] pos) (tI X call (.bi .isin pa pb)):=JbX (Jlp C.un) ha hb hm
theorem tEq (C:Ctx X G N nm) (ha:PE X a (tI X call pa)) (hb:PE X b (tI X call pb)):PT X (.Compare a [.Eq] [b] pos) (tT X call (.bi .eq pa pb)):=Jbc (Jjf C.un) ha hb (JN _)
theorem tNe (C:Ctx X G N nm) (ha:PE X a (tI X call pa)) (hb:PE X b (tI X call pb)):PT X (.Compare a [.NotEq] [b] pos) (tT X call (.bi .ne pa pb)):=Jbc (JiR C.un) ha hb (JN _)
theorem tLt (ha:PE X a (tI X call pa)) (hb:PE X b (tI X call pb)):PT X (.Compare a [.Lt] [b] pos) (tT X call (.bi .lt pa pb)):=Jbc JiO ha hb (JN _)
theorem tGt (ha:PE X a (tI X call pa)) (hb:PE X b (tI X call pb)):PT X (.Compare a [.Gt] [b] pos) (tT X call (.bi .gt pa pb)):=Jbc Jgl ha hb (JN _)
theorem tNi (C:Ctx X G N nm) (ha:PE X a (tI X call pa)) (hb:PE X b (tI X call pb)) (hm:behindInMarks .NotIn b = false:=by rfl):PT X (.Compare a [.NotIn] [b] pos) (tT X call (.bi .notin pa pb)):=Jbc (Jgo C.un) ha hb hm
theorem eIx (ha:PE X a (tI X call pa)) (hb:PE X b (tI X call pb)) (hs:PlainIx b:=by intro _ _; rfl):PE X (.Subscript a b pos) (tI X call (.bi .idx pa pb)):=pI_ix Jmf ha hb hs
theorem eAdd (ha:PE X a (tI X call pa)) (hb:PE X b (tI X call pb)):PE X (.BinOp a .Add b pos) (tI X call (.bi .add pa pb)):=JcR JjR ha hb
theorem eSub (ha:PE X a (tI X call pa)) (hb:PE X b (tI X call pb)):PE X (.BinOp a .Sub b pos) (tI X call (.bi .sub pa pb)):=JcR Jjl ha hb
theorem eMul (ha:PE X a (tI X call pa)) (hb:PE X b (tI X call pb)):PE X (.BinOp a .Mult b pos) (tI X call (.bi .mul pa pb)):=JcR Jkm ha hb
theorem eMod (ha:PE X a (tI X call pa)) (hb:PE X b (tI X call pb)):PE X (.BinOp a .Mod b pos) (tI X call (.bi .mod pa pb)):=JcR Jki ha hb
theorem eDiv (ha:PE X a (tI X call pa)) (hb:PE X b (tI X call pb)):PE X (.BinOp a .FloorDiv b pos) (tI X call (.bi .fdiv pa pb)):=JcR JiM ha hb
theorem gOne (C:Ctx X G N nm) (h:chkS N nm 0 x = true):TgOk X (.Name x pos) 0 1:=by
 simp only [chkS,Bool.and_eq_true,beq_iff_eq] at h
 obtain ⟨h1,h2⟩:=C.sto x h.1.2
 exact Jmh (by rw [C.hN]; exact h.1.1) (by rw [C.hN]; exact C.nd) h1 h2
theorem gTwo {k:Nat} (C:Ctx X G N nm) (h:chkS N nm 0 x = true) (h':chkS N nm 1 y = true):TgOk X (.Tuple [.Name x p1,.Name y p2] k pos) 2 2:=by
 simp only [chkS,Bool.and_eq_true,beq_iff_eq] at h h'
 obtain ⟨h1,h2⟩:=C.sto x h.1.2
 obtain ⟨h3,h4⟩:=C.sto y h'.1.2
 exact Jmj (by rw [C.hN]; exact h.1.1) (by rw [C.hN]; exact h'.1.1) (by rw [C.hN]; exact C.nd) h1 h2 h3 h4 C.calm
def scB (N:List Str) (nm:List (Str × NameKind)) (ls:List Str) (sc:Scope):Bool:=(sc.kind == .function) && decide (ls ++ hidN ls N).Nodup && scOkB N nm ls sc.names && N.all (fun n=>!ls.contains n || (sc.names.lookup (dum n)).isNone)
theorem scO {ls:List Str} {sc:Scope} (h:scB N nm ls sc = true):ScOk N nm ls sc:=by
 simp only [scB,Bool.and_eq_true,beq_iff_eq,decide_eq_true_eq] at h
 refine ⟨h.1.1.1,h.1.1.2,h.1.2,fun n hn hc=>?_⟩
 have:=List.all_eq_true.mp h.2 n hn
 simp only [hc,Bool.not_true,Bool.false_or,Option.isNone_iff_eq_none] at this
 exact this
variable {M:List Nat} {H0:Hp} {i j l:Nat} {px:Pos}
def chkA (N:List Str) (nm:List (Str × NameKind)) (M:List Nat) (i:Nat) (x:Str):Bool:=chkS N nm i x && !M.contains i
theorem chkA.at (h:chkA N nm M i x = true):N[i]? = some x /\ locB nm x = true /\ i ∉ M:=by
 simp only [chkA,chkS,Bool.and_eq_true,beq_iff_eq,Bool.not_eq_true',List.contains_eq_mem,decide_eq_false_iff_not] at h
 exact ⟨h.1.1.1,h.1.1.2,h.2⟩
def chkO (N:List Str) (nm:List (Str × NameKind)) (M:List Nat) (i:Nat) (x:Str):Bool:=chkS N nm i x && M.contains i && visB nm x
theorem chkO.at (h:chkO N nm M i x = true):N[i]? = some x /\ locB nm x = true /\ plainN x = true /\ i ∈ M /\ visB nm x = true:=by
 simp only [chkO,chkS,Bool.and_eq_true,beq_iff_eq,List.contains_eq_mem,decide_eq_true_eq] at h
 exact ⟨h.1.1.1.1,h.1.1.1.2,h.1.1.2,h.1.2,h.2⟩
theorem aSet (C:Ctx X G N nm) (h:chkA N nm M i x = true) (he:PE X e (tI X call p)) (hsp:sepP M p = true:=by rfl) (hs:swapsWith e (some (.Name x px)) pos.line X.env = pure false:=by rfl):PS X (.Assign [.Name x px] e pos) (tS X call M H0 (.set false i p)):=by
 obtain ⟨h1,h2,h3⟩:=chkA.at h
 exact JkU C h1 h2 h3 hsp he hs
theorem aOwn (C:Ctx X G N nm) (h:chkO N nm M i x = true) (he:PE X e (tF X call p)) (hs:swapsWith e (some (.Name x px)) pos.line X.env = pure false:=by rfl):PS X (.Assign [.Name x px] e pos) (tS X call M H0 (.own i p)):=by
 obtain ⟨h1,h2,h3,h4,h5⟩:=chkO.at h
 exact Jlv C h1 h2 he hs
section
variable {elt tg iter:Expr} {ifs:List Expr} {ps pe:Px} {nt:Nat} {ls:List Str} {sc:Scope}
theorem JkM {st:Stmt} (h:PS X st (tAsg (tF X call p) (gName i))):PS X st (tAsg (tFH X call p) (gName i)):=by
 intro pins s σ H D I ⟨env,L,hL,r,g⟩
 obtain ⟨ps,e1,e2,I'⟩:=Inv.hide I hL
 refine wpAny_mono (h (ps ++ pins) s σ (hid L H) ⟨fun σ' H1=>Same (hid L H) H1 /\ ((∀ a ∈ L,H1 a = none) -> D.nx σ' (uni L H H1)),fun _ _=>False,fun _ _=>False,fun _ _=>False⟩ I' ⟨env,r,g.mono (fun d ⟨ds,ed,hd⟩=>⟨ds,ed,fun l xs H1 s1 h0 h1 rv=>⟨s1,fun hn=>?_⟩⟩) fun c z=>z⟩)
  (fun f s1 q=>?_) fun _ _ z=>z
 ·have hl:l ∉ L:=fun hm=>by rw [hn l hm] at h1; cases h1
  exact hd l xs _ (JbJ s1) (fun a ha=>Jbe ha) (by rw [Jh hl] at h0; exact h0) (by rw [Jo hl]; exact h1) (by rw [Jdl hn]; exact rv)
 ·cases f with
  | next=>
   obtain ⟨σ',H1,I1,sm,q⟩:=q
   obtain ⟨hn,I2⟩:=Inv.unhide I hL e1 e2 sm I1
   exact ⟨σ',_,I2,q hn⟩
  | brk=>obtain ⟨_,_,_,q⟩:=q; exact q.elim
  | cont=>obtain ⟨_,_,_,q⟩:=q; exact q.elim
  | ret u=>obtain ⟨_,_,_,_,_,q⟩:=q; exact q.elim
theorem JhR (hM:i ∉ M) (hsp:sepP M p = true) (hl:isL p = true) {D:Ends} {σ:L2.St} {H:Hp} (h:tS X call M H0 (.set false i p) D σ H):tAsg (tFH X call p) (gName i) D σ H:=by
 obtain ⟨env,L,k1,k2,k3⟩:=JfB hM hsp h
 refine ⟨env,L,k1,k2,?_⟩
 cases q:evD call p env with
 | ok d=>
  rw [q] at k3
  obtain ⟨ds,rfl⟩:=Jfv hl q
  refine ⟨ds,rfl,fun l xs H1 s1 kk h0 h1 rv=>k3 _ _ s1 kk ?_⟩
  have hl':l ∉ L:=fun hm=>by
   obtain ⟨o,e3,_⟩:=k1 l hm
   rw [h0] at e3; cases e3
  exact ⟨l,xs,rfl,SqL.of (by rw [Jh hl']; exact h1),rv⟩
 | ex c=>rw [q] at k3; exact k3
 | stuck=>rw [q] at k3; exact k3.elim
def tgN:Expr -> List Str
 | .Name x _=>[x]
 | .Tuple es _ _=>es.filterMap fun e=>match e with
  | .Name x _=>some x
  | _=>none
 | _=>[]
abbrev cN (tg:Expr) (N:List Str):List Str:=tgN tg ++ hidN (tgN tg) N
theorem aSetC (C:Ctx X G N nm) (h:chkA N nm M i x = true) (hsc:scB N nm (tgN tg) sc = true) (hsrc:PI X tg iter (tW X call ps)) (htg:∀ X',Ctx X' G (cN tg N) sc.names -> TgOk X' tg nt (tgN tg).length) (hif:∀ X',Ctx X' G (cN tg N) sc.names -> PIf X' ifs (tT X' call pc))
  (helt:∀ X',Ctx X' G (cN tg N) sc.names -> PE X' elt (tI X' call pe)) (hsp:sepP M (.comp nt ps pc pe) = true:=by rfl) (hs:∀ x,foldedSetIterable iter X.env x = pure x:=by intro _; rfl):PS X (.Assign [.Name x px] (.ListComp elt [⟨tg,iter,ifs,0⟩] sc p1) pos) (tS X call M H0 (.set false i (.comp nt ps pc pe))):=by
 obtain ⟨h1,h2,h3⟩:=chkA.at h
 exact PS.weak (JkM (Jbt C (scO hsc) (by rw [C.hN]; exact h1) h2 hsrc htg hif helt hs)) fun D σ H q=>JhR h3 hsp rfl q
theorem aOwnC (C:Ctx X G N nm) (h:chkO N nm M i x = true) (hsc:scB N nm (tgN tg) sc = true) (hsrc:PI X tg iter (tW X call ps)) (htg:∀ X',Ctx X' G (cN tg N) sc.names -> TgOk X' tg nt (tgN tg).length) (hif:∀ X',Ctx X' G (cN tg N) sc.names -> PIf X' ifs (tT X' call pc))
  (helt:∀ X',Ctx X' G (cN tg N) sc.names -> PE X' elt (tI X' call pe)) (hs:∀ x,foldedSetIterable iter X.env x = pure x:=by intro _; rfl):PS X (.Assign [.Name x px] (.ListComp elt [⟨tg,iter,ifs,0⟩] sc p1) pos) (tS X call M H0 (.own i (.comp nt ps pc pe))):=by
 obtain ⟨h1,h2,h3,h4,h5⟩:=chkO.at h
 exact PS.weak (Jbt C (scO hsc) (by rw [C.hN]; exact h1) h2 hsrc htg hif helt hs) fun D σ H q=>JgO q
theorem fComp (C:Ctx X G N nm) (hsc:scB N nm (tgN tg) sc = true) (hsrc:PI X tg iter (tW X call ps)) (htg:∀ X',Ctx X' G (cN tg N) sc.names -> TgOk X' tg nt (tgN tg).length) (hif:∀ X',Ctx X' G (cN tg N) sc.names -> PIf X' ifs (tT X' call pc))
  (helt:∀ X',Ctx X' G (cN tg N) sc.names -> PE X' elt (tI X' call pe)) (hs:∀ x,foldedSetIterable iter X.env x = pure x:=by intro _; rfl):PE X (.ListComp elt [⟨tg,iter,ifs,0⟩] sc pos) (tF X call (.comp nt ps pc pe)):=JfZ C (scO hsc) hsrc htg hif helt hs
end
theorem aApp {apos pos':Pos} (C:Ctx X G N nm) (h:chkO N nm M i x = true) (he:PE X e (tI X call p)) (hl:(apos.endLine == pos.line) = true) (hsp:sepP M p = true:=by rfl) (hs:starEach [e] X.env = (false,eval e X.env) :: starEach [] X.env:=by rfl) :
  PS X (.Expr (.Call (.Attribute (.Name x px) "append" apos) [e] [] pos) pos') (tS X call M H0 (.app false i p)):=by
 obtain ⟨h1,h2,h3,h4,h5⟩:=chkO.at h
 obtain ⟨d1,d2⟩:=plainN.d h3
 exact JlK C h1 h5 d1 d2 h4 hsp he hl hs
theorem aExt {apos pos':Pos} (C:Ctx X G N nm) (h:chkO N nm M i x = true) (he:PE X e (tI X call p)) (hl:(apos.endLine == pos.line) = true) (hsp:sepP M p = true:=by rfl) (hs:starEach [e] X.env = (false,eval e X.env) :: starEach [] X.env:=by rfl) :
  PS X (.Expr (.Call (.Attribute (.Name x px) "extend" apos) [e] [] pos) pos') (tS X call M H0 (.ext false i (.walk (.un .rows p)))):=by
 obtain ⟨h1,h2,h3,h4,h5⟩:=chkO.at h
 obtain ⟨d1,d2⟩:=plainN.d h3
 exact JmB C h1 h5 d1 d2 h4 hsp he hl hs
theorem lOne (C:Ctx X G N nm) (h:chkA N nm M i x = true):PG X (.Name x pos) (gS X M H0 [i] 0):=by
 obtain ⟨h1,h2,h3⟩:=chkA.at h
 exact JlY C h1 h2 h3
theorem lTwo {k:Nat} (C:Ctx X G N nm) (h:chkA N nm M i x = true) (h':chkA N nm M j y = true):PG X (.Tuple [.Name x p1,.Name y p2] k pos) (gS X M H0 [i,j] 2):=by
 obtain ⟨h1,h2,h3⟩:=chkA.at h
 obtain ⟨g1,g2,g3⟩:=chkA.at h'
 exact Jlf C h1 h2 h3 g1 g2 g3
theorem Jlq {k:Nat} {z:Str} (C:Ctx X G N nm) (h:chkA N nm M i x = true) (h':chkA N nm M j y = true) (h'':chkA N nm M l z = true):PG X (.Tuple [.Name x p1,.Name y p2,.Name z p3] k pos) (gS X M H0 [i,j,l] 3):=by
 obtain ⟨h1,h2,h3⟩:=chkA.at h
 obtain ⟨g1,g2,g3⟩:=chkA.at h'
 obtain ⟨k1,k2,k3⟩:=chkA.at h''
 exact Jiw C h1 h2 h3 g1 g2 g3 k1 k2 k3
end
end Rd
namespace Rd
open PySem PySem.Spec PyProof.Rows L2 Pu
section
variable {X:Cx} {ps:List (Addr × Obj)} {σ:L2.St} {H:Hp} {s:Shared} {B h1 h2:Heap}
end
section
variable {X:Cx} {pins:List (Addr × Obj)} {σ σ':L2.St} {H:Hp} {s:Shared} {h':Heap}
end
structure ExcC (G:Gw) (x:Str):Prop where
 ex:∃ C,PySem.W.nsIn G.K mainGlobals x = some (some (.ref C)) /\ G.mg x = some (.ref C) /\ ∃ bs nid iid Bn,PySem.W.excIn G.K C bs nid = true /\ ExcBaseFacts Bn nid iid bs
section
variable {X:Cx} {pins:List (Addr × Obj)} {σ:L2.St} {H:Hp} {s:Shared} {E:Value -> Shared -> Prop} {A:Around}
end
section
variable {X:Cx} {pins:List (Addr × Obj)} {H:Hp} {s:Shared} {E:Value -> Shared -> Prop} {C CR a:Addr} {rn en y:Str} {np hp py pe p2:Pos} {je j:Nat} {D:Ends}
end
end Rd
namespace Rd
open PySem PySem.Spec PyProof.Rows L2 Pu
structure Takes (G:Gw) (rn:Str) (cs:List Str):Prop where
 ex:∃ CR,G.mg rn = some (.ref CR) /\ ∀ c ∈ cs,∃ C,PySem.W.nsIn G.K mainGlobals c = some (some (.ref C)) /\ G.mg c = some (.ref C) /\ PySem.W.exmOne G.K (.ref C) (.ref CR) = some true
section
variable {X:Cx} {call:CallD} {G:Gw} {N:List Str} {nm:List (Str × NameKind)} {e:Expr} {p:Px} {x y en rn:Str} {i j je:Nat} {H0:Hp} {cs:List Str} {px p1 np hp py pe p2 pos:Pos}
end
end Rd
namespace Rd
open PySem PySem.Spec PyProof.Rows L2 Pu
section
variable {X:Cx} {call:CallD} {G:Gw} {N:List Str} {nm:List (Str × NameKind)} {e:Expr} {p:Px} {x:Str} {i j:Nat} {M:List Nat} {H0:Hp} {np cpos pos:Pos}
end
end Rd
namespace Rd
open PySem PySem.Spec PyProof.Rows L2 Pu
section
variable {X:Cx} {call:CallD} {a b:Expr} {pa pb:Px} {pos p1 p2:Pos} {G:Gw} {N:List Str} {nm:List (Str × NameKind)}
theorem JbF:∀ {ds:List D} {x:D} {n:Nat},idxD x ds = some n -> (∃ d,ds[n]? = some d /\ d.eqv x = true) /\ ∀ m d,m < n -> ds[m]? = some d -> d.eqv x = false
 | [],x,n,h=>by simp [idxD] at h
 | d :: ds,x,n,h=>by
  unfold idxD at h
  split at h
  ·rename_i q
   cases h
   exact ⟨⟨d,rfl,q⟩,fun m d' hm=>absurd hm (Nat.not_lt_zero _)⟩
  ·rename_i q
   rw [Option.map_eq_some_iff] at h
   obtain ⟨k,hk,rfl⟩:=h
   obtain ⟨⟨d',h1,h2⟩,h3⟩:=JbF hk
   refine ⟨⟨d',by simpa using h1,h2⟩,fun m d'' hm he=>?_⟩
   cases m with
   | zero=>simp at he; subst he; simpa using q
   | succ m=>exact h3 m d'' (by omega) (by simpa using he)
theorem Jhz (hu:X.A.units + 64 < cLine):MtR X "list.index" (fun x xs H Q=>∃ y,xs = [y] /\ ∃ ds dy,Rep X.K H (.lst ds) x /\ Rep X.K H dy y /\ (op2 .index (.lst ds) dy).Good (Out X H Q) (XW X H)):=by
 intro pins s σ H x xs v us Q I rx rv ⟨y,e,ds,dy,r1,r2,h⟩
 subst e
 obtain ⟨u,rfl,ru⟩:=Jaz rv
 simp only [op2] at h
 split at h
 ·rename_i hc
  simp only [okDep,Bool.and_eq_true,decide_eq_true_eq] at hc
  have hdep:deps ds + 1 <= 20:=hc.1.1
  cases q:idxD dy ds with
  | none=>rw [q] at h; exact h.elim
  | some j=>
   rw [q] at h
   obtain ⟨⟨d',g1,g2⟩,g3⟩:=JbF q
   obtain ⟨l,zs,rfl,h1,h2⟩:=r1
   cases rx
   obtain ⟨its,rvv,⟨o,n,e1,c1,d1,k1⟩,_⟩:=I.list h1
   obtain ⟨oc,od,oda,osl⟩:=o
   simp only at c1 d1 k1
   subst c1; subst d1; subst k1
   have l1:=rvv.length
   have l2:=h2.length
   have hj:j < ds.length:=(List.getElem?_eq_some_iff.mp g1).1
   have at_:∀ (m:Nat) (hm:m < its.toArray.size),eU ds its dy its.toArray[m] = (ds[m]'(by simp at hm; omega)).eqv dy:=fun m hm=>by
    have hm':m < its.length:=by simpa using hm
    have:=Jii I h2 rvv (by omega) (d:=dy) (j:=m) (List.getElem?_eq_getElem hm') (List.getElem?_eq_getElem (by omega:m < ds.length))
    simpa using this
   refine call_meets F.slot_list_index ⟨_,e1,rfl⟩ F.entry_list_index (F.args_list_index_2 _ _) (SeqAt.list_indexAt l its.toArray n none osl u (eU ds its dy) j (by simp; omega) (by omega) ?_ ?_) ⟨e1,Jbv hu I h2 rvv r2 ru (by omega) hc.1.2,?_⟩
   ·rw [at_ j (by simp; omega)]
    have:ds[j] = d':=by rw [List.getElem?_eq_getElem hj] at g1; simpa using g1
    rw [this]; exact g2
   ·intro m hm hlt
    rw [at_ m hm]
    exact g3 m _ hlt (List.getElem?_eq_getElem (by simp at hm; omega))
   ·exact ⟨.int _,H,I.tok _,⟨_,rfl⟩,Out.now h rfl⟩
 ·exact h.elim
theorem Jhy {id:String} {name:Str} {o:O2} {apos:Pos} (slot:Slot "list" name id) (hty:typeOf (.builtin id) = pure (.type "method_descriptor")) (ho:∀ dx dy,(∀ ds,dx ≠ .lst ds) -> op2 o dx dy = .stuck)
  (hm:MtR X id (fun x xs H Q=>∃ y,xs = [y] /\ ∃ ds dy,Rep X.K H (.lst ds) x /\ Rep X.K H dy y /\ (op2 o (.lst ds) dy).Good (Out X H Q) (XW X H))) (ha:PE X a (tI X call pa)) (hb:PE X b (tI X call pb)) (hn:noEx pb = true) (hl:(apos.endLine == pos.line) = true)
  (hbase:attributeBase a name X.env (eval a X.env) = eval a X.env:=by rfl) (hs:starEach [b] X.env = (false,eval b X.env) :: starEach [] X.env:=by rfl):PE X (.Call (.Attribute a name apos) [b] [] pos) (tI X call (.bi o pa pb)):=by
 refine PE.weak (JiK F.plainAttrs_list slot hty hm ha (JD hb JaD hs) hbase (by rw [hs]; rfl) hl hs rfl) fun σ H Q h=>?_
 obtain ⟨env,r,h⟩:=h
 simp only [evD] at h
 refine tI.then r h fun dx x H1 s1 r1 q1 h1=>?_
 cases hb':evD call pb env with
 | ex c=>exact absurd hb' (Jbb call pb env c hn)
 | stuck=>rw [hb'] at h1; exact h1.elim
 | ok dy=>
  rw [hb'] at h1
  simp only [Rs.bind_ok] at h1
  have ty:∃ ds,dx = .lst ds:=by
   cases dx with
   | lst ds=>exact ⟨ds,rfl⟩
   | _=>rw [ho _ _ (by intro ds; simp)] at h1; exact h1.elim
  obtain ⟨ds,rfl⟩:=ty
  obtain ⟨l,xs,rfl,g1,g2⟩:=(show _ from r1)
  refine ⟨.inl ⟨rfl,xs,g1⟩,env,q1,?_⟩
  rw [hb']
  intro y H2 s2 r2
  exact ⟨y,rfl,ds,dy,r1.mono s2,r2,h1.mono (fun _ o=>o.mono s2) fun _ q=>q.mono s2⟩
theorem JkS {apos:Pos} (C:Ctx X G N nm) (ha:PE X a (tI X call pa)) (hb:PE X b (tI X call pb)) (hn:noEx pb = true) (hl:(apos.endLine == pos.line) = true) (hbase:attributeBase a "index" X.env (eval a X.env) = eval a X.env:=by rfl) (hs:starEach [b] X.env = (false,eval b X.env) :: starEach [] X.env:=by rfl) :
  PE X (.Call (.Attribute a "index" apos) [b] [] pos) (tI X call (.bi .index pa pb)):=Jhy F.slot_list_index F.type_list_index (fun dx dy h=>by cases dx <;> first | rfl | exact absurd rfl (h _)) (Jhz C.un) ha hb hn hl hbase hs
end
end Rd
namespace Rd
open PySem PySem.Spec PyProof.Rows L2 Pu
section
open PySem.W PySem.Calls
variable {prog:Program} {w:World} {A:Around} {E:Value -> Shared -> Prop} {K:Frag} {x D:Addr}
structure ExKit (K:Frag) (D:Addr):Prop where
 g:findIn K (.ref D) "__getattribute__" = some (some (.builtin "BaseException.__getattribute__"))
 n:findIn K (.ref D) "__getattr__" = some none
 b:mroIn K D (.type "BaseException") = some true
 d:hasDictIn K D = true
 a:findIn K (.ref D) "__class__" = some (some (.builtin "object.__class__"))
 s:specialIn K (.builtin "object.__class__") "__get__" = some (some (.builtin "getset_descriptor.__get__"))
 t:takesIn K (.builtin "object.__class__") = some true
 m:mroIn K D (.type "object") = some true
end
structure IsaC (G:Gw) (t:Str) (cs:List Str):Prop where
 ex:∃ (u:Value) (v:V),RelV v u /\ (G.mg t = some u \/ (G.mg t = none /\ bootBuiltins t = some u /\ t ≠ "__name__")) /\ ∀ c ∈ cs,∃ C,PySem.W.nsIn G.K mainGlobals c = some (some (.ref C)) /\ ExKit G.K C /\ PySem.W.kitOne G.K (.ref C) u = some (t == Str.ofString "ValueError" || c == t)
section
variable {X:Cx} {call:CallD} {a:Expr} {pa:Px} {pos p1 p2:Pos} {G:Gw} {N:List Str} {nm:List (Str × NameKind)} {t:Str} {cs:List Str}
end
end Rd
namespace Rd
open PySem PySem.Spec PyProof.Rows L2 Pu
def tkeyV (k:List L2.Key):D:=.tup (k.map keyV)
def NoKT (K:PySem.W.Frag):Prop:=∀ (y:Str) (b:Addr) (k:List L2.Key) (o:Obj) (its:Array Value) (n:Nat),PySem.W.nsIn K mainGlobals y = some (some (.ref b)) -> K.lookup b = some o -> o.cls = .type "tuple" -> o.data = .seq its n -> ((k.map keyV).all keyI || (k.map keyV).all keyS) = true -> Vals (k.map kV) its.toList -> False
section
variable {κ:Type} [DecidableEq κ] {g:κ -> D}
end
section
variable {prog:Program} {w:World} {κ:Type} [DecidableEq κ] {kd:HeapKind prog w κ} {A:Around} {E:Value -> Shared -> Prop} {s:Shared} {d:Addr} {xs:List (κ × Addr × Value)}
end
section
variable {X:Cx} {call:CallD} {G:Gw} {N:List Str} {nm:List (Str × NameKind)} {e a b:Expr} {p pa pb:Px} {pos p1:Pos} {x:Str} {i:Nat} {M:List Nat} {H0:Hp} {px:Pos}
end
end Rd
namespace Rd
open PySem PySem.Spec PyProof.Rows L2 Pu
section
variable {X:Cx} {pins:List (Addr × Obj)} {σ:L2.St} {H:Hp} {s:Shared} {l:Addr}
end
section
variable {X:Cx} {call:CallD} {G:Gw} {N:List Str} {nm:List (Str × NameKind)} {e a b:Expr} {p pa pb:Px} {pos p1 p2:Pos} {x:Str} {i:Nat} {M:List Nat} {H0:Hp} {px:Pos}
end
end Rd
namespace Rd
open PySem PySem.Spec PyProof.Rows L2 Pu
def swB (M M2 is:List Nat):Bool:=(M ++ M2).all fun i=>is.contains i || (M.contains i && M2.contains i)
theorem swB.at {M M2 is:List Nat} (h:swB M M2 is = true) {i:Nat} (hi:i ∉ is):i ∈ M ↔ i ∈ M2:=by
 have k:∀ j ∈ M ++ M2,j ∉ is -> j ∈ M /\ j ∈ M2:=fun j hj hn=>by
  have:=List.all_eq_true.mp h j hj
  simp only [Bool.or_eq_true,Bool.and_eq_true,List.contains_iff_mem] at this
  exact this.resolve_left hn
 exact ⟨fun q=>(k i (by simp [q]) hi).2,fun q=>(k i (by simp [q]) hi).1⟩
section
variable {X:Cx} {call:CallD} {M M2 is:List Nat} {H0:Hp} {e:Expr} {p:Px} {b:Sx} {pos:Pos} {rest:List Stmt}
end
end Rd
namespace Rd
open PySem PySem.Spec PyProof.Rows L2
open Sem (wp)
section
variable {prog:Program} {w:World} {A:Around} {R:Result -> Shared -> Prop} {I d:Addr} {fp wr:List Addr} {n:Nat} {P:Nat -> Value -> Prop} {St:Nat -> Heap -> Prop} {κ:Type} [DecidableEq κ] {knd:KeyKind prog w κ}
end
end Rd
namespace Rd
open PySem PySem.Spec PyProof.Rows L2 Pu
section
variable {X:Cx}
end
section
variable {X:Cx} {call:CallD} {G:Gw} {N:List Str} {nm:List (Str × NameKind)} {a:Expr} {pa:Px} {pos p1:Pos}
end
end Rd
namespace Rd
open PySem PySem.Spec PyProof.Rows L2 Pu
section
variable {prog:Program} {w:World} {A:Around} {E:Value -> Shared -> Prop} {s:Shared}
end
section
variable {prog:Program} {w:World} {A:Around} {E:Value -> Shared -> Prop} {s:Shared}
end
section
variable {X:Cx} {call:CallD} {G:Gw} {N:List Str} {nm:List (Str × NameKind)} {a:Expr} {pa:Px} {pos p1 p2 p3:Pos}
end
end Rd
namespace Rd
open PySem PySem.Spec PyProof.Rows L2 Pu
section
variable {X:Cx} {call:CallD} {G:Gw} {N:List Str} {nm:List (Str × NameKind)} {k v:Expr} {pk pv:Px} {pos:Pos}
end
end Rd
namespace Rd
open PySem PySem.Spec PyProof.Rows L2 Pu
section
variable {X:Cx} {call:CallD} {e:Expr} {p pe:Px} {pos:Pos}
end
end Rd
namespace Rd
open PySem PySem.Spec PyProof.Rows L2 Pu
section
variable {prog:Program} {w:World} {A:Around} {E:Value -> Shared -> Prop} {s:Shared} {it d:Addr} {od:Obj} {es:Array DictEntry} {ep i:Nat} {ok ov:Value}
end
end Rd
namespace Rd
open PySem PySem.Spec PyProof.Rows L2 Pu
section
variable {prog:Program} {w:World} {A:Around} {E:Value -> Shared -> Prop} {s:Shared} {d:Addr} {od:Obj} {es:Array DictEntry} {ep:Nat}
end
def DKo (H:Hp) (d:Addr) (t:Bool) (o:Obj) (ks:List D) (xs:List V):Prop:=match t with
 | true=>∃ kvs:List (List L2.Key × V),H d = some (.frz o (.dT kvs)) /\ ks = kvs.map (fun p=>tkeyV p.1) /\ xs = kvs.map (·.2)
 | false=>∃ kvs:List (L2.Key × V),H d = some (.frz o (.dK kvs)) /\ ks = kvs.map (fun p=>keyV p.1) /\ xs = kvs.map (·.2)
theorem DKo.same {H H':Hp} {d:Addr} {t:Bool} {o:Obj} {ks:List D} {xs:List V} (s:Same H H') (h:DKo H d t o ks xs):DKo H' d t o ks xs:=by
 cases t <;> obtain ⟨kvs,q,e1,e2⟩:=h <;> exact ⟨kvs,s _ _ q,e1,e2⟩
section
variable {X:Cx} {pins:List (Addr × Obj)} {σ:L2.St} {H:Hp} {s:Shared} {d:Addr} {t:Bool} {o:Obj} {ks:List D} {xs:List V}
end
section
variable {X:Cx} {call:CallD} {G:Gw} {N:List Str} {nm:List (Str × NameKind)} {a:Expr} {pa:Px} {pos ap tp:Pos} {elts:List Expr} {kk:Nat}
end
end Rd
namespace Rd
open PySem PySem.Spec PyProof.Rows L2 Pu
section
variable {X:Cx} {call:CallD} {v:Expr} {vs:List Expr} {pv pvs:Px} {pos:Pos}
end
end Rd
namespace Rd
open PySem PySem.Spec PyProof.Rows L2 Pu
section
variable {prog:Program} {w:World} {A:Around} {E:Value -> Shared -> Prop} {s:Shared} {l I S:Addr} {vs:List Value} {R:Result -> Shared -> Prop} {Q:Value -> Shared -> Prop}
end
section
variable {X:Cx} {call:CallD} {G:Gw} {N:List Str} {nm:List (Str × NameKind)} {a:Expr} {pa:Px} {pos p1 p2 p3 q1 q2:Pos}
theorem Vals.back {xs:List V} {us:List Value} {i:Nat} {u:Value} (r:Vals xs us) (h:us[i]? = some u):∃ x,xs[i]? = some x /\ RelV x u:=by
 cases q:xs[i]? with
 | none=>rw [r.none_of q] at h; cases h
 | some x=>
  obtain ⟨u',h1,h2⟩:=r.get q
  rw [h1] at h; cases h
  exact ⟨x,rfl,h2⟩
theorem cw_kw {M:Model} {A:Around} {E:Value -> Shared -> Prop} {s:Shared} {id:String} {args:List (Bool × Sem Value)} {kws:List (Option Str × Sem Value)} {Q:Value -> Shared -> Prop} (hplain:args.any (·.1) = false) (hk:kws.any (·.1.isNone) = false)
  (h:wpAny M A (evalArgs (.builtin id) true args kws) (fun a s₁=>wpAny M A (PySem.call (.builtin id) a.pos a.kw) Q E s₁) E s) :
  wpAny M A (callWith pos (.builtin id) [] args kws) Q E s:=by
 unfold callWith
 refine wpAny_bind (wpAny_holding (wpAny_mono h (fun a s₁ h₁=>wpAny_bind (wpAny_standAt ?_)) fun _ _ x=>x))
 simp only [hplain,hk,Bool.or_false]
 refine wpAny_bind (wpAny_pure ?_)
 exact wpAny_bind (wpAny_mono h₁ (fun r s₂ hr=>wpAny_bind (wpAny_holding (wpAny_point (wpAny_pure hr)))) fun _ _ x=>x)
theorem back_ {M:Model} {A:Around} {E:Value -> Shared -> Prop} {s:Shared} {m:Sem Value} {Q:Value -> Shared -> Prop} (h:wpAny M A m Q E s):wpAny M A (do let v <- m; standAt pos; pure v) Q E s:=
 wpAny_bind (wpAny_mono h (fun v s₁ h₁=>wpAny_bind (wpAny_standAt (wpAny_pure h₁))) fun _ _ x=>x)
end
end Rd
namespace Rd
open PySem PySem.Spec PyProof.Rows L2 Pu
theorem dk {p:Prop} (h:p:=by decide +kernel):p:=h
section
variable {X:Cx} {call:CallD} {M:List Nat} {H0:Hp} {G:Gw} {N:List Str} {nm:List (Str × NameKind)} {e tg a:Expr} {p pa:Px} {pos p1 p2 p3:Pos} {ts:List Nat} {nt:Nat}
end
end Rd
namespace Rd
open PySem PySem.Spec PyProof.Rows L2 Pu
section
variable {X:Cx} {call:CallD} {G:Gw} {N:List Str} {nm:List (Str × NameKind)} {e:Expr} {es:List Expr} {p:Px} {pos p1:Pos} {x:Str}
end
end Rd
namespace Rd
open PySem PySem.Spec PyProof.Rows L2 Pu
section
variable {X:Cx} {call:CallD} {G:Gw} {N:List Str} {nm:List (Str × NameKind)} {pos px ps:Pos} {x:Str} {M:List Nat} {H0:Hp} {i:Nat} {b v:Expr} {pk pv:Px}
theorem Reps.set {K:PySem.W.Frag} {H:Hp}:∀ {ds:List D} {xs:List V} (j:Nat) {d:D} {v:V},Reps K H ds xs -> Rep K H d v -> Reps K H (ds.set j d) (xs.set j v)
 | [],_,_,_,_,h,_=>by cases h; exact rfl
 | a :: ds,_,0,d,v,⟨y,r,e1,h1,h2⟩,hv=>by subst e1; exact ⟨v,r,rfl,hv,h2⟩
 | a :: ds,_,j + 1,d,v,⟨y,r,e1,h1,h2⟩,hv=>by subst e1; exact ⟨y,r.set j v,rfl,h1,Reps.set j h2 hv⟩
end
end Rd
namespace Rd
open PySem PySem.Spec PyProof.Rows L2 Pu
section
variable {X:Cx} {call:CallD} {G:Gw} {N:List Str} {nm:List (Str × NameKind)} {pos p1:Pos} {a:Expr} {pa:Px}
end
end Rd
namespace Rd
open PySem PySem.Spec PyProof.Rows L2 Pu
section
variable {X:Cx} {call:CallD} {G:Gw} {N:List Str} {nm:List (Str × NameKind)} {pos px pt:Pos} {x y:Str} {M:List Nat} {H0:Hp} {i t:Nat} {b v:Expr} {pk pv:Px} {apos cpos:Pos}
end
end Rd
namespace Rd
open PySem PySem.Spec PyProof.Rows L2 Pu
section
variable {X:Cx} {call:CallD} {G:Gw} {N:List Str} {nm:List (Str × NameKind)} {k v:Expr} {pk pv:Px} {pos px p1:Pos} {M:List Nat} {H0:Hp} {i:Nat} {x:Str}
end
end Rd
namespace Rd
open PySem PySem.Spec PyProof.Rows L2 Pu
section
variable {prog:Program} {w:World} {A:Around} {E:Value -> Shared -> Prop} {s:Shared} {it d:Addr} {od:Obj} {es:Array DictEntry} {ep i:Nat}
end
section
variable {prog:Program} {w:World} {κ:Type} [DecidableEq κ] {kd:HeapKind prog w κ} {A:Around} {E:Value -> Shared -> Prop} {s:Shared} {d:Addr} {xs:List (κ × Addr × Value)} {od:Obj} {es:Array DictEntry} {ep:Nat}
end
section
variable {X:Cx} {call:CallD} {G:Gw} {N:List Str} {nm:List (Str × NameKind)} {a:Expr} {pa:Px} {pos p1:Pos}
end
end Rd
namespace Rd
open PySem PySem.Spec PyProof.Rows L2 Pu
def insI (lt:Nat -> Nat -> Bool) (x:Nat):List Nat -> List Nat
 | []=>[x]
 | y :: ys=>if lt y x then y :: insI lt x ys else x :: y :: ys
def sortI (lt:Nat -> Nat -> Bool):List Nat -> List Nat
 | []=>[]
 | x :: xs=>insI lt x (sortI lt xs)
def vecs (m:Nat):Nat -> List (List Nat)
 | 0=>[[]]
 | n + 1=>(vecs m n).flatMap fun v=>(List.range m).map (· :: v)
def ltV (v:List Nat) (i j:Nat):Bool:=Nat.blt (v.getD i 0) (v.getD j 0)
def rankOf (v:List Nat) (x:Nat):Nat:=(v.filter fun y=>Nat.blt y x).length
def canon (v:List Nat):Bool:=v.all fun x=>Nat.beq (rankOf v x) x
def sameN:List Nat -> List Nat -> Bool
 | [],[]=>true
 | x :: xs,y :: ys=>Nat.beq x y && sameN xs ys
 | _,_=>false
theorem Jes:∀ {a b:List Nat},sameN a b = true -> a = b
 | [],[],_=>rfl
 | [],_ :: _,h=>by cases h
 | _ :: _,[],h=>by cases h
 | x :: xs,y :: ys,h=>by
  simp only [sameN,Bool.and_eq_true] at h
  rw [Nat.eq_of_beq_eq_true h.1,Jes h.2]
def chkTr (n:Nat):PySem.W.KasT (Array Nat) -> List (List Nat) -> Bool
 | .ret p,vs=>vs.all fun v=>sameN p.toList (sortI (ltV v) (List.range n))
 | .ask i j k,vs=>match vs with
  | []=>true
  | _ :: _=>Nat.blt i n && Nat.blt j n && !Nat.beq i j && chkTr n (k true) (vs.filter fun v=>ltV v i j) && chkTr n (k false) (vs.filter fun v=>!ltV v i j)
def vecP (n k:Nat):List (List Nat):=((vecs n (n - 1)).map (k :: ·)).filter canon
def chkP (n k:Nat):Bool:=chkTr n (PySem.W.kas_sort n) (vecP n k)
def chkN (n:Nat):Bool:=(List.range n).all (chkP n)
theorem chk2:chkN 2 = true:=by decide +kernel
theorem chk3:chkN 3 = true:=by decide +kernel
theorem chk4:chkN 4 = true:=by decide +kernel
theorem chk5:chkN 5 = true:=by decide +kernel
theorem chk60:chkP 6 0 = true:=by decide +kernel
theorem chk61:chkP 6 1 = true:=by decide +kernel
theorem chk62:chkP 6 2 = true:=by decide +kernel
theorem chk63:chkP 6 3 = true:=by decide +kernel
theorem chk64:chkP 6 4 = true:=by decide +kernel
theorem chk65:chkP 6 5 = true:=by decide +kernel
theorem chk6:chkN 6 = true:=by
 show (chkP 6 0 && (chkP 6 1 && (chkP 6 2 && (chkP 6 3 && (chkP 6 4 && (chkP 6 5 && true)))))) = true
 rw [chk60,chk61,chk62,chk63,chk64,chk65]; rfl
def runO (n:Nat) (lt:Nat -> Nat -> Bool):PySem.W.KasT (Array Nat) -> Option (List Nat)
 | .ret p=>some p.toList
 | .ask i j k=>if i < n /\ j < n /\ i ≠ j then runO n lt (k (lt i j)) else none
theorem Jfo {n:Nat}:∀ (t:PySem.W.KasT (Array Nat)) (vs:List (List Nat)),chkTr n t vs = true -> ∀ v ∈ vs,runO n (ltV v) t = some (sortI (ltV v) (List.range n)):=fun t=>by
 induction t with
 | ret p=>
  intro vs h v hv
  simp only [chkTr,List.all_eq_true] at h
  simp only [runO]
  rw [Jes (h v hv)]
 | ask i j k ih=>
  intro vs h v hv
  cases vs with
  | nil=>cases hv
  | cons x vs=>
   simp only [chkTr,Bool.and_eq_true] at h
   obtain ⟨⟨⟨⟨h1,h2⟩,h0⟩,h3⟩,h4⟩:=h
   have h0:i ≠ j:=fun e=>by rw [e,Nat.beq_refl] at h0; cases h0
   have h1:i < n:=by simpa [Nat.blt_eq] using h1
   have h2:j < n:=by simpa [Nat.blt_eq] using h2
   rw [runO,if_pos ⟨h1,h2,h0⟩]
   cases q:ltV v i j with
   | true=>exact ih true _ h3 v (List.mem_filter.mpr ⟨hv,q⟩)
   | false=>exact ih false _ h4 v (List.mem_filter.mpr ⟨hv,by simp [q]⟩)
theorem JeF {n:Nat} {lt lt':Nat -> Nat -> Bool} (h:∀ i j,i < n -> j < n -> lt i j = lt' i j):∀ t:PySem.W.KasT (Array Nat),runO n lt t = runO n lt' t:=fun t=>by
 induction t with
 | ret p=>rfl
 | ask i j k ih=>
  simp only [runO]
  by_cases q:i < n /\ j < n /\ i ≠ j
  ·rw [if_pos q,if_pos q,h i j q.1 q.2.1]; exact ih _
  ·rw [if_neg q,if_neg q]
theorem Jeb {lt:Nat -> Nat -> Bool} {x z:Nat}:∀ {ys:List Nat},z ∈ insI lt x ys -> z = x \/ z ∈ ys
 | [],h=>.inl (by simpa [insI] using h)
 | y :: ys,h=>by
  simp only [insI] at h
  split at h
  ·rcases List.mem_cons.mp h with h | h
   ·exact .inr (by simp [h])
   ·rcases Jeb h with h | h
    ·exact .inl h
    ·exact .inr (by simp [h])
  ·rcases List.mem_cons.mp h with h | h
   ·exact .inl h
   ·exact .inr h
theorem JU {lt:Nat -> Nat -> Bool} {z:Nat}:∀ {ys:List Nat},z ∈ sortI lt ys -> z ∈ ys
 | [],h=>h
 | y :: ys,h=>by
  rcases Jeb h with h | h
  ·simp [h]
  ·exact List.mem_cons_of_mem _ (JU h)
theorem JI {lt:Nat -> Nat -> Bool}:∀ ys:List Nat,(sortI lt ys).length = ys.length
 | []=>rfl
 | y :: ys=>by
  have ins:∀ zs:List Nat,(insI lt y zs).length = zs.length + 1:=fun zs=>by
   induction zs with
   | nil=>rfl
   | cons z zs ih=>simp only [insI]; split <;> simp [ih]
  simp [sortI,ins,JI ys]
theorem Jbo {n:Nat} {lt lt':Nat -> Nat -> Bool} (h:∀ i j,i < n -> j < n -> lt i j = lt' i j) {x:Nat} (hx:x < n):∀ {ys:List Nat},(∀ y ∈ ys,y < n) -> insI lt x ys = insI lt' x ys
 | [],_=>rfl
 | y :: ys,hy=>by
  simp only [insI]
  rw [h y x (hy y (by simp)) hx,Jbo h hx fun z hz=>hy z (by simp [hz])]
theorem JaP {n:Nat} {lt lt':Nat -> Nat -> Bool} (h:∀ i j,i < n -> j < n -> lt i j = lt' i j):∀ {ys:List Nat},(∀ y ∈ ys,y < n) -> sortI lt ys = sortI lt' ys
 | [],_=>rfl
 | y :: ys,hy=>by
  have hy':∀ z ∈ ys,z < n:=fun z hz=>hy z (by simp [hz])
  simp only [sortI]
  rw [JaP h hy',Jbo h (hy y (by simp)) fun z hz=>hy' z (JU hz)]
theorem JR:∀ a:List Int,lexI a a = false
 | []=>rfl
 | x :: a=>by simp [lexI,JR a]
theorem Jt:∀ {a b c:List Int},lexI a b = true -> lexI b c = true -> lexI a c = true
 | [],_,c,h,h'=>by
  cases c with
  | nil=>cases ‹List Int› <;> cases h'
  | cons=>rfl
 | x :: a,[],_,h,_=>by cases h
 | x :: a,y :: b,[],_,h'=>by cases h'
 | x :: a,y :: b,z :: c,h,h'=>by
  simp only [lexI] at h h' ⊢
  by_cases e1:x = y
  ·subst e1
   by_cases e2:x = z
   ·subst e2; simp only [if_true] at h h' ⊢; exact Jt h h'
   ·simp only [e2,if_false] at h' ⊢; exact h'
  ·simp only [e1,if_false,decide_eq_true_eq] at h
   by_cases e2:y = z
   ·subst e2; simp [e1,h]
   ·simp only [e2,if_false,decide_eq_true_eq] at h'
    have:x ≠ z:=by omega
    simp only [this,if_false,decide_eq_true_eq]; omega
theorem JbN:∀ {a b:List Int},lexI a b = false -> lexI b a = false -> a = b
 | [],[],_,_=>rfl
 | [],_ :: _,h,_=>by cases h
 | _ :: _,[],_,h=>by cases h
 | x :: a,y :: b,h,h'=>by
  simp only [lexI] at h h'
  by_cases e:x = y
  ·subst e
   simp only [if_true] at h h'
   rw [JbN h h']
  ·have e':y ≠ x:=fun z=>e z.symm
   simp only [e,e',if_false,decide_eq_false_iff_not] at h h'
   omega
theorem Jhe {α:Type} {p q:α -> Bool}:∀ (l:List α),(∀ x ∈ l,p x = true -> q x = true) -> (l.filter p).length <= (l.filter q).length
 | [],_=>Nat.le_refl _
 | x :: l,h=>by
  have ih:=Jhe l fun y hy=>h y (by simp [hy])
  have hx:=h x (by simp)
  simp only [List.filter_cons]
  cases hp:p x <;> cases hq:q x <;> simp_all <;> omega
theorem JfJ {α:Type} {p q:α -> Bool}:∀ (l:List α),(∀ x ∈ l,p x = true -> q x = true) -> ∀ a ∈ l,p a = false -> q a = true -> (l.filter p).length < (l.filter q).length
 | x :: l,h,a,ha,h1,h2=>by
  have hx:=h x (by simp)
  have hl:∀ y ∈ l,p y = true -> q y = true:=fun y hy=>h y (by simp [hy])
  simp only [List.filter_cons]
  rcases List.mem_cons.mp ha with e | e
  ·subst e
   have:=Jhe l hl
   simp only [h1,h2,Bool.false_eq_true,if_false,if_true,List.length_cons]; omega
  ·have ih:=JfJ l hl a e h1 h2
   cases hp:p x <;> cases hq:q x <;> simp_all <;> omega
def rk (ks:List (List Int)) (k:List Int):Nat:=(ks.filter fun y=>lexI y k).length
theorem JkF {ks:List (List Int)} {a b:List Int} (ha:a ∈ ks):Nat.blt (rk ks a) (rk ks b) = lexI a b:=by
 have hn:∀ m n:Nat,Nat.blt m n = decide (m < n):=fun m n=>by rw [Bool.eq_iff_iff]; simp [Nat.blt_eq]
 rw [hn]
 cases h:lexI a b with
 | true=>exact decide_eq_true (JfJ ks (fun y _ hy=>Jt hy h) a ha (JR a) h)
 | false=>
  refine decide_eq_false (Nat.not_lt.mpr ?_)
  cases h':lexI b a with
  | true=>exact Jhe ks fun y _ hy=>Jt hy h'
  | false=>rw [JbN h h']; exact Nat.le_refl _
theorem JdW {m:Nat}:∀ {n:Nat} {v:List Nat},v.length = n -> (∀ x ∈ v,x < m) -> v ∈ vecs m n
 | 0,[],_,_=>by simp [vecs]
 | 0,_ :: _,h,_=>by cases h
 | n + 1,[],h,_=>by cases h
 | n + 1,x :: v,h,hx=>by
  simp only [vecs,List.mem_flatMap]
  exact ⟨v,JdW (by simpa using h) fun y hy=>hx y (by simp [hy]),List.mem_map.mpr ⟨x,List.mem_range.mpr (hx x (by simp)),rfl⟩⟩
theorem Jim (ks:List (List Int)):ks.map (rk ks) ∈ (vecs ks.length ks.length).filter canon:=by
 refine List.mem_filter.mpr ⟨JdW (by simp) fun x hx=>?_,?_⟩
 ·obtain ⟨k,hk,rfl⟩:=List.mem_map.mp hx
  have:=JfJ (p:=fun y=>lexI y k) (q:=fun _=>true) ks (fun _ _ _=>rfl) k hk (JR k) rfl
  rw [List.filter_eq_self.mpr (fun _ _=>rfl)] at this
  exact this
 ·simp only [canon,List.all_eq_true]
  intro x hx
  obtain ⟨k,hk,rfl⟩:=List.mem_map.mp hx
  have:rankOf (ks.map (rk ks)) (rk ks k) = rk ks k:=by
   simp only [rankOf,List.filter_map,List.length_map]
   exact congrArg List.length (List.filter_congr fun y hy=>JkF hy)
  rw [this]
  exact Nat.beq_refl _
def ltK (ks:List (List Int)) (i j:Nat):Bool:=lexI (ks.getD i []) (ks.getD j [])
theorem JiX {ks:List (List Int)} {i j:Nat} (hi:i < ks.length) (hj:j < ks.length):ltV (ks.map (rk ks)) i j = ltK ks i j:=by
 have g:∀ i,i < ks.length -> (ks.map (rk ks)).getD i 0 = rk ks (ks.getD i []):=fun i hi=>by
  rw [List.getD_eq_getElem?_getD,List.getD_eq_getElem?_getD,List.getElem?_map,List.getElem?_eq_getElem hi]; rfl
 have hm:ks.getD i [] ∈ ks:=by
  rw [List.getD_eq_getElem?_getD,List.getElem?_eq_getElem hi]; exact List.getElem_mem hi
 rw [ltV,g i hi,g j hj,JkF hm]; rfl
theorem Jho (ks:List (List Int)) (h2:2 <= ks.length) (h5:ks.length <= 6):runO ks.length (ltK ks) (PySem.W.kas_sort ks.length) = some (sortI (ltK ks) (List.range ks.length)):=by
 have hc:chkN ks.length = true:=by
  generalize ks.length = n at h2 h5
  match n,h2,h5 with
  | 2,_,_=>exact chk2
  | 3,_,_=>exact chk3
  | 4,_,_=>exact chk4
  | 5,_,_=>exact chk5
  | 6,_,_=>exact chk6
  | n + 7,_,h=>exact absurd h (by omega)
 obtain ⟨hm,hk⟩:=List.mem_filter.mp (Jim ks)
 have:runO ks.length (ltV (ks.map (rk ks))) (PySem.W.kas_sort ks.length) = some (sortI (ltV (ks.map (rk ks))) (List.range ks.length)):=by
  obtain ⟨n,hn⟩:∃ n,ks.length = n + 1:=⟨ks.length - 1,by omega⟩
  rw [hn] at hm hc ⊢
  obtain ⟨v,hv,hm⟩:=List.mem_flatMap.mp hm
  obtain ⟨x,hx,e⟩:=List.mem_map.mp hm
  exact Jfo _ _ (List.all_eq_true.mp hc x hx) _ (List.mem_filter.mpr ⟨List.mem_map.mpr ⟨v,hv,e⟩,hk⟩)
 rw [JeF (lt':=ltK ks) (fun i j hi hj=>JiX hi hj),JaP (lt':=ltK ks) (n:=ks.length) (fun i j hi hj=>JiX hi hj) (fun y hy=>by simpa using hy)] at this
 exact this
theorem Jaj (ks:List (List Int)) (ds:List D):∀ ys:List Nat,sortK (ys.map fun i=>(ks.getD i [],ds.getD i .non)) = (sortI (ltK ks) ys).map fun i=>(ks.getD i [],ds.getD i .non)
 | []=>rfl
 | y :: ys=>by
  have ins:∀ zs:List Nat,insK (ks.getD y [],ds.getD y .non) (zs.map fun i=>(ks.getD i [],ds.getD i .non)) = (insI (ltK ks) y zs).map fun i=>(ks.getD i [],ds.getD i .non):=fun zs=>by
   induction zs with
   | nil=>rfl
   | cons z zs ih=>
    simp only [List.map_cons,insK,insI,ltK] at ih ⊢
    split <;> simp_all
  simp only [List.map_cons,sortK,sortI]
  rw [Jaj ks ds ys,ins]
theorem JW (ks:List (List Int)) (ds:List D) (h:ks.length = ds.length):ks.zip ds = (List.range ks.length).map fun i=>(ks.getD i [],ds.getD i .non):=by
 apply List.ext_getElem
 ·simp [h]
 ·intro i h1 h2
  simp only [List.length_zip,h,Nat.min_self] at h1
  simp only [List.getElem_zip,List.getElem_map,List.getElem_range,List.getD_eq_getElem?_getD]
  rw [List.getElem?_eq_getElem (by omega),List.getElem?_eq_getElem (by omega)]; rfl
theorem JdD {J:Shared -> Prop} {cmp:Nat -> Nat -> (Bool -> Shared -> Prop) -> Shared -> Prop} {n:Nat} {lt:Nat -> Nat -> Bool} (hask:∀ i j,i < n -> j < n -> i ≠ j -> ∀ (C:Bool -> Shared -> Prop) s,J s -> (∀ s',J s' -> C (lt i j) s') -> cmp i j C s) :
  ∀ (t:PySem.W.KasT (Array Nat)) (l:List Nat) (Q:Array Nat -> Shared -> Prop) (s:Shared),runO n lt t = some l -> J s -> (∀ p s',p.toList = l -> J s' -> Q p s') -> PySem.W.KasT.kasWp cmp t Q s:=fun t=>by
 induction t with
 | ret p=>
  intro l Q s h hs hq
  simp only [runO,Option.some.injEq] at h
  exact hq p s h hs
 | ask i j k ih=>
  intro l Q s h hs hq
  simp only [runO] at h
  split at h
  ·rename_i q
   exact hask i j q.1 q.2.1 q.2.2 _ s hs fun s' hs'=>ih _ l Q s' h hs' hq
  ·cases h
end Rd
namespace Rd
open PySem PySem.Spec PyProof.Rows L2 Pu
open PySem.SeqAt (EqAt)
section
variable {X:Cx} {pins:List (Addr × Obj)} {σ:L2.St} {H:Hp} {s:Shared}
def in2 (X:Cx):Cx:={ X with A:=X.A.in1.in1,xe:=fun _ _=>False }
theorem Jmz (o:X.Ok):(in2 X).Ok:=⟨o.mod,o.kind,o.glob,o.blt,o.above,o.inj,o.has,o.cab,o.hd,o.frames,o.stk,o.exf,o.bs,o.bsz,o.noex,o.exfs,o.funs,o.frf⟩
theorem Jgp (I:L2.Inv X pins σ H s):L2.Inv (in2 X) pins σ H s:=⟨Jmz I.ok,I.os,I.bare,I.base,I.loc,I.cell,I.free,I.freeC,I.pin,I.hok,I.len⟩
theorem JdJ (o:X.Ok) (I:L2.Inv (in2 X) pins σ H s):L2.Inv X pins σ H s:=⟨o,I.os,I.bare,I.base,I.loc,I.cell,I.free,I.freeC,I.pin,I.hok,I.len⟩
theorem Jch {a:Addr} {o:HO} (I:L2.Inv X pins σ H s) (f:FpOk X pins H a) (new:ObjOk X.prog X.w (upd H a o) s.heap a o):L2.Inv X pins σ (upd H a o) s:=by
 obtain ⟨f0,f1,f2,f3,f4,f5⟩:=f
 have ne:∀ {b u},H b = some u -> b ≠ a:=fun e z=>by rw [z,f0] at e; cases e
 have up:∀ {b u},H b = some u -> upd H a o b = some u:=fun e=>by rw [Ja (ne e)]; exact e
 exact I.step (h':=s.heap) (H':=upd H a o) (g':=s.gens) (d':=s.drawn) (t':=s.toks) (ch:=[a]) (fun b hb=>by rw [List.mem_singleton.mp hb]; exact ⟨f3,f1,f4,f5⟩) (fun b o _ _ _ e _=>e) (fun b o _ _ _ e _=>⟨o.slots,e⟩)
  (fun b o hc e n=>by rw [Ja (by simpa using hc)]; exact n) (fun b o _ e=>⟨o,e⟩) (fun b xs e=>up e) (fun b o u e=>up e) (fun b ps e=>⟨#[],by rw [up e]; simp⟩) (fun m hm=>hm) (fun b u e=>by
   by_cases q:b = a
   ·subst q
    rw [Ji] at e
    cases e
    exact new
   ·rw [Ja q] at e
    exact (I.hok b u e).stay (fun _ _ _ q=>q) (fun c q=>up q) fun c xs q=>up q) I.bare
theorem Jgv {H':Hp} {a:Addr} (f:FpOk X pins H a) (h:H' a = none):FpOk X pins H' a:=⟨h,f.2⟩
theorem Jay {a:Addr} {f:Obj -> Obj} (I:L2.Inv X pins σ H s) (h:FpOk X pins H a):L2.Inv X pins σ H { s with heap:=s.heap.update a f }:=
 I.turned (it:=a) (t':=s.toks) (fun b o hb e=>(Heap.get?_update_other _ _ (Ne.symm hb)).trans e) h.1 h.2.1 h.2.2.2.1 h.2.2.2.2.1 h.2.2.2.2.2
end
def lexZ (fin:Bool):List (Int × Int) -> Bool
 | []=>fin
 | (p,q) :: r=>if p = q then lexZ fin r else decide (p < q)
theorem Jdt:∀ a b:List Int,lexZ (decide (a.length < b.length)) (a.zip b) = lexI a b
 | [],[]=>rfl
 | [],_ :: b=>by simp [lexZ,lexI]
 | _ :: a,[]=>by simp [lexZ,lexI]
 | x :: a,y :: b=>by
  have:=Jdt a b
  simp only [List.zip_cons_cons,lexZ,lexI,List.length_cons,Nat.add_lt_add_iff_right]
  rw [this]
def IntVs (vs:List Value) (is:List Int):Prop:=∃ ts:List Tok,ts.length = is.length /\ vs = (is.zip ts).map fun p=>.int p.1 p.2
theorem Jad {v:Value} {vs:List Value} {i:Int} {is:List Int} (h:IntVs (v :: vs) (i :: is)):(∃ t,v = .int i t) /\ IntVs vs is:=by
 obtain ⟨ts,hl,e⟩:=h
 cases ts with
 | nil=>cases hl
 | cons t ts=>
  simp only [List.zip_cons_cons,List.map_cons,List.cons.injEq] at e
  exact ⟨⟨t,e.1⟩,ts,by simpa using hl,e.2⟩
theorem Jj {vs:List Value} {is:List Int} (h:IntVs vs is):vs.length = is.length:=by
 obtain ⟨ts,hl,rfl⟩:=h
 simp [hl]
section
variable {prog:Program} {w:World} {A:Around} {s:Shared}
theorem Jhg {fin:Bool} {Q:Bool -> Shared -> Prop}:∀ (xs ys:List Value) (is js:List Int) (i:Nat),IntVs xs is -> IntVs ys js -> Q (lexZ fin (is.zip js)) s -> PySem.W.KatLex prog w A true fin Q (xs.zip ys) i s
 | [],ys,is,js,i,h1,h2,hq=>by
  have:is = []:=List.length_eq_zero_iff.mp (Jj h1).symm
  subst this
  exact PySem.W.kat_nil hq
 | x :: xs,[],is,js,i,h1,h2,hq=>by
  have:js = []:=List.length_eq_zero_iff.mp (Jj h2).symm
  subst this
  rw [List.zip_nil_right] at hq ⊢
  exact PySem.W.kat_nil hq
 | x :: xs,y :: ys,[],js,i,h1,h2,hq=>by cases Jj h1
 | x :: xs,y :: ys,_ :: _,[],i,h1,h2,hq=>by cases Jj h2
 | x :: xs,y :: ys,p :: is,q :: js,i,h1,h2,hq=>by
  obtain ⟨⟨t,rfl⟩,g1⟩:=Jad h1
  obtain ⟨⟨u,rfl⟩,g2⟩:=Jad h2
  rw [List.zip_cons_cons] at hq ⊢
  simp only [lexZ] at hq
  refine PySem.W.kat_cons (EqAt.int_int p t q u prog w _ _ ?_)
  by_cases e:p = q
  ·rw [if_pos e] at hq
   rw [show (p == q) = true by simp [e]]
   exact PySem.W.kat_go (fun _=>Jhg xs ys is js (i + 1) g1 g2 hq) fun z=>by cases z
  ·rw [if_neg e] at hq
   rw [show (p == q) = false by simp [e]]
   refine PySem.W.kat_go (fun z=>by cases z) fun _=>?_
   show wpAny (model prog w) A (oneLt' (true && i == 0) (.int p t) (.int q u)) Q _ s
   cases i with
   | zero=>exact PySem.W.kat_lt_int hq
   | succ i=>exact PySem.W.kat_one _ _ (CmpOf.ints_lt (prog:=prog) (w:=w) (A:=A) (P:=fun i v=>∃ t,v = .int (if i = 0 then p else q) t) (fun i=>if i = 0 then p else q) (fun i v h=>h) 0 1 _ _ _ _ _ ⟨t,rfl⟩ ⟨u,rfl⟩ hq)
end
theorem Jl:∀ {ds:List D} {is:List Int},intsOf ds = some is -> ds = is.map D.int
 | [],_,h=>by cases h; rfl
 | d :: ds,_,h=>by
  cases d with
  | int i=>
   simp only [intsOf,Option.map_eq_some_iff] at h
   obtain ⟨r,e,rfl⟩:=h
   rw [Jl e]; rfl
  | _=>cases h
theorem Js {K:PySem.W.Frag} {H:Hp}:∀ {is:List Int} {xs:List V} {us:List Value},Reps K H (is.map D.int) xs -> Vals xs us -> IntVs us is
 | [],xs,us,h,v=>by
  cases h
  have:=v.length
  rw [List.length_eq_zero_iff.mp this.symm]
  exact ⟨[],rfl,rfl⟩
 | i :: is,xs,us,h,v=>by
  obtain ⟨x,r,rfl,h1,h2⟩:=h
  cases h1
  cases v with
  | cons r1 r2=>
   obtain ⟨t,rfl⟩:=r1
   obtain ⟨ts,hl,rfl⟩:=Js h2 r2
   exact ⟨t :: ts,by simp [hl],rfl⟩
theorem JK:∀ {ds:List D} {ks:List (List Int)},keysOf ds = some ks -> ks.length = ds.length
 | [],_,h=>by cases h; rfl
 | d :: ds,_,h=>by
  cases d with
  | tup xs=>
   simp only [keysOf] at h
   split at h
   ·rename_i k r h1 h2
    cases h
    simp [JK h2]
   ·cases h
  | _=>cases h
theorem Jbn:∀ {ds:List D} {ks:List (List Int)} {i:Nat},keysOf ds = some ks -> i < ks.length -> ds[i]? = some (.tup ((ks.getD i []).map D.int))
 | [],_,_,h,hi=>by cases h; cases hi
 | d :: ds,_,i,h,hi=>by
  cases d with
  | tup xs=>
   simp only [keysOf] at h
   split at h
   ·rename_i k r h1 h2
    cases h
    cases i with
    | zero=>simp [Jl h1]
    | succ i=>
     have:=Jbn (i:=i) h2 (by simpa using hi)
     simpa using this
   ·cases h
  | _=>cases h
theorem JaJ {f:D -> Rs D}:∀ {ds ks:List D},mapR f ds = .ok ks -> ks.length = ds.length
 | [],_,h=>by cases h; rfl
 | d :: ds,ks,h=>by
  simp only [mapR] at h
  cases q:f d with
  | ok y=>
   rw [q] at h
   cases q2:mapR f ds with
   | ok ys=>rw [q2] at h; cases h; simp [JaJ q2]
   | ex c=>rw [q2] at h; cases h
   | stuck=>rw [q2] at h; cases h
  | ex c=>rw [q] at h; cases h
  | stuck=>rw [q] at h; cases h
theorem JdE {f:D -> Rs D}:∀ {ds ks:List D} {i:Nat} {d:D},mapR f ds = .ok ks -> ds[i]? = some d -> ∃ k,ks[i]? = some k /\ f d = .ok k
 | [],_,_,_,_,e=>by simp at e
 | d :: ds,ks,i,d',h,e=>by
  simp only [mapR] at h
  cases q:f d with
  | ok y=>
   rw [q] at h
   cases q2:mapR f ds with
   | ok ys=>
    rw [q2] at h
    cases h
    cases i with
    | zero=>cases e; exact ⟨y,rfl,q⟩
    | succ i=>
     obtain ⟨k,h1,h2⟩:=JdE q2 (by simpa using e)
     exact ⟨k,by simpa using h1,h2⟩
   | ex c=>rw [q2] at h; cases h
   | stuck=>rw [q2] at h; cases h
  | ex c=>rw [q] at h; cases h
  | stuck=>rw [q] at h; cases h
section
variable {X:Cx} {call:CallD} {pins:List (Addr × Obj)} {σ:L2.St} {H:Hp} {s:Shared} {fi kk:Nat} {f a kS:Addr} {fd:FuncData} {ps:List Str}
theorem JhZ (F:FnOk X.prog X.w X.K X.mg X.base (CXr X.prog X.w) kk f fd ps (spI X.K X.mg call fi)) (hr:Room kk X.A.in1.in1) (hb:Binds X.K fd ps []) (I:L2.Inv (in2 X) pins σ H s) {y:V} {u:Value} {d k:D} (ry:RelV y u) (rd:Rep X.K H d y) (hc:call fi [d] = .ok k) :
  wpAny (model X.prog X.w) X.A.in1.in1 (PySem.call (.ref f) [u]) (EP (in2 X) pins σ fun v H'=>Same H H' /\ Rep X.K H' k v) (fun _ _=>False) s:=by
 have hp:Passes (CXr X.prog X.w) (in2 X) (fun _ _ _=>False):=fun pins σ H s e s' I hc=>by
  obtain ⟨a,C,H',rfl,F,hE⟩:=Jec (X:=in2 X) I hc
  exact hE
 refine JiY (X:=in2 X) (vs:=[y]) F hr hb .nil hp I (.cons ry .nil) ?_
 refine ⟨[d],⟨y,[],rfl,rd,rfl⟩,?_⟩
 rw [hc]
 exact fun v H' sm rv=>⟨sm,rv⟩
def KeySt (X:Cx) (pins:List (Addr × Obj)) (σ:L2.St) (H0:Hp) (a kS:Addr) (e1:Nat) (kds:List D) (i:Nat) (s:Shared):Prop:=
 ∃ (H:Hp) (ks:List Value) (kvs:List V) (e:Nat),L2.Inv (in2 X) pins σ H s /\ FpOk (in2 X) pins H a /\ FpOk (in2 X) pins H kS /\ s.heap.get? a = some (seqObj "list" #[] e1) /\ s.heap.get? kS = some (seqObj "list" ks.toArray e) /\ Vals kvs ks /\ Reps X.K H (kds.take i) kvs /\ Same H0 H
theorem Jie {H0:Hp} {e1:Nat} {ds kds:List D} {ys:List V} {its:List Value} (F:FnOk X.prog X.w X.K X.mg X.base (CXr X.prog X.w) kk f fd ps (spI X.K X.mg call fi)) (hr:Room kk X.A.in1.in1) (hb:Binds X.K fd ps []) (hne:kS ≠ a) (hv:Vals ys its) (hR:Reps X.K H0 ds ys) (hm:mapR (fun d=>call fi [d]) ds = .ok kds) (hl:ds.length <= 60)
  {j:Nat} {x:Value} (hx:its[j]? = some x) (K:KeySt X pins σ H0 a kS e1 kds j s) {Q:Value -> Shared -> Prop}
  (hQ:∀ (k:Value) (s':Shared),(∃ (ks:List Value) (e:Nat),s'.heap.get? kS = some (seqObj "list" ks.toArray e) /\ ks.length <= 60 /\ KeySt X pins σ H0 a kS e1 kds (j + 1) { s' with heap:=s'.heap.update kS (Obj.mapSeq fun x=>x.push k) }) -> Q k s') :
  wpAny (model X.prog X.w) X.A.in1.in1 (PySem.call (.ref f) [x]) Q (fun _ _=>False) s:=by
 obtain ⟨H,ks,kvs,e,I,fa,fk,ha,hk,rv,rr,sm⟩:=K
 obtain ⟨y,hy,ry⟩:=Vals.back hv hx
 obtain ⟨d,hd,rd⟩:=hR.get' hy
 obtain ⟨k,hkd,hc⟩:=JdE hm hd
 have hf:∀ b ∈ [a,kS],FpOk (in2 X) pins H b:=fun b hb=>by
  rcases List.mem_cons.mp hb with rfl | hb
  ·exact fa
  ·rw [List.mem_singleton.mp hb]; exact fk
 have I1:=I.pinned hf (fun b hb=>by
  rcases List.mem_cons.mp hb with rfl | hb
  ·exact ⟨_,ha,fun v z=>by cases z⟩
  ·rw [List.mem_singleton.mp hb]; exact ⟨_,hk,fun v z=>by cases z⟩)
 refine thn (JhZ F hr hb I1 ry (rd.mono sm) hc) fun u s1 ⟨v,H1,I2,rv1,sm1,rk1⟩=>?_
 have pa:=I2.pin (a,_) (List.mem_append_right _ (List.mem_append_right _ (Jn (by simp) ha)))
 have pk:=I2.pin (kS,_) (List.mem_append_right _ (List.mem_append_right _ (Jn (by simp) hk)))
 have hlen:ks.length <= 60:=by
  have h1:=rv.length
  have h2:=rr.length
  have h3:=JaJ hm
  rw [List.length_take] at h2
  omega
 have fk1:=Jgv fk pk.2.1
 obtain ⟨e',he'⟩:∃ e',(s1.heap.update kS (Obj.mapSeq fun x=>x.push u)).get? kS = some (seqObj "list" (ks ++ [u]).toArray e'):=⟨_,by
  rw [show (ks ++ [u]).toArray = ks.toArray.push u by simp]
  exact get?_update_seq pk.1 fun x=>x.push u⟩
 refine hQ u s1 ⟨ks,e,pk.1,hlen,H1,ks ++ [u],kvs ++ [v],e',Jay I2.unpinned fk1,Jgv fa pa.2.1,fk1,(Heap.get?_update_other _ _ hne).trans pa.1,he',rv.append (.cons rv1 .nil),?_,sm.trans sm1⟩
 ·have:kds.take (j + 1) = kds.take j ++ [k]:=by
   rw [List.take_succ,hkd]; rfl
  rw [this]
  exact (rr.mono sm1).append (Reps.one rk1)
theorem JbK {M:Model} {A:Around} {E:Value -> Shared -> Prop} {c:String} {xs:Array Value} {n:Nat} {Q:Array Value -> Shared -> Prop} (h:s.heap.get? a = some (seqObj c xs n)) (hq:Q xs s):wpAny M A (Builtin.List.listItems (.ref a)) Q E s:=by
 unfold Builtin.List.listItems
 exact wpAny_bind (wpAny_seqItems h rfl (wpAny_pure hq))
theorem JaK {M:Model} {A:Around} {E:Value -> Shared -> Prop} {c:String} {xs:Array Value} {n:Nat} {Q:Nat -> Shared -> Prop} (h:s.heap.get? a = some (seqObj c xs n)) (hq:Q n s):wpAny M A (seqEpoch a) Q E s:=by
 unfold seqEpoch
 exact wpAny_bind (wpAny_load h (wpAny_pure hq))
theorem Jig (I:L2.Inv (in2 X) pins σ H s):∀ {kds:List D} {is:List (List Int)} {kvs:List V} {ks:List Value},keysOf kds = some is -> Reps X.K H kds kvs -> Vals kvs ks -> ∀ (i:Nat),i < ks.length -> ∃ (b:Addr) (o:Obj) (us:List Value) (n:Nat),ks[i]? = some (.ref b) /\ s.heap.get? b = some o /\ o.cls = .type "tuple" /\ o.data = .seq us.toArray n /\ IntVs us (is.getD i []):=fun {kds is kvs ks} hk rr rv i hi=>by
 have l1:=rv.length
 have l2:=rr.length
 have l3:=JK hk
 have hd:=Jbn (i:=i) hk (by omega)
 obtain ⟨x,hx,rx⟩:=rr.get hd
 obtain ⟨b,xs,rfl,h1,h2⟩:=rx
 obtain ⟨u,hu,ru⟩:=rv.get hx
 cases ru
 obtain ⟨us,o,n,r,e,c,_,dd,_⟩:=I.tupleD h1
 exact ⟨b,o,us,n,hu,e,c,dd,Js h2 r⟩
theorem Jjc {h:Heap}:∀ {ks:List Value} {is:List (List Int)},ks.length = is.length -> (∀ k ∈ is,k ≠ []) -> (∀ (i:Nat),i < ks.length -> ∃ (b:Addr) (o:Obj) (us:List Value) (n:Nat),ks[i]? = some (.ref b) /\ h.get? b = some o /\ o.cls = .type "tuple" /\ o.data = .seq us.toArray n /\ IntVs us (is.getD i [])) -> ∃ fs:List Value,fs.length = ks.length /\ PySem.W.KatTups h ks fs /\ ∀ v ∈ fs,∃ i t,v = .int i t
 | [],is,hl,_,_=>⟨[],rfl,PySem.W.KatTups.nil,fun v hv=>by cases hv⟩
 | k :: ks,[],hl,_,_=>by cases hl
 | k :: ks,i0 :: is,hl,hn,h0=>by
  obtain ⟨fs,e1,e2,e3⟩:=Jjc (ks:=ks) (is:=is) (by simpa using hl) (fun x hx=>hn x (by simp [hx])) fun i hi=>by
   have:=h0 (i + 1) (by simpa using hi)
   simpa using this
  obtain ⟨b,o,us,n,q1,q2,q3,q4,q5⟩:=h0 0 (by simp)
  simp only [List.getElem?_cons_zero,Option.some.injEq,List.getD_cons_zero] at q1 q5
  subst q1
  cases us with
  | nil=>exact absurd (List.length_eq_zero_iff.mp (Jj q5).symm) (hn i0 (by simp))
  | cons u us=>
   cases i0 with
   | nil=>exact absurd rfl (hn [] (by simp))
   | cons z zs=>
    obtain ⟨⟨t,rfl⟩,_⟩:=Jad q5
    exact ⟨.int z t :: fs,by simp [e1],PySem.W.KatTups.cons q2 q3 q4 (by simp) e2,fun v hv=>(List.mem_cons.mp hv).elim (fun e=>⟨z,t,e⟩) (e3 v)⟩
theorem Jcx {M:Model} {A:Around} {E:Value -> Shared -> Prop} {body:Value × Value -> Option PySem.Fin × Unit -> Sem (ForInStep (Option PySem.Fin × Unit))} {R:Option PySem.Fin × Unit -> Shared -> Prop}
  (hb:∀ p t q u (R':ForInStep (Option PySem.Fin × Unit) -> Shared -> Prop),(if p = q then R' (.yield (none,())) s else R' (.done (some (.done (.ret (.bool (decide (p < q))))),())) s) -> wpAny M A (body (.int p t,.int q u) (none,())) R' E s) (fin:Bool) (hN:lexZ fin [] = fin) :
  ∀ (xs ys:List Value) (is js:List Int),IntVs xs is -> IntVs ys js -> (∀ o,(match o with
   | some f=>f = .done (.ret (.bool (lexZ fin (is.zip js))))
   | none=>lexZ fin (is.zip js) = fin) -> R (o,()) s) -> wpAny M A (forIn (xs.zip ys) (none,()) body) R E s
 | [],ys,is,js,h1,h2,hR=>by
  have:is = []:=List.length_eq_zero_iff.mp (Jj h1).symm
  subst this
  exact wpAny_pure (hR none rfl)
 | x :: xs,[],is,js,h1,h2,hR=>by
  have:js = []:=List.length_eq_zero_iff.mp (Jj h2).symm
  subst this
  rw [List.zip_nil_right] at hR ⊢
  exact wpAny_pure (hR none rfl)
 | x :: xs,y :: ys,[],js,h1,h2,hR=>by cases Jj h1
 | x :: xs,y :: ys,_ :: _,[],h1,h2,hR=>by cases Jj h2
 | x :: xs,y :: ys,p :: is,q :: js,h1,h2,hR=>by
  obtain ⟨⟨t,rfl⟩,g1⟩:=Jad h1
  obtain ⟨⟨u,rfl⟩,g2⟩:=Jad h2
  simp only [List.zip_cons_cons,lexZ] at hR
  rw [List.zip_cons_cons,List.forIn_cons]
  refine wpAny_bind (hb p t q u _ ?_)
  by_cases e:p = q
  ·rw [if_pos e]
   simp only [if_pos e] at hR
   exact Jcx hb fin hN xs ys is js g1 g2 hR
  ·rw [if_neg e]
   simp only [if_neg e] at hR
   exact wpAny_pure (hR _ rfl)
theorem Jji {prog:Program} {w:World} {A:Around} {E Q:Value -> Shared -> Prop} {x y:Addr} {ox oy:Obj} {xs ys:List Value} {is js:List Int} {n m:Nat} (hx:s.heap.get? x = some ox) (cx:ox.cls = .type "tuple") (dx:ox.data = .seq xs.toArray n) (hy:s.heap.get? y = some oy) (cy:oy.cls = .type "tuple") (dy:oy.data = .seq ys.toArray m)
  (h1:IntVs xs is) (h2:IntVs ys js) (hQ:Q (.bool (lexI is js)) s):wpAny (model prog w) A (PySem.call (.builtin "tuple.__lt__") [.ref x,.ref y]) Q E s:=by
 refine wpAny_call_entry F.slot_tuple_lt ⟨_,hx,cx⟩ F.entry_tuple_lt ?_ (F.args_tuple_lt_2 _ _)
 show wpAny _ _ (slotArgs "__lt__" 1 ⟨[.ref x,.ref y],[]⟩ >>= _) _ _ _
 refine wpAny_bind (wpAny_of_eq (show slotArgs "__lt__" 1 ⟨[.ref x,.ref y],[]⟩ = pure (.ref x,[.ref y]) from rfl) ?_)
 show wpAny _ _ (isInstance (.ref y) (.type "tuple") >>= _) _ _ _
 refine wpAny_bind (wpAny_isInstance ⟨_,hy,cy⟩ sub_tuple_self ?_)
 show wpAny _ _ (Builtin.Tuple.tupleItemsOf (.ref x) >>= _) _ _ _
 refine wpAny_bind (wpAny_tupleItemsOf hx dx ?_)
 refine wpAny_bind (wpAny_tupleItemsOf hy dy ?_)
 simp only [List.toList_toArray]
 refine wpAny_bind (Jcx (fun p t q u R' hR=>?_) (decide (is.length < js.length)) rfl xs ys is js h1 h2 fun o ho=>?_)
 ·show wpAny _ _ (eqBool (.int p t) (.int q u) >>= _) _ _ _
  refine wpAny_bind (EqAt.int_int p t q u prog w _ _ ?_)
  by_cases e:p = q
  ·rw [if_pos e] at hR
   rw [show (p == q) = true by simp [e]]
   exact wpAny_pure hR
  ·rw [if_neg e] at hR
   rw [show (p == q) = false by simp [e]]
   show wpAny _ _ (rule "tuple.compare.by-the-first-pair-that-differs" >>= _) _ _ _
   refine wpAny_bind (wpAny_rule (wpAny_bind ?_))
   refine CmpOf.ints_lt (prog:=prog) (w:=w) (A:=A.in1) (P:=fun i v=>∃ t,v = .int (if i = 0 then p else q) t) (fun i=>if i = 0 then p else q) (fun i v h=>h) 0 1 _ _ _ _ _ ⟨t,rfl⟩ ⟨u,rfl⟩ ?_
   exact wpAny_bind (wpAny_pure (wpAny_pure hR))
 ·rw [Jdt] at ho
  cases o with
  | some f=>
   simp only at ho
   subst ho
   exact wpAny_pure ⟨_,rfl,hQ⟩
  | none=>
   simp only at ho
   rw [ho] at hQ
   refine wpAny_pure ⟨_,rfl,?_⟩
   show Q (.bool (decide (xs.toArray.size < ys.toArray.size))) s
   rw [List.size_toArray,List.size_toArray,Jj h1,Jj h2]
   exact hQ
theorem JmM {prog:Program} {w:World} {A:Around} {E:Value -> Shared -> Prop} {Q:Bool -> Shared -> Prop} {x y:Addr} {ox oy:Obj} {xs ys:List Value} {is js:List Int} {n m:Nat} (hu:A.units < cLine) (hx:s.heap.get? x = some ox) (cx:ox.cls = .type "tuple") (dx:ox.data = .seq xs.toArray n) (hy:s.heap.get? y = some oy) (cy:oy.cls = .type "tuple") (dy:oy.data = .seq ys.toArray m)
  (h1:IntVs xs is) (h2:IntVs ys js) (hQ:Q (lexI is js) s) (κ:SortKind) (hκ:κ = tuples' true \/ κ = general' \/ κ = oneType'):wpAny (model prog w) A (keyLt' κ (.ref x) (.ref y)) Q E s:=by
 rcases hκ with rfl | rfl | rfl
 ·refine PySem.W.kat_lt hx dx hy dy (Jhg _ _ _ _ 0 h1 h2 ?_)
  rw [List.size_toArray,List.size_toArray,Jj h1,Jj h2,Jdt]
  exact hQ
 ·show wpAny _ _ (oneLt' false (.ref x) (.ref y)) Q E s
  refine PySem.W.kat_one _ _ ?_
  show wpAny _ _ (richCompare .Lt (.ref x) (.ref y)) _ E s
  refine wpAny_richCompare_same_room (T:="tuple") ⟨_,hx,cx⟩ ⟨_,hy,cy⟩ F.slot_tuple_lt ?_ hu
  exact Jji hx cx dx hy cy dy h1 h2 ⟨by simp,hQ⟩
 ·show wpAny _ _ (oneLt' true (.ref x) (.ref y)) Q E s
  show wpAny _ _ (cRoomFor "comparison" [.ref x,.ref y] >>= _) _ _ _
  refine wpAny_bind (wpAny_cRoomFor hu ?_)
  refine wpAny_bind (wpAny_callSpecialIfBound?_slot ⟨_,hx,cx⟩ F.slot_tuple_lt (Jji hx cx dx hy cy dy h1 h2 ?_))
  exact wpAny_truthy_bool hQ
theorem Jbq {M:Model} {A:Around} {E:Value -> Shared -> Prop}:∀ (ks:List Value),(∀ k ∈ ks,∃ (b:Addr) (o:Obj) (us:List Value) (n:Nat),k = .ref b /\ s.heap.get? b = some o /\ o.cls = .type "tuple" /\ o.data = .seq us.toArray n) -> ∃ fs:List (Option Value),fs.length = ks.length /\ (∀ (i:Nat) (b:Addr) (o:Obj) (us:List Value) (n:Nat),ks[i]? = some (.ref b) -> s.heap.get? b = some o -> o.data = .seq us.toArray n -> fs[i]? = some us[0]?) /\ ∀ Q:List (Option Value) -> Shared -> Prop,Q fs s -> wpAny M A (List.mapM firstOfTuple' ks) Q E s
 | [],_=>⟨[],rfl,fun i b o us n h=>by simp at h,fun Q h=>wpAny_pure h⟩
 | k :: ks,h=>by
  obtain ⟨fs,hl,hg,hf⟩:=Jbq (M:=M) (A:=A) (E:=E) ks fun x hx=>h x (by simp [hx])
  obtain ⟨b,o,us,n,rfl,e1,e2,e3⟩:=h k (by simp)
  refine ⟨us[0]? :: fs,by simp [hl],fun i b' o' us' n' g1 g2 g3=>?_,fun Q hq=>?_⟩
  ·cases i with
   | zero=>
    simp only [List.getElem?_cons_zero,Option.some.injEq,Value.ref.injEq] at g1
    subst g1
    rw [e1] at g2
    cases g2
    rw [e3] at g3
    cases g3
    rfl
   | succ i=>exact hg i b' o' us' n' (by simpa using g1) g2 g3
  rw [List.mapM_cons]
  refine wpAny_bind ?_
  show wpAny _ _ (typeOf (.ref b) >>= _) _ _ _
  refine wpAny_bind (wpAny_typeOf ⟨_,e1,e2⟩ ?_)
  rw [if_neg (by simp)]
  refine wpAny_bind ?_
  unfold Builtin.List.listItems
  refine wpAny_bind (wpAny_seqItems e1 e3 (wpAny_pure (wpAny_pure ?_)))
  refine wpAny_bind (hf _ (wpAny_pure ?_))
  simpa using hq
theorem Jcm {M:Model} {A:Around} {E:Value -> Shared -> Prop}:∀ (ks:List Value),(∀ k ∈ ks,∃ (b:Addr) (o:Obj) (us:List Value) (n:Nat),k = .ref b /\ s.heap.get? b = some o /\ o.cls = .type "tuple" /\ o.data = .seq us.toArray n) -> ∀ Q:List Value -> Shared -> Prop,Q (List.replicate ks.length (.type "tuple")) s -> wpAny M A (List.mapM typeOf ks) Q E s
 | [],_,Q,h=>wpAny_pure h
 | k :: ks,h,Q,hq=>by
  obtain ⟨b,o,us,n,rfl,e1,e2,e3⟩:=h k (by simp)
  rw [List.mapM_cons]
  refine wpAny_bind (wpAny_typeOf ⟨_,e1,e2⟩ ?_)
  exact wpAny_bind (Jcm ks (fun x hx=>h x (by simp [hx])) _ (wpAny_pure hq))
theorem JhK {M:Model} {A:Around} {E:Value -> Shared -> Prop} {ks:List Value} {is:List (List Int)} (h2:2 <= ks.length) (hl:ks.length = is.length) (ho:∀ (i:Nat),i < ks.length -> ∃ (b:Addr) (o:Obj) (us:List Value) (n:Nat),ks[i]? = some (.ref b) /\ s.heap.get? b = some o /\ o.cls = .type "tuple" /\ o.data = .seq us.toArray n /\ IntVs us (is.getD i [])) :
  ∃ κ:SortKind,(κ = tuples' true \/ κ = general' \/ κ = oneType') /\ ∀ Q:SortKind -> Shared -> Prop,Q κ s -> wpAny M A (keyKind' ks.toArray) Q E s:=by
 have hk:∀ k ∈ ks,∃ (b:Addr) (o:Obj) (us:List Value) (n:Nat),k = .ref b /\ s.heap.get? b = some o /\ o.cls = .type "tuple" /\ o.data = .seq us.toArray n:=fun k hk=>by
  obtain ⟨i,hi⟩:=List.getElem?_of_mem hk
  obtain ⟨b,o,us,n,q1,q2,q3,q4,_⟩:=ho i (List.getElem?_eq_some_iff.mp hi).1
  rw [hi] at q1
  exact ⟨b,o,us,n,Option.some.inj q1,q2,q3,q4⟩
 by_cases hn:∀ k ∈ is,k ≠ []
 ·obtain ⟨fs,f1,f2,f3⟩:=Jjc hl hn ho
  refine ⟨_,.inl rfl,fun Q hq=>PySem.W.kat_kind (T:=.type "int") f2 (by omega) (fun v hv A Q E s _ hq=>?_) (by decide +kernel) ?_⟩
  ·obtain ⟨i,t,rfl⟩:=f3 v hv
   exact wpAny_pure hq
  ·rw [show ((Value.type "int" != Value.type "tuple"):Bool) = true by decide +kernel]
   exact hq
 ·obtain ⟨fs,hfl,hf,hs⟩:=Jbq (M:=M) (A:=A) (E:=E) ks hk
  have hno:(fs.toArray.all fun x=>x.isSome) = false:=by
   rw [Bool.eq_false_iff]
   intro hall
   apply hn
   intro k hk' e
   subst e
   obtain ⟨i,hi⟩:=List.getElem?_of_mem hk'
   have hil:=(List.getElem?_eq_some_iff.mp hi).1
   obtain ⟨b,o,us,n,q1,q2,q3,q4,q5⟩:=ho i (by omega)
   have hus:us = []:=by
    rw [List.getD_eq_getElem?_getD,hi] at q5
    exact List.length_eq_zero_iff.mp (Jj q5)
   have:=hf i b o us n q1 q2 q4
   rw [hus] at this
   rw [List.all_toArray,List.all_eq_true] at hall
   have hx:=hall none (List.mem_of_getElem? this)
   cases hx
  by_cases hc:(fs.toArray[0]?.bind id).isSome = true
  ·refine ⟨_,.inr (.inl rfl),fun Q hq=>?_⟩
   rw [kat_kind_eq,List.mapM_toArray]
   refine wpAny_bind (wpAny_map (hs _ ?_))
   rw [if_neg (by rw [hno]; decide),if_pos hc]
   exact wpAny_pure hq
  ·refine ⟨_,.inr (.inr rfl),fun Q hq=>?_⟩
   rw [kat_kind_eq,List.mapM_toArray]
   refine wpAny_bind (wpAny_map (hs _ ?_))
   rw [if_neg (by rw [hno]; decide),if_neg hc,oneTypeOnly'_eq,List.mapM_toArray]
   refine wpAny_bind (wpAny_bind (wpAny_map (Jcm ks hk _ ?_)))
   obtain ⟨m,hm⟩:∃ m,ks.length = m + 1:=⟨ks.length - 1,by omega⟩
   rw [hm,List.replicate_succ]
   simp only [List.getElem?_toArray,List.getElem?_cons_zero]
   refine wpAny_pure ?_
   rw [if_pos (by simp)]
   exact wpAny_pure hq
theorem JaW {ys:List V} {its:List Value} (hv:Vals ys its):∀ (l:List Nat),(∀ i ∈ l,i < its.length) -> Vals (l.map fun i=>ys.getD i .non) (l.map fun i=>its.getD i .none)
 | [],_=>.nil
 | i :: l,h=>by
  have hi:=h i (by simp)
  have e:its[i]? = some (its.getD i .none):=by rw [List.getD_eq_getElem?_getD,List.getElem?_eq_getElem hi]; rfl
  obtain ⟨y,hy,ry⟩:=Vals.back hv e
  have e2:ys.getD i .non = y:=by rw [List.getD_eq_getElem?_getD,hy]; rfl
  rw [List.map_cons,List.map_cons,e2]
  exact .cons ry (JaW hv l fun j hj=>h j (by simp [hj]))
theorem JaO {K:PySem.W.Frag} {ds:List D} {ys:List V} (hr:Reps K H ds ys):∀ (l:List Nat),(∀ i ∈ l,i < ds.length) -> Reps K H (l.map fun i=>ds.getD i .non) (l.map fun i=>ys.getD i .non)
 | [],_=>rfl
 | i :: l,h=>by
  have hi:=h i (by simp)
  have e:ds[i]? = some (ds.getD i .non):=by rw [List.getD_eq_getElem?_getD,List.getElem?_eq_getElem hi]; rfl
  obtain ⟨y,hy,ry⟩:=hr.get e
  have e2:ys.getD i .non = y:=by rw [List.getD_eq_getElem?_getD,hy]; rfl
  rw [List.map_cons,List.map_cons,e2]
  exact ⟨y,_,rfl,ry,JaO hr l fun j hj=>h j (by simp [hj])⟩
theorem Jet {H0:Hp} {e e1:Nat} {ds:List D} {is:List (List Int)} {ys:List V} {its ks:List Value} (hne:kS ≠ a) (hv:Vals ys its) (hR:Reps X.K H0 ds ys) (hil:is.length = its.length) (h6:ds.length <= 6) (I:L2.Inv (in2 X) pins σ H s) (fa:FpOk (in2 X) pins H a) (fk:FpOk (in2 X) pins H kS) (ha:s.heap.get? a = some (seqObj "list" #[] e1)) (hks:s.heap.get? kS = some (seqObj "list" ks.toArray e)) (hkl:ks.length = its.length) (sm:Same H0 H)
  {st:SortSt} (hfail:failedOf st = none) (harr:(arrOf st).map (fun x=>x.2) = ((sortI (ltK is) (List.range its.length)).map fun i=>its.getD i .none).toArray) {P:PySem.Fin -> Shared -> Prop} {E:Value -> Shared -> Prop}
  (hP:∀ (s':Shared) (H1:Hp) (out:List Value) (outV:List V) (c:Nat),L2.Inv (in2 X) pins σ H1 s' -> FpOk (in2 X) pins H1 a -> s'.heap.get? a = some (seqObj "list" out.toArray c) -> Vals outV out -> Reps X.K H1 ((sortK (is.zip ds)).map (·.2)) outV -> Same H0 H1 -> P (.done (.ret .none)) s') :
  wpAny (model X.prog X.w) X.A.in1.in1 (ksk_tail a false e1 (.ref kS) st) P E s:=by
 have l4:=hv.length
 have l5:=hR.length
 have hl:∀ i ∈ sortI (ltK is) (List.range its.length),i < its.length:=fun i hi=>by simpa using JU hi
 unfold ksk_tail
 simp only [harr,hfail]
 refine wpAny_bind (wpAny_updateSeq hks rfl ?_ (by rw [List.size_toArray,sizeLine_eq]; omega) (by simp))
 refine wpAny_bind (wpAny_letGo ?_)
 have I2:=Jay (f:=Obj.mapSeq fun _=>#[]) I fk
 have ha2:(s.heap.update kS (Obj.mapSeq fun _=>#[])).get? a = some (seqObj "list" #[] e1):=(Heap.get?_update_other _ _ hne).trans ha
 refine wpAny_bind (JaK ha2 ?_)
 refine wpAny_bind (wpAny_updateSeq ha2 rfl ?_ (by simp) ?_)
 ·obtain ⟨c,hc⟩:∃ c,((s.heap.update kS (Obj.mapSeq fun _=>#[])).update a (Obj.mapSeq fun _=>((sortI (ltK is) (List.range its.length)).map fun i=>its.getD i .none).toArray)).get? a = some (seqObj "list" ((sortI (ltK is) (List.range its.length)).map fun i=>its.getD i .none).toArray c):=⟨_,get?_update_seq ha2 _⟩
  rw [if_neg (by simp)]
  show wpAny _ _ (ret .none) P E _
  refine wpAny_pure ?_
  refine hP _ H _ _ c (Jay I2 fa) fa hc (JaW hv _ hl) ?_ sm
  rw [JW is ds (by omega),Jaj,List.map_map,hil]
  exact JaO (hR.mono sm) _ fun i hi=>by have:=hl i hi; omega
 ·show (List.toArray _).size <= _
  rw [List.size_toArray,List.length_map,sizeLine_eq,JI,List.length_range]
  omega
theorem Jjn {H0:Hp} {e1:Nat} {ds kds:List D} {is:List (List Int)} {ys:List V} {its:List Value} (hu:X.A.in1.in1.units < cLine) (hne:kS ≠ a) (hv:Vals ys its) (hR:Reps X.K H0 ds ys) (hk:keysOf kds = some is) (hkl:kds.length = ds.length) (h6:ds.length <= 6)
  (K:KeySt X pins σ H0 a kS e1 kds ds.length s) {P:PySem.Fin -> Shared -> Prop} {E:Value -> Shared -> Prop}
  (hP:∀ (s':Shared) (H1:Hp) (out:List Value) (outV:List V) (c:Nat),L2.Inv (in2 X) pins σ H1 s' -> FpOk (in2 X) pins H1 a -> s'.heap.get? a = some (seqObj "list" out.toArray c) -> Vals outV out -> Reps X.K H1 ((sortK (is.zip ds)).map (·.2)) outV -> Same H0 H1 -> P (.done (.ret .none)) s') :
  wpAny (model X.prog X.w) X.A.in1.in1 (Builtin.List.listItems (.ref kS) >>= fun keys=>ksk_end a false its.toArray e1 (.ref kS) keys) P E s:=by
 obtain ⟨H,ks,kvs,e,I,fa,fk,ha,hks,rv,rr,sm⟩:=K
 rw [List.take_of_length_le (by omega)] at rr
 have l1:=rv.length
 have l2:=rr.length
 have l3:=JK hk
 have l4:=hv.length
 have l5:=hR.length
 have objs:=Jig I hk rr rv
 refine wpAny_bind (JbK hks ?_)
 unfold ksk_end
 by_cases h2:2 <= ds.length
 ·have hsz:¬ its.toArray.size < 2:=by rw [List.size_toArray]; omega
  simp only [Bool.false_eq_true,if_false,if_neg hsz]
  obtain ⟨κ,hκ,hrun⟩:=JhK (M:=model X.prog X.w) (A:=X.A.in1.in1) (E:=E) (ks:=ks) (is:=is) (s:=s) (by omega) (by omega) objs
  refine wpAny_bind (hrun _ ?_)
  have tr:=Jho is (by omega) (by omega)
  rw [show is.length = its.length by omega] at tr
  refine wpAny_bind (wpAny_mono (PySem.W.kat_run (vs:=its) (ks:=ks) (G:=fun p s'=>p.toList = sortI (ltK is) (List.range its.length) /\ s' = s) (Q:=fun st' s'=>s' = s /\ failedOf st' = none /\ (arrOf st').map (fun x=>x.2) = ((sortI (ltK is) (List.range its.length)).map fun i=>its.getD i .none).toArray) (by omega) (by omega) (by omega) (fun p st' s' hp harr hfail ⟨hG,hs⟩=>⟨hs,hfail,?_⟩) ?_) (fun r s' hq=>?_) fun _ _ x=>x)
  ·rw [harr,<- hG]
   apply Array.toList_inj.mp
   simp only [Array.toList_map,List.map_map]
   refine List.map_congr_left fun i _=>?_
   show (PySem.W.kas_item (ks.toArray.zip its.toArray) i).2 = _
   rw [PySem.W.kat_item (by omega)]
  ·refine JdD (J:=fun s'=>s' = s) (n:=its.length) (lt:=ltK is) (fun i j hi hj _ C s1 hs hC=>?_) _ _ _ _ tr rfl fun p s' hp hs=>⟨hp,hs⟩
   subst hs
   obtain ⟨b,o,us,n,q1,q2,q3,q4,q5⟩:=objs i (by omega)
   obtain ⟨b',o',us',n',r1,r2,r3,r4,r5⟩:=objs j (by omega)
   show wpAny _ _ (keyLt' κ (ks.getD i .none) (ks.getD j .none)) C _ s1
   rw [List.getD_eq_getElem?_getD,q1,List.getD_eq_getElem?_getD,r1]
   exact JmM hu q2 q3 q4 r2 r3 r4 q5 r5 (hC s1 rfl) κ hκ
  ·obtain ⟨⟨⟩,st⟩:=r
   obtain ⟨rfl,hfail,harr⟩:=hq
   exact Jet hne hv hR (by omega) h6 I fa fk ha hks (by omega) sm hfail harr hP
 ·have hsz:its.toArray.size < 2:=by rw [List.size_toArray]; omega
  simp only [Bool.false_eq_true,if_false,if_pos hsz]
  refine wpAny_bind (wpAny_pure (wpAny_bind (wpAny_pure ?_)))
  refine Jet hne hv hR (by omega) h6 I fa fk ha hks (by omega) sm (st:=SortSt.mk' general' (ks.toArray.zip its.toArray) #[] 7 none) rfl ?_ hP
  show (ks.toArray.zip its.toArray).map (fun x=>x.2) = _
  have hil:is.length = its.length:=by omega
  match its,ks,(show its.length < 2 by simpa using hsz),(show ks.length = its.length by omega) with
  | [],[],_,_=>simp [sortI]
  | [u],[k],_,_=>simp [sortI,insI,List.range_succ]
  | _ :: _ :: _,_,h,_=>simp at h; omega
theorem JhT (hu:X.A.in1.in1.units < cLine) {H0:Hp} {n:Nat} {ds kds:List D} {is:List (List Int)} {ys:List V} {its:List Value} (F:FnOk X.prog X.w X.K X.mg X.base (CXr X.prog X.w) kk f fd ps (spI X.K X.mg call fi)) (hr:Room kk X.A.in1.in1) (hb:Binds X.K fd ps []) (hv:Vals ys its) (hR:Reps X.K H0 ds ys) (hm:mapR (fun d=>call fi [d]) ds = .ok kds) (hk:keysOf kds = some is)
  (h6:ds.length <= 6) (I:L2.Inv (in2 X) pins σ H0 s) (fa:FpOk (in2 X) pins H0 a) (ha:s.heap.get? a = some (seqObj "list" its.toArray n)) {P:PySem.Fin -> Shared -> Prop} {E:Value -> Shared -> Prop}
  (hP:∀ (s':Shared) (H1:Hp) (out:List Value) (outV:List V) (c:Nat),L2.Inv (in2 X) pins σ H1 s' -> FpOk (in2 X) pins H1 a -> s'.heap.get? a = some (seqObj "list" out.toArray c) -> Vals outV out -> Reps X.K H1 ((sortK (is.zip ds)).map (·.2)) outV -> Same H0 H1 -> P (.done (.ret .none)) s') :
  wpAny (model X.prog X.w) X.A.in1.in1 (ksk_tree a (.ref f) false) P E s:=by
 have l4:=hv.length
 have l5:=hR.length
 have hkl:=JaJ hm
 unfold ksk_tree
 refine wpAny_bind (JbK ha ?_)
 refine wpAny_bind (wpAny_updateSeq ha rfl ?_ (by rw [List.size_toArray,sizeLine_eq]; omega) (by simp))
 have I1:=Jay (f:=Obj.mapSeq fun _=>#[]) I fa
 obtain ⟨e1,ha1⟩:∃ e1,(s.heap.update a (Obj.mapSeq fun _=>#[])).get? a = some (seqObj "list" #[] e1):=⟨_,get?_update_seq ha _⟩
 refine wpAny_bind (JaK ha1 ?_)
 refine wpAny_bind (wpAny_newTuple ?_ (by simp only [List.toList_toArray]; rw [sizeLine_eq]; omega))
 refine wpAny_bind (wpAny_newList ?_ (Nat.zero_le _))
 refine wpAny_holding ?_
 generalize hh1:(s.heap.update a (Obj.mapSeq fun _=>#[])).push { cls:=.type "tuple",data:=.seq its.toArray.toList.toArray } = h1
 have I2:L2.Inv (in2 X) pins σ H0 { s with heap:=h1 }:=by
  rw [<- hh1]
  exact I1.kept (t':=s.toks) fun b o e=>Heap.get?_push_of_some _ e
 have ha2:h1.get? a = some (seqObj "list" #[] e1):=by rw [<- hh1]; exact Heap.get?_push_of_some _ ha1
 have fk:FpOk (in2 X) pins H0 h1.objs.size:=I2.fpOk (Nat.le_refl _) I2.fresh
 have hne:h1.objs.size ≠ a:=Nat.ne_of_gt (Heap.lt_size ha2)
 have I3:L2.Inv (in2 X) pins σ H0 { s with heap:=h1.push { cls:=.type "list",data:=.seq ([]:List Value).toArray } }:=I2.kept (t':=s.toks) fun b o e=>Heap.get?_push_of_some _ e
 have hks:(h1.push { cls:=.type "list",data:=.seq ([]:List Value).toArray }).get? h1.objs.size = some (seqObj "list" ([]:List Value).toArray 0):=Heap.get?_push_size _ rfl
 unfold ksk_rest
 refine wpAny_bind (wpAny_rule ?_)
 rw [<- Array.forIn_toList]
 refine wpAny_bind (ksk_fold (KeySt X pins σ H0 a h1.objs.size e1 kds) _ 0 _ ⟨H0,[],[],0,I3,fa,fk,Heap.get?_push_of_some _ ha2,hks,.nil,by simp [Reps],Same.refl _⟩ (fun j x s' hx K=>?_) fun s' K=>?_)
 ·rw [Nat.zero_add] at K ⊢
  refine wpAny_bind (wpAny_attempt (wpAny_mono (Jie F hr hb hne hv hR hm (by omega) (by simpa using hx) K (Q:=fun k s'=>∃ (ks:List Value) (e:Nat),s'.heap.get? h1.objs.size = some (seqObj "list" ks.toArray e) /\ ks.length <= 60 /\ KeySt X pins σ H0 a h1.objs.size e1 kds (j + 1) { s' with heap:=s'.heap.update h1.objs.size (Obj.mapSeq fun x=>x.push k) }) fun k s' h=>h) (fun k s' ⟨ks,e,hk,hlen,K'⟩=>?_) fun _ _ z=>z.elim))
  refine wpAny_bind (wpAny_updateSeq hk rfl ?_ (by rw [List.size_toArray,sizeLine_eq]; omega) (by rw [Array.size_push,List.size_toArray,sizeLine_eq]; omega))
  exact wpAny_pure ⟨rfl,K'⟩
 ·rw [Nat.zero_add,show its.toArray.toList.length = ds.length by rw [List.toList_toArray]; omega] at K
  exact Jjn hu hne hv hR hk hkl h6 K hP
theorem Jin (hu:X.A.in1.in1.units < cLine) {x:V} {u:Value} {d:D} {Q:VK} (o:X.Ok) (F:FnOk X.prog X.w X.K X.mg X.base (CXr X.prog X.w) kk f fd ps (spI X.K X.mg call fi)) (hr:Room kk X.A.in1.in1) (hb:Binds X.K fd ps []) (I:L2.Inv X pins σ H s) (rx:RelV x u) (rd:Rep X.K H d x)
  (h:((op1 .rows d).bind fun x=>x.walk.bind fun ds=>(mapR (fun d=>call fi [d]) ds).calm.bind fun ks=>match keysOf ks with
   | some is=>if ds.length <= 6 then Rs.ok (D.lst ((sortK (is.zip ds)).map (·.2))) else .stuck
   | none=>.stuck).Good (Out X H Q) (XW X H)) :
  wpAny (model X.prog X.w) X.A (PySem.call (.builtin "sorted") [u] [(Str.ofString "key",.ref f)]) (EP X pins σ Q) X.xe s:=by
 have key:∀ (ds:List D) (ys:List V) (its:List Value) (b:Addr) (T:String) (ob:Obj) (nb:Nat),u = .ref b -> (T = "list" \/ T = "tuple") -> s.heap.get? b = some ob -> ob.cls = .type T -> ob.data = .seq its.toArray nb -> Vals ys its -> Reps X.K H ds ys -> ((mapR (fun d=>call fi [d]) ds).calm.bind fun ks=>match keysOf ks with
   | some is=>if ds.length <= 6 then Rs.ok (D.lst ((sortK (is.zip ds)).map (·.2))) else .stuck
   | none=>.stuck).Good (Out X H Q) (XW X H) -> wpAny (model X.prog X.w) X.A (PySem.call (.builtin "sorted") [u] [(Str.ofString "key",.ref f)]) (EP X pins σ Q) X.xe s:=by
  intro ds ys its b T ob nb hu hT hob hcl hda hv hR h
  subst hu
  cases hm:mapR (fun d=>call fi [d]) ds with
  | ex c=>rw [hm] at h; exact h.elim
  | stuck=>rw [hm] at h; exact h.elim
  | ok kds=>
   rw [hm] at h
   simp only [Rs.calm_ok,Rs.bind_ok] at h
   cases hk:keysOf kds with
   | none=>rw [hk] at h; exact h.elim
   | some is=>
    rw [hk] at h
    simp only at h
    split at h
    ·rename_i h6
     have l4:=hv.length
     have l5:=hR.length
     refine call_function_entry_kw kind_sorted plain_sorted entry_sorted (ksk_s1 _ _) ?_
     unfold Builtin.«sorted»
     refine wpAny_bind (m:=checkCount "sorted" 1 1 _) (wpAny_pure (wpAny_bind (wpAny_collect_seq b hT hob hcl hda (fun h' kp=>?_) (by rw [List.size_toArray,sizeLine_eq]; omega))))
     simp only [List.toList_toArray]
     have I1:L2.Inv X pins σ H { s with heap:=h' }:=I.kept (t':=s.toks) kp
     refine wpAny_bind (wpAny_newList ?_ (by rw [sizeLine_eq]; omega))
     have I2:L2.Inv X pins σ H { s with heap:=h'.push { cls:=.type "list",data:=.seq its.toArray } }:=I1.kept (t':=s.toks) fun b o e=>Heap.get?_push_of_some _ e
     have fa:FpOk X pins H h'.objs.size:=I1.fpOk (Nat.le_refl _) I1.fresh
     have ha:(h'.push { cls:=.type "list",data:=.seq its.toArray }).get? h'.objs.size = some (seqObj "list" its.toArray 0):=Heap.get?_push_size _ rfl
     refine wpAny_bind (wpAny_holding (wpAny_call_entry_kw slot_list_sort ⟨_,ha,rfl⟩ entry_list_sort ?_ (ksk_l1 _ _)))
     rw [ksk_t1]
     refine JhT hu F hr hb hv hR hm hk h6 (Jgp I2) fa ha fun s' H1 out outV c I3 fa3 hc rv3 rr3 sm3=>⟨_,rfl,?_⟩
     refine wpAny_pure ⟨_,rfl,?_⟩
     have lo:=rv3.length
     have lo2:=rr3.length
     have hlen:((sortK (is.zip ds)).map (·.2)).length <= 6:=by
      have hkl:=JaJ hm
      have l3:=JK hk
      rw [JW is ds (by omega),Jaj,List.map_map,List.length_map,JI,List.length_range]
      omega
     obtain ⟨s1,q1⟩:=Jci (K:=X.K) fa3.1 rr3
     exact ⟨.ref h'.objs.size,_,Jch (JdJ o I3) fa3 (show ObjOk X.prog X.w _ s'.heap _ (.lst outV) from ⟨by rw [sizeLine_eq]; omega,out,c,rv3,hc⟩),rfl,h _ _ (sm3.trans s1) q1⟩
    ·exact h.elim
 cases d with
 | tup ds=>
  obtain ⟨b,ys,rfl,h1,hR⟩:=rd
  cases rx
  obtain ⟨its,ob,nb,hv,e,hc,_,hd,_⟩:=I.tupleD h1
  exact key ds ys its b "tuple" ob nb rfl (.inr rfl) e hc hd hv hR h
 | lst ds=>
  obtain ⟨b,ys,rfl,h1,hR⟩:=rd
  cases rx
  obtain ⟨its,hv,⟨ob,nb,e,hc,_,hd⟩,_⟩:=I.list h1
  exact key ds ys its b "list" ob nb rfl (.inl rfl) e hc hd hv hR h
 | _=>exact (show False from h).elim
end
section
variable {X:Cx} {call:CallD} {G:Gw} {N:List Str} {nm:List (Str × NameKind)} {a:Expr} {pa:Px} {pos p1 p2 q1:Pos} {x:Str} {fi:Nat}
theorem cSrt (C:Ctx X G N nm) (hm:G.mg "sorted" = none) (hc:Callee G call fi x) (ha:PE X a (tI X call pa)) (hg:gloB nm "sorted" = true) (hg2:chkG nm x = true) (hs:starEach [a] X.env = (false,eval a X.env) :: starEach [] X.env:=by rfl) :
  PE X (.Call (.Name "sorted" p1) [a] [⟨some (Str.ofString "key"),.Name x p2,q1⟩] pos) (tI X call (.sortK fi (.un .rows pa))):=by
 intro pins s σ H Q I ⟨env,r,h⟩
 simp only [evD,Rs.bind_assoc] at h
 simp only [chkG,Bool.and_eq_true] at hg2
 obtain ⟨kk,f,fd,ps,F,hr,hm2,hk,hb⟩:=hc.ex
 have hG:=C.g
 subst hG
 refine wpAny_Call_Name_kw (Jbx I (C.glo _ hg) (by rw [C.mg]; exact hm) PyProof.Rows.boot_sorted ?_ (by decide +kernel) (by decide +kernel))
 rw [hs]
 refine cw_kw rfl rfl ?_
 show wpAny _ _ (evalArgs (.builtin "sorted") true ((false,eval a X.env) :: []) [(some (Str.ofString "key"),do let v <- eval (.Name x p2) X.env; standAt pos; pure v)]) _ _ s
 refine evalArgs_kw rfl (Calls.spliced_cons ?_)
 refine thn (ha pins s σ H (fun x H1=>∃ d,Same H H1 /\ Rep X.K H1 d x /\ _) I ⟨env,r,(Rs.good_bind.mp h).mono (fun d hd x H1 sm rx=>⟨d,sm,rx,hd⟩) fun c hc=>hc⟩) fun u s1 ⟨y,H1,I1,rx,d,sm,rd,hd⟩=>?_
 refine Calls.spliced_nil ?_
 refine wpAny_evalAll_cons (back_ (JcV I1 (C.glo _ hg2.1) hm2 (wpAny_evalAll_nil ?_) (plainN.d hg2.2).1))
 exact Jin (by have:=C.un; show X.A.units + 1 + 1 < cLine; omega) I1.ok F hr hb I1 rx rd (hd.mono (fun d' hd'=>hd'.mono sm) fun c hc=>hc.mono sm)
end
end Rd
namespace Rd
open PySem PySem.Spec PyProof.Rows L2 Pu
open PySem.SeqAt (EqAt)
section
variable {X:Cx} {call:CallD} {a b:Expr} {pa pb:Px} {pos p1 p2:Pos} {G:Gw} {N:List Str} {nm:List (Str × NameKind)}
theorem Jfc {M:Model} {A:Around} {E:Value -> Shared -> Prop} {s:Shared} {body:Nat -> Option PySem.Fin × Unit -> Sem (ForInStep (Option PySem.Fin × Unit))} {R:Option PySem.Fin × Unit -> Shared -> Prop} {j n:Nat} (hj:j < n)
  (hno:∀ k,k < j -> wpAny M A (body k (none,())) (fun r s'=>r = .yield (none,()) /\ s' = s) E s) (hyes:wpAny M A (body j (none,())) (fun r s'=>∃ fin,r = .done (some fin,()) /\ R (some fin,()) s') E s):∀ (r k:Nat),k + r = n -> k <= j -> wpAny M A (forIn (List.range' k r 1) (none,()) body) R E s:=by
 intro r
 induction r with
 | zero=>intro k hk hkj; omega
 | succ r ih=>
  intro k hk hkj
  rw [List.range'_succ,List.forIn_cons]
  by_cases q:k = j
  ·subst q
   refine wpAny_bind (wpAny_mono hyes (fun r s' h=>?_) fun _ _ x=>x)
   obtain ⟨fin,rfl,h⟩:=h
   exact wpAny_pure h
  ·refine wpAny_bind (wpAny_mono (hno k (by omega)) (fun r s' h=>?_) fun _ _ x=>x)
   obtain ⟨rfl,rfl⟩:=h
   exact ih (k + 1) (by omega) (by omega)
theorem Jit {prog:Program} {w:World} {A:Around} {E:Value -> Shared -> Prop} {s:Shared} {l:Addr} {o:Obj} {its:List Value} {n:Nat} {u:Value} {e:Value -> Bool} {j:Nat} {Q:PySem.Fin -> Shared -> Prop} (ho:s.heap.get? l = some o) (hd:o.data = .seq its.toArray n) (heq:∀ y,y ∈ its.toArray -> EqAt A s y u (e y))
  (hj:j < its.length) (h1:e its[j] = true) (h2:∀ m (hm:m < its.length),m < j -> e its[m] = false) (hQ:Q (.done (.ret (.int j s.toks))) { s with toks:=s.toks + 1 }):wpAny (model prog w) A (Builtin.«tuple.index» ⟨[.ref l,u],[]⟩) Q E s:=by
 unfold Builtin.«tuple.index»
 refine wpAny_bind (wpAny_of_eq (show selfAndSome "tuple.index" "index" 1 3 ⟨[.ref l,u],[]⟩ = pure (.ref l,[u]) from rfl) ?_)
 refine wpAny_bind (wpAny_tupleItemsOf ho hd ?_)
 refine wpAny_bind (wpAny_pure ?_)
 refine wpAny_bind (wpAny_pure ?_)
 show wpAny _ _ (forIn (Std.Legacy.Range.mk 0 (min its.toArray.size its.toArray.size) 1 (by decide)) _ _ >>= _) _ _ _
 refine wpAny_bind ?_
 rw [Std.Legacy.Range.forIn_eq_forIn_range']
 have hsz:(Std.Legacy.Range.size ⟨0,min its.toArray.size its.toArray.size,1,by decide⟩) = its.length:=by simp [Std.Legacy.Range.size]
 show wpAny _ _ (forIn (List.range' 0 (Std.Legacy.Range.size ⟨0,min its.toArray.size its.toArray.size,1,by decide⟩) 1) _ _) _ _ _
 rw [hsz]
 have hg:∀ k (hk:k < its.length),its.toArray[k]? = some its[k]:=fun k hk=>by simp [hk]
 refine Jfc hj (fun k hk=>?_) ?_ its.length 0 (by omega) (by omega)
 ·simp only [hg k (by omega)]
  refine wpAny_bind (heq its[k] (by simp) prog w _ _ ?_)
  rw [h2 k (by omega) hk,if_neg (by decide)]
  exact wpAny_pure ⟨rfl,rfl⟩
 ·simp only [hg j hj]
  refine wpAny_bind (heq its[j] (by simp) prog w _ _ ?_)
  rw [h1,if_pos rfl]
  refine wpAny_bind (wpAny_bind (wpAny_mkInt (wpAny_pure ?_)))
  exact wpAny_pure ⟨_,rfl,wpAny_pure hQ⟩
theorem Jfx (hu:X.A.units + 64 < cLine):MtR X "tuple.index" (fun x xs H Q=>∃ y,xs = [y] /\ ∃ ds dy,Rep X.K H (.tup ds) x /\ Rep X.K H dy y /\ (op2 .indexT (.tup ds) dy).Good (Out X H Q) (XW X H)):=by
 intro pins s σ H x xs v us Q I rx rv ⟨y,e,ds,dy,r1,r2,h⟩
 subst e
 obtain ⟨u,rfl,ru⟩:=Jaz rv
 simp only [op2] at h
 split at h
 ·rename_i hc
  simp only [okDep,Bool.and_eq_true,decide_eq_true_eq] at hc
  have hdep:deps ds + 1 <= 20:=hc.1.1
  cases q:idxD dy ds with
  | none=>rw [q] at h; exact h.elim
  | some j=>
   rw [q] at h
   obtain ⟨⟨d',g1,g2⟩,g3⟩:=JbF q
   obtain ⟨l,zs,rfl,h1,h2⟩:=r1
   cases rx
   obtain ⟨its,o,n,rvv,e1,c1,_,k1,_⟩:=I.tupleD h1
   have l1:=rvv.length
   have l2:=h2.length
   have hj:j < ds.length:=(List.getElem?_eq_some_iff.mp g1).1
   have at_:∀ (m:Nat) (hm:m < its.length),eU ds its dy its[m] = (ds[m]'(by omega)).eqv dy:=fun m hm=>
    Jii I h2 rvv (by omega) (d:=dy) (j:=m) (List.getElem?_eq_getElem hm) (List.getElem?_eq_getElem (by omega:m < ds.length))
   refine wpAny_call_entry F.slot_tuple_index ⟨_,e1,c1⟩ F.entry_tuple_index (Jit (e:=eU ds its dy) (j:=j) e1 k1 (Jbv hu I h2 rvv r2 ru (by omega) hc.1.2) (by omega) ?_ ?_ ?_) (F.args_tuple_index_2 _ _)
   ·rw [at_ j (by omega)]
    have:ds[j] = d':=by rw [List.getElem?_eq_getElem hj] at g1; simpa using g1
    rw [this]; exact g2
   ·intro m hm hlt
    rw [at_ m hm]
    exact g3 m _ hlt (List.getElem?_eq_getElem (by omega))
   ·exact ⟨_,rfl,.int _,H,I.tok _,⟨_,rfl⟩,Out.now h rfl⟩
 ·exact h.elim
theorem JlI {o e:Expr} {to:TE} {t:TA} {name:Str} {apos cpos:Pos} {id:String} {r:V -> List V -> Hp -> VK -> Prop} (slot:Slot "tuple" name id) (hty:typeOf (.builtin id) = pure (.type "method_descriptor")) (hm:MtR X id r) (ho:PE X o to) (ha:PA X [e] t)
  (hbase:attributeBase o name X.env (eval o X.env) = eval o X.env) (hline:(apos.endLine == cpos.line) = true) (hs:starEach [e] X.env = (false,eval e X.env) :: starEach [] X.env) :
  PE X (.Call (.Attribute o name apos) [e] [] cpos) (fun σ H Q=>to σ H fun x H1=>(∃ p xs,x = .ref p /\ SqT X.K H1 p xs) /\ t σ H1 fun xs H2=>r x xs H2 Q):=by
 intro pins s σ H Q I h
 refine wpAny_Call_method_late hbase (by rw [hs]; rfl) hline rfl (thn (ho pins s σ H _ I h) fun v s1 ⟨x,H1,I1,r1,ty,q1⟩=>?_)
 obtain ⟨p,xs,rfl,hT⟩:=ty
 cases r1
 obtain ⟨its,ob,n,_,e1,c1,d1,_,_⟩:=I1.tupleD hT
 refine ⟨"tuple",id,F.plainAttrs_tuple,slot,hty,⟨_,e1,c1⟩,fun a z=>by cases z; exact ⟨ob,e1,d1⟩,?_⟩
 have hA:=ha cpos pins s1 σ H1 _ I1 q1
 rw [hs] at hA ⊢
 refine Calls.callWith_builtin rfl (Calls.evalArgs_plain ?_)
 exact thn hA fun us s2 ⟨vs,H2,I2,r2,q2⟩=>hm pins s2 σ H2 (.ref p) vs (.ref p) us Q I2 rfl r2 q2
theorem cIdxT {apos:Pos} (C:Ctx X G N nm) (ha:PE X a (tI X call pa)) (hb:PE X b (tI X call pb)) (hn:noEx pb = true) (hl:(apos.endLine == pos.line) = true) (hbase:attributeBase a "index" X.env (eval a X.env) = eval a X.env:=by rfl) (hs:starEach [b] X.env = (false,eval b X.env) :: starEach [] X.env:=by rfl) :
  PE X (.Call (.Attribute a "index" apos) [b] [] pos) (tI X call (.bi .indexT pa pb)):=by
 refine PE.weak (JlI F.slot_tuple_index F.type_tuple_index (Jfx C.un) ha (JD hb JaD hs) hbase hl hs) fun σ H Q h=>?_
 obtain ⟨env,r,h⟩:=h
 simp only [evD] at h
 refine tI.then r h fun dx x H1 s1 r1 q1 h1=>?_
 cases hb':evD call pb env with
 | ex c=>exact absurd hb' (Jbb call pb env c hn)
 | stuck=>rw [hb'] at h1; exact h1.elim
 | ok dy=>
  rw [hb'] at h1
  simp only [Rs.bind_ok] at h1
  cases dx with
  | tup ds=>
   obtain ⟨l,xs,rfl,g1,g2⟩:=(show _ from r1)
   refine ⟨⟨l,xs,rfl,g1⟩,env,q1,?_⟩
   rw [hb']
   intro y H2 s2 r2
   exact ⟨y,rfl,ds,dy,r1.mono s2,r2,h1.mono (fun _ o=>o.mono s2) fun _ q=>q.mono s2⟩
  | _=>exact (show False from h1).elim
end
end Rd
namespace Rd
open PySem PySem.Spec PyProof.Rows L2 Pu
end Rd
namespace HT
open PySem PyProof.Rows
section
variable {prog:Program} {w:World} {A:Around} {E:Value -> Shared -> Prop} {s:Shared}
end
end HT
namespace Rd
open PySem PySem.Spec PyProof.Rows L2 Pu
section
variable {X:Cx} {call:CallD} {a b:Expr} {pa pb:Px} {pos p2:Pos}
end
end Rd
namespace Rd
open PySem PySem.Spec PyProof.Rows L2 Pu
section
variable {X:Cx} {call:CallD} {a b:Expr} {pa pb:Px} {pos:Pos}
end
end Rd
namespace Rd
open PySem PySem.Spec PyProof.Rows L2 Pu
section
variable {X:Cx} {call:CallD} {a b c d:Expr} {pa pb pc pd:Px} {pos:Pos}
section
variable {G:Gw} {N:List Str} {nm:List (Str × NameKind)}
end
end
end Rd
namespace Rd
open PySem PySem.Spec PyProof.Rows L2 Pu
open PySem.SeqAt (EqAt)
theorem JkA:entryFor table "list.__eq__.loop" = some Builtin.«list.__eq__.loop»:=entryFor_of_tree (by kernel_rfl)
theorem JbC:plainId "list.__eq__.loop" = true:=by decide +kernel
def cmpZ (op:CmpOp) (p q:Int):Bool:=match op with
 | .Lt=>decide (p < q)
 | _=>decide (q < p)
def cmpN (op:CmpOp) (m n:Nat):Bool:=match op with
 | .Lt=>decide (m < n)
 | _=>decide (m > n)
theorem Jkd (op:CmpOp) (m n:Nat):cmpZ op m n = cmpN op m n:=by
 unfold cmpZ cmpN
 split <;> exact decide_eq_decide.mpr (by omega)
def codeOf (op:CmpOp):Int:=match op with
 | .Lt=>0
 | _=>4
def lexC (op:CmpOp):List Int -> List Int -> Bool
 | p :: is,q :: js=>if p = q then lexC op is js else cmpZ op p q
 | is,js=>cmpZ op is.length js.length
theorem Jhh:∀ a b:List Int,lexC .Lt a b = lexI a b
 | [],[]=>rfl
 | [],_ :: b=>by simp [lexC,lexI,cmpZ] <;> omega
 | _ :: a,[]=>by simp [lexC,lexI,cmpZ] <;> omega
 | x :: a,y :: b=>by
  have:=Jhh a b
  simp only [lexC,lexI,cmpZ]
  rw [this]
theorem Jgf:∀ a b:List Int,lexC .Gt a b = lexI b a
 | [],[]=>rfl
 | [],_ :: b=>by simp [lexC,lexI,cmpZ] <;> omega
 | _ :: a,[]=>by simp [lexC,lexI,cmpZ] <;> omega
 | x :: a,y :: b=>by
  have:=Jgf a b
  simp only [lexC,lexI,cmpZ]
  rw [this]
  by_cases e:x = y
  ·subst e; simp
  ·have e':¬ y = x:=fun z=>e z.symm
   simp [e,e']
section
variable {prog:Program} {w:World} {A:Around} {s:Shared} {x y:Addr} {ox oy:Obj} {xs ys:List Value} {is js:List Int} {n m:Nat}
theorem Jhk {vs:List Value} {is:List Int} (h:IntVs vs is) (k:Nat):(∃ i t,is[k]? = some i /\ vs[k]? = some (.int i t)) \/ (is.length <= k /\ vs[k]? = none):=by
 have hl:=Jj h
 by_cases hk:k < is.length
 ·left
  obtain ⟨ts,ht,rfl⟩:=h
  have hk2:k < ts.length:=by omega
  refine ⟨is[k],ts[k],List.getElem?_eq_getElem hk,?_⟩
  rw [List.getElem?_map,List.getElem?_eq_getElem (by simp; omega)]
  simp
 ·exact .inr ⟨by omega,List.getElem?_eq_none (by omega)⟩
theorem Jcu (op:CmpOp):∀ (k:Nat) (is js:List Int),is.take k = js.take k -> k <= is.length -> k <= js.length -> lexC op is js = lexC op (is.drop k) (js.drop k)
 | 0,is,js,_,_,_=>rfl
 | k + 1,[],js,_,h,_=>by simp at h
 | k + 1,_ :: _,[],_,_,h=>by simp at h
 | k + 1,p :: is,q :: js,e,h1,h2=>by
  simp only [List.take_succ_cons,List.cons.injEq] at e
  simp only [List.drop_succ_cons,lexC]
  rw [if_pos e.1]
  exact Jcu op k is js e.2 (by simpa using h1) (by simpa using h2)
theorem Jhq {op:CmpOp} (a b k:Int):cmpZ op (a - k) (b - k) = cmpZ op a b:=by
 unfold cmpZ
 split <;> exact decide_eq_decide.mpr (by omega)
theorem JaC {M:Model} {A:Around} {E:Value -> Shared -> Prop} {a:Addr} {o:Obj} {xs:Array Value} {n:Nat} {Q:Array Value -> Shared -> Prop} (h:s.heap.get? a = some o) (d:o.data = .seq xs n) (hq:Q xs s):wpAny M A (Builtin.List.listItems (.ref a)) Q E s:=by
 unfold Builtin.List.listItems
 exact wpAny_bind (wpAny_seqItems h d (wpAny_pure hq))
theorem JgC {op:CmpOp} (ho:op = .Lt \/ op = .Gt) (hx:s.heap.get? x = some ox) (dx:ox.data = .seq xs.toArray n) (hy:s.heap.get? y = some oy) (dy:oy.data = .seq ys.toArray m) (h1:IntVs xs is) (h2:IntVs ys js) {R:Result -> Shared -> Prop} (hR:R (.ok (.ret (.bool (lexC op is js)))) s) :
  ∀ (r k:Nat),is.length + 1 = k + r -> is.take k = js.take k -> k <= is.length -> k <= js.length -> codeAny (model prog w) A (.builtin "list.__eq__.loop" ⟨[.ref x,.ref y,rawInt (k:Int),rawInt (codeOf op)],[]⟩) R s:=by
 intro r
 induction r with
 | zero=>intro k hk _ h3 _; omega
 | succ r ih=>
  intro k hk e h3 h4
  have hd:=Jcu op k is js e h3 h4
  refine codeAny_builtin JkA ?_
  rw [Around.under_plainId JbC _]
  have go:∀ P:PySem.Fin -> Shared -> Prop,(∀ v,P (.done (.ret v)) s = R (.ok (.ret v)) s) -> (∀ c,P (.again c) s = (c.quiet = true /\ codeAny (model prog w) A c R s)) -> ∀ E,wpAny (model prog w) A.in1 (do
    let a <- Builtin.List.listItems (.ref x)
    let b <- Builtin.List.listItems (.ref y)
    match (a[k]?,b[k]?) with
     | (some x',some y')=>do
      let t <- eqBool x' y'
      if t = true then
        again (Code.builtin "list.__eq__.loop" { pos:=[.ref x,.ref y,rawInt ((k:Int) + 1),rawInt (codeOf op)] })
       else do
        let xs <- Builtin.List.listItems (.ref x)
        let ys <- Builtin.List.listItems (.ref y)
        match xs[k]?,ys[k]?,op with
         | some val,some val_1,CmpOp.Eq=>ret (Value.bool false)
         | some val,some val_1,CmpOp.NotEq=>ret (Value.bool true)
         | some x,some y,x_1=>do
          let t <- richCompare op x y
          ret t
         | x,x_1,x_2=>do
          rule "list.compare.shrunk"
          ret (.bool (cmpN op xs.size ys.size))
     | _=>do
      let a <- Builtin.List.listItems (.ref x)
      let b <- Builtin.List.listItems (.ref y)
      ret (.bool (cmpN op a.size b.size))) P E s:=by
   intro P p1 p2 E
   refine wpAny_bind (JaC hx dx (wpAny_bind (JaC hy dy ?_)))
   have gx:xs.toArray[k]? = xs[k]?:=List.getElem?_toArray ..
   have gy:ys.toArray[k]? = ys[k]?:=List.getElem?_toArray ..
   have l1:=Jj h1
   have l2:=Jj h2
   have fin:(is.length <= k \/ js.length <= k) -> lexC op is js = cmpN op xs.toArray.size ys.toArray.size:=fun hh=>by
    rw [<- Jkd,hd,List.size_toArray,List.size_toArray,l1,l2]
    have e3:∀ a b:List Int,(a = [] \/ b = []) -> lexC op a b = cmpZ op a.length b.length:=fun a b h=>by
     cases a <;> cases b <;> first | rfl | (simp at h)
    rw [e3 _ _ (by rcases hh with hh | hh; exact .inl (List.drop_of_length_le hh); exact .inr (List.drop_of_length_le hh)),List.length_drop,List.length_drop]
    rw [<- Jhq (op:=op) is.length js.length k]
    congr 1 <;> omega
   rcases Jhk h1 k with ⟨p,t,i1,i2⟩ | ⟨i1,i2⟩
   ·rcases Jhk h2 k with ⟨q,u,j1,j2⟩ | ⟨j1,j2⟩
    ·rw [gx,gy,i2,j2]
     have hk1:=(List.getElem?_eq_some_iff.mp i1).1
     have hk2:=(List.getElem?_eq_some_iff.mp j1).1
     refine wpAny_bind (EqAt.int_int p t q u prog w _ _ ?_)
     by_cases epq:p = q
     ·rw [show (p == q) = true by simp [epq],if_pos rfl]
      refine wpAny_pure ?_
      rw [p2]
      refine ⟨plainId_quiet JbC _,ih (k + 1) (by omega) ?_ hk1 hk2⟩
      rw [List.take_succ,List.take_succ,e,i1,j1,epq]
     ·rw [show (p == q) = false by simp [epq],if_neg (by decide)]
      refine wpAny_bind (JaC hx dx (wpAny_bind (JaC hy dy ?_)))
      rw [gx,gy,i2,j2]
      have hv:lexC op is js = cmpZ op p q:=by
       rw [hd,List.drop_eq_getElem_cons hk1,List.drop_eq_getElem_cons hk2,(List.getElem?_eq_some_iff.mp i1).2,(List.getElem?_eq_some_iff.mp j1).2]
       simp only [lexC,if_neg epq]
      rcases ho with rfl | rfl
      ·refine wpAny_bind (CmpOf.ints_lt (prog:=prog) (w:=w) (A:=A.in1) (P:=fun i v=>∃ t,v = .int (if i = 0 then p else q) t) (fun i=>if i = 0 then p else q) (fun i v h=>h) 0 1 _ _ _ _ _ ⟨t,rfl⟩ ⟨u,rfl⟩ (wpAny_pure ?_))
       rw [p1]
       rw [hv] at hR
       exact hR
      ·refine wpAny_bind (CmpOf.ints_gt (prog:=prog) (w:=w) (A:=A.in1) (P:=fun i v=>∃ t,v = .int (if i = 0 then p else q) t) (fun i=>if i = 0 then p else q) (fun i v h=>h) 0 1 _ _ _ _ _ ⟨t,rfl⟩ ⟨u,rfl⟩ (wpAny_pure ?_))
       rw [p1]
       rw [hv] at hR
       exact hR
    ·rw [gx,gy,i2,j2]
     refine wpAny_bind (JaC hx dx (wpAny_bind (JaC hy dy (wpAny_pure ?_))))
     rw [p1,<- fin (.inr j1)]
     exact hR
   ·rw [gx,gy,i2]
    refine wpAny_bind (JaC hx dx (wpAny_bind (JaC hy dy (wpAny_pure ?_))))
    rw [p1,<- fin (.inl i1)]
    exact hR
  rcases ho with rfl | rfl
  ·refine go _ ?_ ?_ _ <;> intros <;> rfl
  ·refine go _ ?_ ?_ _ <;> intros <;> rfl
theorem Jij (x y:Addr) (xs ys:List Value) (is js:List Int):Meets (Builtin.«list.__lt__» ⟨[.ref x,.ref y],[]⟩) (fun A R s=>(∃ ox n,s.heap.get? x = some ox /\ ox.data = .seq xs.toArray n) /\ (∃ oy m,s.heap.get? y = some oy /\ oy.cls = .type "list" /\ oy.data = .seq ys.toArray m) /\ IntVs xs is /\ IntVs ys js /\ R (.ok (.ret (.bool (lexC .Lt is js)))) s):=
 fun prog w A R s ⟨⟨ox,n,hx,dx⟩,⟨oy,m,hy,cy,dy⟩,h1,h2,hR⟩=>by
  show wpAny _ _ (slotArgs "__lt__" 1 ⟨[.ref x,.ref y],[]⟩ >>= _) _ _ _
  refine wpAny_bind (wpAny_of_eq (show slotArgs "__lt__" 1 ⟨[.ref x,.ref y],[]⟩ = pure (.ref x,[.ref y]) from rfl) ?_)
  show wpAny _ _ (isInstance (.ref y) (.type "list") >>= _) _ _ _
  refine wpAny_bind (wpAny_isInstance ⟨_,hy,cy⟩ sub_list_self ?_)
  refine wpAny_pure ?_
  exact ⟨plainId_quiet JbC _,JgC (.inl rfl) hx dx hy dy h1 h2 hR (is.length + 1) 0 (by omega) rfl (Nat.zero_le _) (Nat.zero_le _)⟩
theorem Jir (x y:Addr) (xs ys:List Value) (is js:List Int):Meets (Builtin.«list.__gt__» ⟨[.ref x,.ref y],[]⟩) (fun A R s=>(∃ ox n,s.heap.get? x = some ox /\ ox.data = .seq xs.toArray n) /\ (∃ oy m,s.heap.get? y = some oy /\ oy.cls = .type "list" /\ oy.data = .seq ys.toArray m) /\ IntVs xs is /\ IntVs ys js /\ R (.ok (.ret (.bool (lexC .Gt is js)))) s):=
 fun prog w A R s ⟨⟨ox,n,hx,dx⟩,⟨oy,m,hy,cy,dy⟩,h1,h2,hR⟩=>by
  show wpAny _ _ (slotArgs "__gt__" 1 ⟨[.ref x,.ref y],[]⟩ >>= _) _ _ _
  refine wpAny_bind (wpAny_of_eq (show slotArgs "__gt__" 1 ⟨[.ref x,.ref y],[]⟩ = pure (.ref x,[.ref y]) from rfl) ?_)
  show wpAny _ _ (isInstance (.ref y) (.type "list") >>= _) _ _ _
  refine wpAny_bind (wpAny_isInstance ⟨_,hy,cy⟩ sub_list_self ?_)
  refine wpAny_pure ?_
  exact ⟨plainId_quiet JbC _,JgC (.inr rfl) hx dx hy dy h1 h2 hR (is.length + 1) 0 (by omega) rfl (Nat.zero_le _) (Nat.zero_le _)⟩
theorem JcW {E Q:Value -> Shared -> Prop} (hu:A.units < cLine) (hx:s.heap.get? x = some ox) (cx:ox.cls = .type "list") (dx:ox.data = .seq xs.toArray n) (hy:s.heap.get? y = some oy) (cy:oy.cls = .type "list") (dy:oy.data = .seq ys.toArray m) (h1:IntVs xs is) (h2:IntVs ys js) (hQ:Q (.bool (lexI is js)) s):wpAny (model prog w) A (richCompare .Lt (.ref x) (.ref y)) Q E s:=
 wpAny_richCompare_same_room (T:="list") ⟨_,hx,cx⟩ ⟨_,hy,cy⟩ F.slot_list_lt (call_meets F.slot_list_lt ⟨_,hx,cx⟩ F.entry_list_lt (F.args_list_lt_2 _ _) (Jij x y xs ys is js) ⟨⟨_,_,hx,dx⟩,⟨_,_,hy,cy,dy⟩,h1,h2,by rw [Jhh]; exact ⟨by simp,hQ⟩⟩) hu
theorem Jdo {E Q:Value -> Shared -> Prop} (hu:A.units < cLine) (hx:s.heap.get? x = some ox) (cx:ox.cls = .type "list") (dx:ox.data = .seq xs.toArray n) (hy:s.heap.get? y = some oy) (cy:oy.cls = .type "list") (dy:oy.data = .seq ys.toArray m) (h1:IntVs xs is) (h2:IntVs ys js) (hQ:Q (.bool (lexI js is)) s):wpAny (model prog w) A (richCompare .Gt (.ref x) (.ref y)) Q E s:=
 wpAny_richCompare_same_room (T:="list") ⟨_,hx,cx⟩ ⟨_,hy,cy⟩ F.slot_list_gt (call_meets F.slot_list_gt ⟨_,hx,cx⟩ F.entry_list_gt (F.args_list_gt_2 _ _) (Jir x y xs ys is js) ⟨⟨_,_,hx,dx⟩,⟨_,_,hy,cy,dy⟩,h1,h2,by rw [Jgf]; exact ⟨by simp,hQ⟩⟩) hu
end
section
variable {X:Cx}
theorem Jkw (hu:X.A.units + 64 < cLine):OpR X (compareOp .Lt) (rD2 X .ltL):=by
 intro pins s σ H x y v u Q I rx ry ⟨dx,dy,r1,r2,h⟩
 cases dx <;> cases dy <;> first
  | exact (show False from h).elim
  | skip
 rename_i as bs
 simp only [op2] at h
 split at h
 ·rename_i is js e1 e2
  split at h
  ·obtain ⟨a,xs,rfl,g1,q1⟩:=r1
   obtain ⟨b,ys,rfl,g2,q2⟩:=r2
   cases rx
   cases ry
   obtain ⟨its,hv,⟨ob,nb,o1,o2,_,o3⟩,_⟩:=I.list g1
   obtain ⟨jts,kv,⟨oc,nc,p1,p2,_,p3⟩,_⟩:=I.list g2
   rw [Jl e1] at q1
   rw [Jl e2] at q2
   exact JcW (by omega) o1 o2 o3 p1 p2 p3 (Js q1 hv) (Js q2 kv) ⟨.bl _,H,I,rfl,Out.now h rfl⟩
  ·exact h.elim
 ·exact h.elim
theorem Jej:∀ is js:List Int,eqvs (is.map D.int) (js.map D.int) = decide (is = js)
 | [],[]=>by simp [eqvs]
 | [],_ :: _=>by simp [eqvs]
 | _ :: _,[]=>by simp [eqvs]
 | i :: is,j :: js=>by
  have:=Jej is js
  simp only [List.map_cons,eqvs,D.eqv,this,List.cons.injEq]
  by_cases e:i = j <;> by_cases e2:is = js <;> simp [e,e2]
theorem Jah:∀ is:List Int,deps (is.map D.int) = 0
 | []=>rfl
 | _ :: is=>by simp [deps,D.dep,Jah is]
theorem JlV {pins:List (Addr × Obj)} {σ:L2.St} {H:Hp} {s:Shared} {E Q:Value -> Shared -> Prop} (hu:X.A.units + 64 < cLine) (I:L2.Inv X pins σ H s) {x y:Addr} {ox oy:Obj} {n m:Nat} {a b:Addr} {i j:Int} {t1 t2:Tok} {is js:List Int} (hx:s.heap.get? x = some ox) (cx:ox.cls = .type "tuple") (dx:ox.data = .seq [.ref a,.int i t1].toArray n) (hy:s.heap.get? y = some oy) (cy:oy.cls = .type "tuple") (dy:oy.data = .seq [.ref b,.int j t2].toArray m)
  (ra:Rep X.K H (.lst (is.map D.int)) (.ref a)) (rb:Rep X.K H (.lst (js.map D.int)) (.ref b)) (hQ:Q (.bool (if is = js then decide (j < i) else lexI js is)) s):wpAny (model X.prog X.w) X.A (richCompare .Gt (.ref x) (.ref y)) Q E s:=by
 refine wpAny_richCompare_same_room (T:="tuple") ⟨_,hx,cx⟩ ⟨_,hy,cy⟩ F.slot_tuple_gt ?_ (by omega)
 refine wpAny_call_entry F.slot_tuple_gt ⟨_,hx,cx⟩ F.entry_tuple_gt ?_ (F.args_tuple_gt_2 _ _)
 show wpAny _ _ (slotArgs "__gt__" 1 ⟨[.ref x,.ref y],[]⟩ >>= _) _ _ _
 refine wpAny_bind (wpAny_of_eq (show slotArgs "__gt__" 1 ⟨[.ref x,.ref y],[]⟩ = pure (.ref x,[.ref y]) from rfl) ?_)
 show wpAny _ _ (isInstance (.ref y) (.type "tuple") >>= _) _ _ _
 refine wpAny_bind (wpAny_isInstance ⟨_,hy,cy⟩ sub_tuple_self ?_)
 show wpAny _ _ (Builtin.Tuple.tupleItemsOf (.ref x) >>= _) _ _ _
 refine wpAny_bind (wpAny_tupleItemsOf hx dx ?_)
 refine wpAny_bind (wpAny_tupleItemsOf hy dy ?_)
 simp only [List.toList_toArray,List.zip_cons_cons,List.zip_nil_right]
 have hua:X.A.in1.units = X.A.units + 1:=rfl
 have q1:=(JiL I 20 X.A.in1 (.lst (is.map D.int)) (.lst (js.map D.int)) (by simp only [D.dep,Jah]; omega) (by simp only [D.dep,Jah]; omega) (by simp only [D.dep,Jah]; omega) ra rb rfl rfl (by omega)).2.2
 rw [show (D.lst (is.map D.int)).eqv (.lst (js.map D.int)) = decide (is = js) by rw [D.eqv,Jej]] at q1
 obtain ⟨a',va,e1,g1,r1⟩:=ra
 cases e1
 obtain ⟨b',vb,e2,g2,r2⟩:=rb
 cases e2
 obtain ⟨its,hv,⟨ob,nb,o1,o2,_,o3⟩,_⟩:=I.list g1
 obtain ⟨jts,kv,⟨oc,nc,p1,p2,_,p3⟩,_⟩:=I.list g2
 rw [List.forIn_cons]
 refine wpAny_bind (wpAny_bind ?_)
 show wpAny _ _ (eqBool (.ref a) (.ref b) >>= _) _ _ _
 refine wpAny_bind (q1 X.prog X.w _ _ ?_)
 by_cases e:is = js
 ·rw [decide_eq_true e]
  rw [if_pos e] at hQ
  refine wpAny_pure ?_
  show wpAny _ _ (forIn [(Value.int i t1,Value.int j t2)] _ _) _ _ _
  rw [List.forIn_cons]
  refine wpAny_bind ?_
  show wpAny _ _ (eqBool (.int i t1) (.int j t2) >>= _) _ _ _
  refine wpAny_bind (EqAt.int_int i t1 j t2 X.prog X.w _ _ ?_)
  by_cases e3:i = j
  ·rw [show (i == j) = true by simp [e3]]
   refine wpAny_pure ?_
   show wpAny _ _ (forIn [] _ _) _ _ _
   rw [List.forIn_nil]
   refine wpAny_pure (wpAny_pure ⟨_,rfl,(fun z=>by cases z),?_⟩)
   rw [show decide (j < i) = false by simp [e3]] at hQ
   exact hQ
  ·rw [show (i == j) = false by simp [e3]]
   show wpAny _ _ (rule "tuple.compare.by-the-first-pair-that-differs" >>= _) _ _ _
   refine wpAny_bind (wpAny_rule (wpAny_bind ?_))
   refine CmpOf.ints_gt (prog:=X.prog) (w:=X.w) (A:=X.A.in1) (P:=fun k v=>∃ t,v = .int (if k = 0 then i else j) t) (fun k=>if k = 0 then i else j) (fun k v h=>h) 0 1 _ _ _ _ _ ⟨t1,rfl⟩ ⟨t2,rfl⟩ ?_
   exact wpAny_bind (wpAny_pure (wpAny_pure (wpAny_pure (wpAny_pure ⟨_,rfl,(fun z=>by cases z),hQ⟩))))
 ·rw [decide_eq_false e]
  rw [if_neg e] at hQ
  show wpAny _ _ (rule "tuple.compare.by-the-first-pair-that-differs" >>= _) _ _ _
  refine wpAny_bind (wpAny_rule (wpAny_bind ?_))
  refine Jdo (by omega) o1 o2 o3 p1 p2 p3 (Js r1 hv) (Js r2 kv) ?_
  exact wpAny_bind (wpAny_pure (wpAny_pure (wpAny_pure (wpAny_pure ⟨_,rfl,(fun z=>by cases z),hQ⟩))))
theorem JjQ (hu:X.A.units + 64 < cLine):OpR X (compareOp .Gt) (rD2 X .gtT):=by
 intro pins s σ H x y v u Q I rx ry ⟨dx,dy,r1,r2,h⟩
 simp only [op2] at h
 split at h
 ·rename_i as i bs j
  split at h
  ·rename_i is js e1 e2
   split at h
   ·obtain ⟨a,xs,rfl,g1,q1⟩:=r1
    obtain ⟨b,ys,rfl,g2,q2⟩:=r2
    cases rx
    cases ry
    obtain ⟨its,ob,nb,hv,o1,o2,_,o3,_⟩:=I.tupleD g1
    obtain ⟨jts,oc,nc,kv,p1,p2,_,p3,_⟩:=I.tupleD g2
    rw [Jl e1] at q1
    rw [Jl e2] at q2
    obtain ⟨x1,xr,rfl,q11,x2,xr2,rfl,q12,q13⟩:=q1
    obtain ⟨y1,yr,rfl,q21,y2,yr2,rfl,q22,q23⟩:=q2
    cases q13
    cases q23
    obtain ⟨a',va,rfl,w1,w2⟩:=id q11
    obtain ⟨b',vb,rfl,w3,w4⟩:=id q21
    cases q12
    cases q22
    cases hv with | cons z1 z2=>cases z2 with | cons z3 z4=>cases z4; cases z1; obtain ⟨t1,rfl⟩:=z3; cases kv with | cons z1 z2=>cases z2 with | cons z3 z4=>cases z4; cases z1; obtain ⟨t2,rfl⟩:=z3; exact JlV hu I o1 o2 o3 p1 p2 p3 q11 q21 ⟨.bl _,H,I,rfl,Out.now h rfl⟩
   ·exact h.elim
  ·exact h.elim
 ·exact h.elim
end
section
variable {X:Cx} {call:CallD} {G:Gw} {N:List Str} {nm:List (Str × NameKind)} {a b:Expr} {pa pb:Px} {pos:Pos}
theorem tLtL (C:Ctx X G N nm) (ha:PE X a (tI X call pa)) (hb:PE X b (tI X call pb)):PT X (.Compare a [.Lt] [b] pos) (tT X call (.bi .ltL pa pb)):=Jbc (Jkw C.un) ha hb (JN _)
theorem tGtT (C:Ctx X G N nm) (ha:PE X a (tI X call pa)) (hb:PE X b (tI X call pb)):PT X (.Compare a [.Gt] [b] pos) (tT X call (.bi .gtT pa pb)):=Jbc (JjQ C.un) ha hb (JN _)
end
end Rd
namespace Rd
open PySem PySem.Spec PyProof.Rows L2 Pu
open PySem.SeqAt (EqAt)
def cod (x:Str):List Int:=x.cps.toList.map fun c:Nat=>(c:Int)
theorem Jhb:∀ a b:List Nat,decide (a < b) = lexI (a.map fun c:Nat=>(c:Int)) (b.map fun c:Nat=>(c:Int))
 | [],[]=>rfl
 | [],_ :: b=>by simp [lexI]
 | _ :: a,[]=>by simp [lexI]
 | x :: a,y :: b=>by
  have:=Jhb a b
  simp only [List.map_cons,lexI,<- this,List.cons_lt_cons_iff]
  by_cases e:x = y
  ·subst e; simp
  ·have e':¬ (x:Int) = y:=by omega
   simp [e,e']
theorem Jja (x y:Str):ltS x y = lexI (cod x) (cod y):=Jhb _ _
theorem JcQ:∀ l:List (Str × D),sortK (l.map fun p=>(cod p.1,p.2)) = (sortT l).map fun p=>(cod p.1,p.2)
 | []=>rfl
 | x :: l=>by
  have ins:∀ zs:List (Str × D),insK (cod x.1,x.2) (zs.map fun p=>(cod p.1,p.2)) = (insT x zs).map fun p=>(cod p.1,p.2):=fun zs=>by
   induction zs with
   | nil=>rfl
   | cons z zs ih=>
    simp only [List.map_cons,insK,insT,<- Jja]
    split
    ·rw [ih]; rfl
    ·rfl
  simp only [List.map_cons,sortK,sortT]
  rw [JcQ l,ins]
theorem Jel (xs:List Str) (ds:List D):(sortT (xs.zip ds)).map (·.2) = (sortK ((xs.map cod).zip ds)).map (·.2):=by
 rw [show (xs.map cod).zip ds = (xs.zip ds).map fun p=>(cod p.1,p.2) by rw [List.zip_map_left]; rfl,JcQ,List.map_map]
 rfl
theorem Jae:∀ {ds:List D} {xs:List Str},headsOf ds = some xs -> xs.length = ds.length
 | [],_,h=>by cases h; rfl
 | d :: ds,_,h=>by
  unfold headsOf at h
  split at h
  ·cases h
   simp_all
  ·rename_i x r ds' e
   cases e
   obtain ⟨ys,e1,rfl⟩:=Option.map_eq_some_iff.mp h
   simp [Jae e1]
  ·cases h
theorem Jcn:∀ {ds:List D} {xs:List Str} {i:Nat},headsOf ds = some xs -> i < xs.length -> ∃ r,ds[i]? = some (.tup (.str (xs.getD i default) :: r))
 | [],_,_,h,hi=>by cases h; cases hi
 | d :: ds,_,i,h,hi=>by
  unfold headsOf at h
  split at h
  ·rename_i e; cases e
  ·rename_i x r ds' e
   cases e
   obtain ⟨ys,e1,rfl⟩:=Option.map_eq_some_iff.mp h
   cases i with
   | zero=>exact ⟨r,rfl⟩
   | succ i=>simpa using Jcn e1 (by simpa using hi)
  ·cases h
section
variable {X:Cx} {pins:List (Addr × Obj)} {σ:L2.St} {H:Hp} {s:Shared} {a:Addr}
theorem Jid (I:L2.Inv (in2 X) pins σ H s) {ds:List D} {xs:List Str} {ys:List V} {its:List Value} (hk:headsOf ds = some xs) (rr:Reps X.K H ds ys) (rv:Vals ys its) (i:Nat) (hi:i < its.length):∃ (b:Addr) (o:Obj) (us:List Value) (n:Nat) (t:Tok),its[i]? = some (.ref b) /\ s.heap.get? b = some o /\ o.cls = .type "tuple" /\ o.data = .seq (Value.str (xs.getD i default) t :: us).toArray n:=by
 have l1:=rv.length
 have l2:=rr.length
 have l3:=Jae hk
 obtain ⟨r,hd⟩:=Jcn (i:=i) hk (by omega)
 obtain ⟨x,hx,rx⟩:=rr.get hd
 obtain ⟨b,zs,rfl,h1,h2⟩:=rx
 obtain ⟨u,hu,ru⟩:=rv.get hx
 cases ru
 obtain ⟨us,o,n,r',e,c,_,dd,_⟩:=I.tupleD h1
 obtain ⟨z,zr,rfl,h3,h4⟩:=h2
 cases h3
 cases r' with
 | cons q1 q2=>
  obtain ⟨t,rfl⟩:=q1
  exact ⟨b,o,_,n,t,hu,e,c,dd⟩
theorem JfT {h:Heap}:∀ {ks:List Value},(∀ (i:Nat),i < ks.length -> ∃ (b:Addr) (o:Obj) (us:List Value) (n:Nat) (x:Str) (t:Tok),ks[i]? = some (.ref b) /\ h.get? b = some o /\ o.cls = .type "tuple" /\ o.data = .seq (Value.str x t :: us).toArray n) -> ∃ fs:List Value,fs.length = ks.length /\ PySem.W.KatTups h ks fs /\ ∀ v ∈ fs,∃ x t,v = .str x t
 | [],_=>⟨[],rfl,PySem.W.KatTups.nil,fun v hv=>by cases hv⟩
 | k :: ks,h0=>by
  obtain ⟨fs,e1,e2,e3⟩:=JfT (ks:=ks) fun i hi=>by
   have:=h0 (i + 1) (by simpa using hi)
   simpa using this
  obtain ⟨b,o,us,n,x,t,q1,q2,q3,q4⟩:=h0 0 (by simp)
  simp only [List.getElem?_cons_zero,Option.some.injEq] at q1
  subst q1
  exact ⟨.str x t :: fs,by simp [e1],PySem.W.KatTups.cons q2 q3 q4 (by simp) e2,fun v hv=>(List.mem_cons.mp hv).elim (fun e=>⟨x,t,e⟩) (e3 v)⟩
theorem Jlj {prog:Program} {w:World} {A:Around} {E:Value -> Shared -> Prop} {Q:Bool -> Shared -> Prop} {x y:Addr} {ox oy:Obj} {l1 l2:Str} {t1 t2:Tok} {xs ys:List Value} {n m:Nat} (hx:s.heap.get? x = some ox) (dx:ox.data = .seq (Value.str l1 t1 :: xs).toArray n) (hy:s.heap.get? y = some oy) (dy:oy.data = .seq (Value.str l2 t2 :: ys).toArray m) (hne:l1 ≠ l2) (hQ:Q (ltS l1 l2) s):wpAny (model prog w) A (keyLt' (tuples' true) (.ref x) (.ref y)) Q E s:=by
 refine PySem.W.kat_lt hx dx hy dy ?_
 show PySem.W.KatLex prog w A true _ Q ((Value.str l1 t1,Value.str l2 t2) :: _) 0 s
 refine PySem.W.kat_cons (EqAt.str_str l1 t1 l2 t2 prog w _ _ ?_)
 rw [show (l1 == l2) = false by simp [hne]]
 refine PySem.W.kat_no ?_
 exact PySem.W.kas_lt_str hQ
theorem JhS {xs:List Str} (h:xs.Nodup) {i j:Nat} (hi:i < xs.length) (hj:j < xs.length) (hne:i ≠ j):xs.getD i default ≠ xs.getD j default:=by
 rw [List.getD_eq_getElem?_getD,List.getD_eq_getElem?_getD,List.getElem?_eq_getElem hi,List.getElem?_eq_getElem hj]
 have hp:=List.pairwise_iff_getElem.mp h
 rcases Nat.lt_or_gt_of_ne hne with q | q
 ·exact hp i j hi hj q
 ·exact fun e=>hp j i hj hi q e.symm
theorem Jis {n:Nat} {ds:List D} {xs:List Str} {ys:List V} {its:List Value} (hv:Vals ys its) (hR:Reps X.K H ds ys) (hk:headsOf ds = some xs) (hnd:xs.Nodup) (h6:ds.length <= 6) (I:L2.Inv (in2 X) pins σ H s) (fa:FpOk (in2 X) pins H a) (ha:s.heap.get? a = some (seqObj "list" its.toArray n)) {P:PySem.Fin -> Shared -> Prop} {E:Value -> Shared -> Prop}
  (hP:∀ (s':Shared) (out:List Value) (outV:List V) (c:Nat),L2.Inv (in2 X) pins σ H s' -> s'.heap.get? a = some (seqObj "list" out.toArray c) -> Vals outV out -> Reps X.K H ((sortT (xs.zip ds)).map (·.2)) outV -> P (.done (.ret .none)) s') :
  wpAny (model X.prog X.w) X.A.in1.in1 (Builtin.«list.sort» ⟨[.ref a],[]⟩) P E s:=by
 have l3:=Jae hk
 have l4:=hv.length
 have l5:=hR.length
 have hil:(xs.map cod).length = its.length:=by rw [List.length_map]; omega
 rw [list_sort_plain]
 refine wpAny_bind (JbK ha ?_)
 refine wpAny_bind (wpAny_updateSeq ha rfl ?_ (by rw [List.size_toArray,sizeLine_eq]; omega) (by simp))
 have I1:=Jay (f:=Obj.mapSeq fun _=>#[]) I fa
 obtain ⟨e1,ha1⟩:∃ e1,(s.heap.update a (Obj.mapSeq fun _=>#[])).get? a = some (seqObj "list" #[] e1):=⟨_,get?_update_seq ha _⟩
 refine wpAny_bind (JaK ha1 ?_)
 refine wpAny_bind (wpAny_newTuple ?_ (by simp only [List.toList_toArray]; rw [sizeLine_eq]; omega))
 refine wpAny_bind (wpAny_newList ?_ (Nat.zero_le _))
 refine wpAny_holding ?_
 generalize hh1:((s.heap.update a (Obj.mapSeq fun _=>#[])).push { cls:=.type "tuple",data:=.seq its.toArray.toList.toArray }).push { cls:=.type "list",data:=.seq ([]:List Value).toArray } = h1
 have I2:L2.Inv (in2 X) pins σ H { s with heap:=h1 }:=by
  rw [<- hh1]
  exact (I1.kept (t':=s.toks) fun b o e=>Heap.get?_push_of_some _ e).kept (t':=s.toks) fun b o e=>Heap.get?_push_of_some _ e
 have ha2:h1.get? a = some (seqObj "list" #[] e1):=by rw [<- hh1]; exact Heap.get?_push_of_some _ (Heap.get?_push_of_some _ ha1)
 have tail:∀ (st:SortSt),failedOf st = none -> (arrOf st).map (fun x=>x.2) = ((sortI (ltK (xs.map cod)) (List.range its.length)).map fun i=>its.getD i .none).toArray -> wpAny (model X.prog X.w) X.A.in1.in1 (do
   let touched:=(<- seqEpoch a) != e1
   Builtin.List.listUpdate (.ref a) fun _=>(arrOf st).map (fun x=>x.2)
   if let some e:=failedOf st then rule "list.sort.comparison-raised"; throw e
   if touched then rule "list.sort.modified"; raiseError "ValueError" "list modified during sort"
   ret .none) P E { s with heap:=h1 }:=fun st hfail harr=>by
  have hl:∀ i ∈ sortI (ltK (xs.map cod)) (List.range its.length),i < its.length:=fun i hi=>by simpa using JU hi
  rw [harr,hfail]
  refine wpAny_bind (JaK ha2 ?_)
  refine wpAny_bind (wpAny_updateSeq ha2 rfl ?_ (by simp) ?_)
  ·obtain ⟨c,hc⟩:∃ c,(h1.update a (Obj.mapSeq fun _=>((sortI (ltK (xs.map cod)) (List.range its.length)).map fun i=>its.getD i .none).toArray)).get? a = some (seqObj "list" ((sortI (ltK (xs.map cod)) (List.range its.length)).map fun i=>its.getD i .none).toArray c):=⟨_,get?_update_seq ha2 _⟩
   simp only [bne_self_eq_false,Bool.false_eq_true,if_false]
   refine wpAny_pure ?_
   refine hP _ _ _ c (Jay I2 fa) hc (JaW hv _ hl) ?_
   rw [Jel,JW (xs.map cod) ds (by omega),Jaj,List.map_map,hil]
   exact JaO hR _ fun i hi=>by have:=hl i hi; omega
  ·show (List.toArray _).size <= _
   rw [List.size_toArray,List.length_map,sizeLine_eq,JI,List.length_range]
   omega
 by_cases h2:2 <= ds.length
 ·have hsz:¬ its.toArray.size < 2:=by rw [List.size_toArray]; omega
  simp only [if_neg hsz]
  have objs:=Jid I2 hk hR hv
  obtain ⟨fs,f1,f2,f3⟩:=JfT (h:=h1) (ks:=its) fun i hi=>by
   obtain ⟨b,o,us,n,t,q1,q2,q3,q4⟩:=objs i hi
   exact ⟨b,o,us,n,_,t,q1,q2,q3,q4⟩
  refine wpAny_bind (PySem.W.kat_kind (T:=.type "str") (s:={ s with heap:=h1 }) f2 (by omega) (fun v hv' A Q E s _ hq=>?_) (by decide +kernel) ?_)
  ·obtain ⟨x,t,rfl⟩:=f3 v hv'
   exact wpAny_pure hq
  rw [show ((Value.type "str" != Value.type "tuple"):Bool) = true by decide +kernel]
  have tr:=Jho (xs.map cod) (by omega) (by omega)
  rw [hil] at tr
  refine wpAny_bind (wpAny_mono (PySem.W.kat_run (vs:=its) (ks:=its) (G:=fun p s'=>p.toList = sortI (ltK (xs.map cod)) (List.range its.length) /\ s' = { s with heap:=h1 }) (Q:=fun st' s'=>s' = { s with heap:=h1 } /\ failedOf st' = none /\ (arrOf st').map (fun x=>x.2) = ((sortI (ltK (xs.map cod)) (List.range its.length)).map fun i=>its.getD i .none).toArray) rfl (by omega) (by omega) (fun p st' s' hp harr hfail ⟨hG,hs⟩=>⟨hs,hfail,?_⟩) ?_) (fun r s' hq=>?_) fun _ _ x=>x)
  ·rw [harr,<- hG]
   apply Array.toList_inj.mp
   simp only [Array.toList_map,List.map_map]
   refine List.map_congr_left fun i _=>?_
   show (PySem.W.kas_item (its.toArray.zip its.toArray) i).2 = _
   rw [PySem.W.kat_item rfl]
  ·refine JdD (J:=fun s'=>s' = { s with heap:=h1 }) (n:=its.length) (lt:=ltK (xs.map cod)) (fun i j hi hj hij C s1 hs hC=>?_) _ _ _ _ tr rfl fun p s' hp hs=>⟨hp,hs⟩
   subst hs
   obtain ⟨b,o,us,n,t,q1,q2,q3,q4⟩:=objs i hi
   obtain ⟨b',o',us',n',t',r1,r2,r3,r4⟩:=objs j hj
   show wpAny _ _ (keyLt' _ (its.getD i .none) (its.getD j .none)) C _ _
   rw [List.getD_eq_getElem?_getD,q1,List.getD_eq_getElem?_getD,r1]
   refine Jlj q2 q4 r2 r4 (JhS hnd (by omega) (by omega) hij) ?_
   have:=hC _ rfl
   rw [ltK,show (xs.map cod).getD i [] = cod (xs.getD i default) by rw [List.getD_eq_getElem?_getD,List.getD_eq_getElem?_getD,List.getElem?_map,List.getElem?_eq_getElem (show i < xs.length by omega)]; rfl,show (xs.map cod).getD j [] = cod (xs.getD j default) by rw [List.getD_eq_getElem?_getD,List.getD_eq_getElem?_getD,List.getElem?_map,List.getElem?_eq_getElem (show j < xs.length by omega)]; rfl,<- Jja] at this
   exact this
  ·obtain ⟨⟨⟩,st⟩:=r
   obtain ⟨rfl,hfail,harr⟩:=hq
   exact tail st hfail harr
 ·have hsz:its.toArray.size < 2:=by rw [List.size_toArray]; omega
  simp only [if_pos hsz]
  refine wpAny_bind (wpAny_pure (wpAny_bind (wpAny_pure ?_)))
  refine tail (SortSt.mk' general' (its.toArray.zip its.toArray) #[] 7 none) rfl ?_
  show (its.toArray.zip its.toArray).map (fun x=>x.2) = _
  match its,(show its.length < 2 by simpa using hsz) with
  | [],_=>simp [sortI]
  | [u],_=>simp [sortI,insI,List.range_succ]
  | _ :: _ :: _,h=>simp at h; omega
theorem JhH:CallR X (.builtin "sorted") (rC1 X .sortT):=by
 intro pins s σ H xs us Q I rv ⟨x,d,e,r,h⟩
 subst e
 obtain ⟨u,rfl,rx⟩:=Jaz rv
 cases d with
 | lst ds=>
  obtain ⟨b,ys,rfl,h1,hR⟩:=r
  cases rx
  obtain ⟨its,hv,⟨ob,nb,hob,hcl,_,hda⟩,_⟩:=I.list h1
  simp only [op1] at h
  split at h
  ·rename_i ls hk
   split at h
   ·rename_i hc
    have l4:=hv.length
    have l5:=hR.length
    refine Calls.call_function_entry kind_sorted plain_sorted entry_sorted (args_sorted1 _) ?_
    unfold Builtin.«sorted»
    refine wpAny_bind (m:=checkCount "sorted" 1 1 _) (wpAny_pure (wpAny_bind (wpAny_collect_seq b (.inl rfl) hob hcl hda (fun h' kp=>?_) (by rw [List.size_toArray,sizeLine_eq]; omega))))
    simp only [List.toList_toArray]
    have I1:L2.Inv X pins σ H { s with heap:=h' }:=I.kept (t':=s.toks) kp
    refine wpAny_bind (wpAny_newList ?_ (by rw [sizeLine_eq]; omega))
    have I2:L2.Inv X pins σ H { s with heap:=h'.push { cls:=.type "list",data:=.seq its.toArray } }:=I1.kept (t':=s.toks) fun b o e=>Heap.get?_push_of_some _ e
    have fa:FpOk X pins H h'.objs.size:=I1.fpOk (Nat.le_refl _) I1.fresh
    have ha:(h'.push { cls:=.type "list",data:=.seq its.toArray }).get? h'.objs.size = some (seqObj "list" its.toArray 0):=Heap.get?_push_size _ rfl
    refine wpAny_bind (wpAny_holding (wpAny_call_entry slot_list_sort ⟨_,ha,rfl⟩ entry_list_sort ?_ (args_list_sort _)))
    refine Jis hv hR hk hc.1 hc.2 (Jgp I2) fa ha fun s' out outV c I3 hc3 rv3 rr3=>⟨_,rfl,?_⟩
    refine wpAny_pure ⟨_,rfl,?_⟩
    have lo:=rv3.length
    have lo2:=rr3.length
    have hlen:((sortT (ls.zip ds)).map (·.2)).length <= 6:=by
     have l3:=Jae hk
     rw [Jel,JW (ls.map cod) ds (by rw [List.length_map]; omega),Jaj,List.map_map,List.length_map,JI,List.length_range,List.length_map]
     omega
    obtain ⟨s1,q1⟩:=Jci (K:=X.K) fa.1 rr3
    exact ⟨.ref h'.objs.size,_,Jch (JdJ I.ok I3) fa (show ObjOk X.prog X.w _ s'.heap _ (.lst outV) from ⟨by rw [sizeLine_eq]; omega,out,c,rv3,hc3⟩),rfl,h _ _ s1 q1⟩
   ·exact h.elim
  ·exact h.elim
 | _=>exact (show False from h).elim
end
section
variable {X:Cx} {call:CallD} {G:Gw} {N:List Str} {nm:List (Str × NameKind)} {a:Expr} {pa:Px} {pos p1:Pos}
theorem cSrtT (C:Ctx X G N nm) (hm:G.mg "sorted" = none) (ha:PE X a (tI X call pa)) (hg:gloB nm "sorted" = true) (hs:starEach [a] X.env = (false,eval a X.env) :: starEach [] X.env:=by rfl):PE X (.Call (.Name "sorted" p1) [a] [] pos) (tI X call (.un .sortT pa)):=JgK C JhH ha hg hm PyProof.Rows.boot_sorted (by decide +kernel) (by decide +kernel) hs
end
end Rd
namespace Rd
open PySem PySem.Spec PyProof.Rows L2 Pu
def sp0 (K:PySem.W.Frag) (call:CallD) (fi:Nat):Sp:=fun vs H Q _=>∃ ds,Reps K H ds vs /\ (call fi ds).Good (fun d=>∀ v H',Same H H' -> Rep K H' d v -> Q v H') (fun _=>False)
theorem Jma {K:PySem.W.Frag} {mg:Str -> Option Value} {call:CallD} {fi:Nat} (vs:List V) (H:Hp) (Q:VK) (E:XK) (h:sp0 K call fi vs H Q E):spI K mg call fi vs H Q E:=by
 obtain ⟨ds,r,g⟩:=h
 exact ⟨ds,r,g.mono (fun _ z=>z) fun _ z=>z.elim⟩
theorem Jhi {K:PySem.W.Frag} {H:Hp} {a:Addr} {ns:List Int} {call:CallD} {fi:Nat} (h:SqL K H a (ns.map V.int)) (hv:call fi [.lst (ns.map .int)] = .ok (.bl true)):sp0 K call fi [.ref a] H (fun v _=>v = .bl true) fun _ _ _=>False:=by
 have rs:∀ ns:List Int,Reps K H (ns.map .int) (ns.map V.int):=fun ns=>by
  induction ns with
  | nil=>rfl
  | cons n ns ih=>exact ⟨.int n,ns.map V.int,rfl,rfl,ih⟩
 refine ⟨[.lst (ns.map .int)],Reps.one ⟨a,_,rfl,h,rs ns⟩,?_⟩
 rw [hv]
 exact fun v H' _ r=>r
theorem noCX {P:Program} {w:World} {H:Hp} {s:Shared} {e:Value} {s':Shared} (h:CXr P w [] H s (fun _ _ _=>False) e s'):False:=by
 obtain ⟨_,_,_,_,_,_,_,_,_,_,_,_,_,z⟩:=h
 exact z
end Rd
namespace Rd
open PySem PySem.Spec PyProof.Rows L2 Pu
def scChk (N P:List Str) (sc:Scope):Bool:=(sc.kind == .function) && !sc.isCoroutine && !sc.isGenerator && decide N.Nodup && (N.take P.length == P) && P.all (fun x=>sc.names.lookup x == some .local || sc.names.lookup x == some .cell) && sc.names.all fun y=>!(y.2 == .free)
theorem sc_of {N P:List Str} {sc:Scope} (h:scChk N P sc = true):FnScope N P sc:=by
 simp only [scChk,Bool.and_eq_true,beq_iff_eq,Bool.not_eq_true',decide_eq_true_eq,List.all_eq_true,Bool.or_eq_true,beq_eq_false_iff_ne] at h
 obtain ⟨⟨⟨⟨⟨⟨h1,h2⟩,h3⟩,h4⟩,h5⟩,h6⟩,h7⟩:=h
 exact ⟨h1,h2,h3,h4,h5,h6,h7⟩
structure DefIn (K:PySem.W.Frag) (n:Str) (s:Stmt) (f:Addr) (fd:FuncData):Prop where
 a:PySem.W.nsIn K mainGlobals n = some (some (.ref f))
 F:Fun K n n s f fd
theorem def_mk {K:PySem.W.Frag} {n:Str} {s:Stmt} {f:Addr} {od an:Option Addr} {sl:Array (Option Value)} {oc kV dc pm cd ct:Value} (a:PySem.W.nsIn K mainGlobals n = some (some (.ref f))) (l:K.lookup f = some ⟨oc,od,.func (PySem.W.fnOf n n (defArgs s) (defBody s) (defScope s) .none kV dc pm an cd ct),sl⟩) (c:PySem.W.codeIn K cd n = true) (k:PySem.W.keepIn K (.ref f) = true):DefIn K n s f (PySem.W.fnOf n n (defArgs s) (defBody s) (defScope s) .none kV dc pm an cd ct):=⟨a,Jlk l c k⟩
structure Def1 (K:PySem.W.Frag) (mg:Str -> Option Value) (x:Str) (st:Stmt) (ps:List Str) (f:Addr) (fd:FuncData):Prop where
 F:Fun K x x st f fd
 b:Binds K fd ps []
 g:mg x = some (.ref f)
abbrev DefE:=Str × Stmt × List Str
section
variable {P:Program} {w:World} {K:PySem.W.Frag} {mg:Str -> Option Value} {base:Heap} {defs:List DefD}
def HasD (K:PySem.W.Frag) (mg:Str -> Option Value):List DefE -> Prop
 | []=>True
 | e :: T=>(∃ f g,Def1 K mg e.1 e.2.1 e.2.2 f g) /\ HasD K mg T
def OkD (P:Program) (w:World) (K:PySem.W.Frag) (mg:Str -> Option Value) (base:Heap) (defs:List DefD) (k:Nat):Nat -> List DefE -> Prop
 | _,[]=>True
 | i,e :: T=>(∀ f g,Def1 K mg e.1 e.2.1 e.2.2 f g -> FnOk P w K mg base (CXr P w) (3 * k) f g e.2.2 (spI K mg (runD defs k) i)) /\ OkD P w K mg base defs k (i + 1) T
theorem JdQ:∀ (T:List DefE) (i:Nat),OkD P w K mg base defs 0 i T
 | [],_=>trivial
 | e :: T,i=>⟨fun _ _ _=>JjT,JdQ T (i + 1)⟩
theorem Jdd {k:Nat}:∀ {T:List DefE} {i j:Nat} {e:DefE},OkD P w K mg base defs k i T -> T[j]? = some e -> ∀ f g,Def1 K mg e.1 e.2.1 e.2.2 f g -> FnOk P w K mg base (CXr P w) (3 * k) f g e.2.2 (spI K mg (runD defs k) (i + j))
 | [],_,_,_,_,h=>by simp at h
 | d :: T,i,0,e,ok,h=>by
  simp only [List.getElem?_cons_zero,Option.some.injEq] at h
  subst h
  exact ok.1
 | d :: T,i,j + 1,e,ok,h=>by
  have:=Jdd (j:=j) ok.2 (by simpa using h)
  rw [show i + 1 + j = i + (j + 1) by omega] at this
  exact this
theorem JdF:∀ {T:List DefE} {j:Nat} {e:DefE},HasD K mg T -> T[j]? = some e -> ∃ f g,Def1 K mg e.1 e.2.1 e.2.2 f g
 | [],_,_,_,h=>by simp at h
 | d :: T,0,e,ok,h=>by
  simp only [List.getElem?_cons_zero,Option.some.injEq] at h
  subst h
  exact ok.1
 | d :: T,j + 1,e,ok,h=>JdF ok.2 (by simpa using h)
theorem Jgd {T:List DefE} {k:Nat} {A:Around} (hT:HasD K mg T) (ok:OkD P w K mg base defs k 0 T) (hr:Room (3 * k + 2) A) (j:Nat) {e:DefE} (h:T[j]? = some e):Callee ⟨P,w,K,mg,base,A⟩ (runD defs k) j e.1:=by
 obtain ⟨f,g,D⟩:=JdF hT h
 have F:=Jdd ok h f g D
 rw [Nat.zero_add] at F
 exact ⟨⟨3 * k,f,g,_,F,hr.in1.in1,D.g,D.F.kp,D.b⟩⟩
theorem fo {Ev:Gw -> CallD -> Prop} {N ps:List Str} {M:List Nat} {x:Str} {st:Stmt} {i k:Nat} {d:DefD} {b:Sx} (E:∀ A,Room (3 * k + 2) A -> Ev ⟨P,w,K,mg,base,A⟩ (runD defs k)) (dx:∀ {X:Cx} {G:Gw} {call:CallD} {H0:Hp},Ev G call -> Ctx X G N (defScope st).names -> HX X (defScope st).names -> PSs X (defBody st) (tS X call M H0 b))
  (hd:defs[i]? = some d:=by rfl) (hb:d.body = b:=by rfl) (h:(scChk N ps (defScope st) && d.slots == N.length && d.params == ps.length && M.all (fun i=>decide (ps.length <= i)) && decide (ps.length <= N.length)) = true:=by decide +kernel) :
  ∀ f g,Def1 K mg x st ps f g -> FnOk P w K mg base (CXr P w) (3 * (k + 1)) f g ps (spI K mg (runD defs (k + 1)) i):=fun f g D=>by
 simp only [Bool.and_eq_true,beq_iff_eq,List.all_eq_true,decide_eq_true_eq] at h
 obtain ⟨⟨⟨⟨h1,h2⟩,h3⟩,h4⟩,h5⟩:=h
 subst hb
 exact fn_ok (j:=3 * k + 2) D.F (sc_of h1) hd h2 h3 h4 h5 fun X A H0 C hr hx=>dx (E A hr) C hx
def DsIn (K:PySem.W.Frag):List DefE -> Prop
 | []=>True
 | e :: T=>(∃ f g,DefIn K e.1 e.2.1 f g) /\ DsIn K T
abbrev BsE (e:DefE):Prop:=∀ (kV doc pm:Value) (an:Option Addr) (cdv ct:Value) (us:List Value),us.length = e.2.2.length -> bindArgs (PySem.W.fnOf e.1 e.1 (defArgs e.2.1) (defBody e.2.1) (defScope e.2.1) .none kV doc pm an cdv ct) ⟨us,[]⟩ = pure (e.2.2.zip us)
def BsOk:List DefE -> Prop
 | []=>True
 | e :: T=>BsE e /\ BsOk T
theorem JgS {h:Heap} (X:K.In h) (G:h.Ns mainGlobals mg):∀ {T:List DefE},DsIn K T -> BsOk T -> HasD K mg T
 | [],_,_=>trivial
 | e :: T,d,b=>⟨let ⟨f,g,D⟩:=d.1; ⟨f,g,D.F,D.F.binds b.1,PySem.W.mg_of X G D.a⟩,JgS X G d.2 b.2⟩
theorem Jjb:∀ {T:List DefE} {j:Nat} {e:DefE},DsIn K T -> BsOk T -> T[j]? = some e -> (∃ f g,DefIn K e.1 e.2.1 f g) /\ BsE e
 | [],_,_,_,_,h=>by simp at h
 | d :: T,0,e,ok,b,h=>by
  simp only [List.getElem?_cons_zero,Option.some.injEq] at h
  subst h
  exact ⟨ok.1,b.1⟩
 | d :: T,j + 1,e,ok,b,h=>Jjb ok.2 b.2 (by simpa using h)
def BlIn (K:PySem.W.Frag):List Str -> Prop
 | []=>True
 | x :: T=>PySem.W.nsIn K mainGlobals x = some none /\ BlIn K T
def BlN (mg:Str -> Option Value):List Str -> Prop
 | []=>True
 | x :: T=>mg x = none /\ BlN mg T
theorem Jlm {h:Heap} (X:K.In h) (G:h.Ns mainGlobals mg):∀ {T:List Str},BlIn K T -> BlN mg T
 | [],_=>trivial
 | x :: T,d=>⟨PySem.W.mg_none_of X G d.1,Jlm X G d.2⟩
theorem JE:∀ {T:List Str} (j:Nat) {x:Str},BlN mg T -> T[j]? = some x -> mg x = none
 | [],_,_,_,h=>by simp at h
 | d :: T,0,e,ok,h=>by
  simp only [List.getElem?_cons_zero,Option.some.injEq] at h
  subst h
  exact ok.1
 | d :: T,j + 1,e,ok,h=>JE j ok.2 (by simpa using h)
theorem JlE {h:Heap} {T:List DefE} {n fl:Nat} {x SP:Str} {st:Stmt} {fa:Addr} (X:K.In h) (G:h.Ns mainGlobals mg) (hfa:mg x = some (.ref fa)) (dT:DsIn K T) (bT:BsOk T) (hl:T[fl]? = some (x,st,[SP])) (ok:∀ base,HasD K mg T -> ∀ k,OkD P w K mg base defs k 0 T) :
  ∃ fd:FuncData,(∀ (s:Shared) (v:Value),BindsTo s fd ⟨[v],[]⟩ [(SP,v)]) /\ ∀ base:Heap,K.In base -> base.Ns mainGlobals mg -> FnOk P w K mg base (CXr P w) (3 * n) fa fd [SP] (sp0 K (runD defs n) fl):=by
 obtain ⟨⟨f,g,D⟩,B⟩:=Jjb dT bT hl
 have e:=hfa.symm.trans (PySem.W.mg_of X G D.a)
 cases e
 refine ⟨g,?_,fun base _ _=>?_⟩
 ·obtain ⟨_,_,kV,doc,pm,an,cdv,ct,_,e,_⟩:=D.F.ex
  subst e
  exact fun s v=>.of_eq (B kV doc pm an cdv ct [v] rfl)
 ·have:=Jdd (ok base (JgS X G dT bT) n) hl _ g ⟨D.F,D.F.binds B,PySem.W.mg_of X G D.a⟩
  rw [Nat.zero_add] at this
  exact this.imp Jma
end
end Rd
namespace Pu
open PySem
section
variable (i j:Int) (x y:Str) (xs ys:List D) (a b:D) (p q:Bool)
@[simp] theorem o_neg:op1 .neg (.int i) = .ok (.int (-i)):=rfl
@[simp] theorem o_not:op1 .not (.bl p) = .ok (.bl !p):=rfl
@[simp] theorem JmN:op1 .truth (.bl p) = .ok (.bl p):=rfl
@[simp] theorem JkZ:op1 .len (.tup xs) = .ok (.int xs.length):=rfl
@[simp] theorem o_lenL:op1 .len (.lst xs) = .ok (.int xs.length):=rfl
@[simp] theorem o_tupL:op1 .tuple (.lst xs) = .ok (.tup xs):=rfl
@[simp] theorem o_tupT:op1 .tuple (.tup xs) = .ok (.tup xs):=rfl
@[simp] theorem o_listL:op1 .list (.lst xs) = .ok (.lst xs):=rfl
@[simp] theorem Jfq:op1 .list (.tup xs) = .ok (.lst xs):=rfl
@[simp] theorem o_enumT:op1 .enum (.tup xs) = .ok (.lst (enumFrom 0 xs)):=rfl
@[simp] theorem o_enumL:op1 .enum (.lst xs) = .ok (.lst (enumFrom 0 xs)):=rfl
@[simp] theorem o_rowsL:op1 .rows (.lst xs) = .ok (.lst xs):=rfl
@[simp] theorem Jkp:op1 .rows (.tup xs) = .ok (.tup xs):=rfl
@[simp] theorem JmC:D.walk (.lst xs) = .ok xs:=rfl
@[simp] theorem JfL:D.walk (.tup xs) = .ok xs:=rfl
@[simp] theorem o_asI:op1 .asI (.int i) = .ok (.int i):=rfl
@[simp] theorem o_asT:op1 .asT (.tup xs) = .ok (.tup xs):=rfl
@[simp] theorem o_isNn:op1 .isN .non = .ok (.bl true):=rfl
@[simp] theorem o_isNl:op1 .isN (.lst xs) = .ok (.bl false):=rfl
@[simp] theorem o_notNn:op1 .notN .non = .ok (.bl false):=rfl
@[simp] theorem o_notNl:op1 .notN (.lst xs) = .ok (.bl true):=rfl
theorem JfA (n:Nat) (h:n <= 1000):op1 .range (.int n) = .ok (.lst (upTo 0 n)):=by
 have:midI n = true:=by
  simp only [midI,Bool.and_eq_true,decide_eq_true_eq]
  omega
 simp [op1,this]
@[simp] theorem o_add:op2 .add (.int i) (.int j) = .ok (.int (i + j)):=rfl
@[simp] theorem o_sub:op2 .sub (.int i) (.int j) = .ok (.int (i - j)):=rfl
@[simp] theorem o_mul (h:smallI i || smallI j):op2 .mul (.int i) (.int j) = .ok (.int (i * j)):=by simp only [op2,h,if_true]
theorem JmH (h:xs.length + ys.length <= lineD):op2 .add (.tup xs) (.tup ys) = .ok (.tup (xs ++ ys)):=by simp only [op2,h,if_true]
theorem JiU (h:xs.length + ys.length <= lineD):op2 .add (.lst xs) (.lst ys) = .ok (.lst (xs ++ ys)):=by simp only [op2,h,if_true]
@[simp] theorem o_lt:op2 .lt (.int i) (.int j) = .ok (.bl (decide (i < j))):=rfl
@[simp] theorem o_le:op2 .le (.int i) (.int j) = .ok (.bl (decide (i <= j))):=rfl
@[simp] theorem o_gt:op2 .gt (.int i) (.int j) = .ok (.bl (decide (j < i))):=rfl
@[simp] theorem o_ge:op2 .ge (.int i) (.int j) = .ok (.bl (decide (j <= i))):=rfl
theorem o_eq (h:a.dep <= 20) (h':b.dep <= 20):op2 .eq a b = .ok (.bl (a.eqv b)):=by simp [op2,okDep,h,h']
theorem o_ne (h:a.dep <= 20) (h':b.dep <= 20):op2 .ne a b = .ok (.bl (!a.eqv b)):=by simp [op2,okDep,h,h']
@[simp] theorem o_eqS:op2 .eq (.str x) (.str y) = .ok (.bl (x == y)):=rfl
@[simp] theorem o_neS:op2 .ne (.str x) (.str y) = .ok (.bl (!(x == y))):=rfl
@[simp] theorem o_eqI:op2 .eq (.int i) (.int j) = .ok (.bl (i == j)):=rfl
@[simp] theorem o_neI:op2 .ne (.int i) (.int j) = .ok (.bl (!(i == j))):=rfl
@[simp] theorem o_eqB:op2 .eq (.bl p) (.bl q) = .ok (.bl (p == q)):=rfl
@[simp] theorem o_neB:op2 .ne (.bl p) (.bl q) = .ok (.bl (!(p == q))):=rfl
@[simp] theorem JkE:op2 .idx (.tup xs) (.int i) = Rs.ofOpt (atD xs i):=rfl
@[simp] theorem o_idxL:op2 .idx (.lst xs) (.int i) = Rs.ofOpt (atD xs i):=rfl
@[simp] theorem Jjt:op2 .zip (.tup xs) (.tup ys) = .ok (.lst (zipD xs ys)):=rfl
theorem o_inT (h:deps xs <= 19) (h':a.dep <= 20):op2 .isin a (.tup xs) = .ok (.bl (xs.any fun d=>d.eqv a)):=by
 have:okDep (.tup xs) = true:=by simp [okDep,D.dep,h]
 have h2:okDep a = true:=by simp [okDep,h']
 cases a <;> simp_all [op2]
theorem JkT (h:deps xs <= 19) (h':a.dep <= 20):op2 .notin a (.lst xs) = .ok (.bl (!xs.any fun d=>d.eqv a)):=by
 have:okDep (.lst xs) = true:=by simp [okDep,D.dep,h]
 have h2:okDep a = true:=by simp [okDep,h']
 cases a <;> simp_all [op2]
theorem JiW (h:deps xs <= 19) (h':a.dep <= 20):op2 .notin a (.tup xs) = .ok (.bl (!xs.any fun d=>d.eqv a)):=by
 have:okDep (.tup xs) = true:=by simp [okDep,D.dep,h]
 have h2:okDep a = true:=by simp [okDep,h']
 cases a <;> simp_all [op2]
theorem atN (n:Nat) (h:n < xs.length):atD xs (n:Int) = some xs[n]:=by
 have h2:(n:Int) < xs.length:=by omega
 have h3:(0:Int) <= n:=by omega
 simp [atD,ixn,h2,h3,h]
@[simp] theorem at0:atD (a :: xs) 0 = some a:=by
 have:=atN (a :: xs) 0 (by simp)
 simpa using this
@[simp] theorem at1:atD (a :: b :: xs) 1 = some b:=by
 have:=atN (a :: b :: xs) 1 (by simp)
 simpa using this
@[simp] theorem at2 (c:D):atD (a :: b :: c :: xs) 2 = some c:=by
 have:=atN (a :: b :: c :: xs) 2 (by simp)
 simpa using this
@[simp] theorem ofSome {α:Type} (a:α):Rs.ofOpt (some a) = .ok a:=rfl
end
section
variable (call:CallD) (env:Fm)
@[simp] theorem JgZ (i:Nat):evD call (.var i) env = match env[i]? with
  | some (some d)=>.ok d
  | _=>.stuck:=rfl
@[simp] theorem e_con (d:D):evD call (.con d) env = .ok d:=rfl
@[simp] theorem e_un (o:O1) (a:Px):evD call (.un o a) env = (evD call a env).bind (op1 o):=rfl
@[simp] theorem e_bi (o:O2) (a b:Px):evD call (.bi o a b) env = (evD call a env).bind fun x=>(evD call b env).bind fun y=>op2 o x y:=rfl
@[simp] theorem e_and (a b:Px):evD call (.and a b) env = (evD call a env).bind fun x=>match x with
  | .bl true=>evD call b env
  | .bl false=>.ok (.bl false)
  | _=>.stuck:=rfl
@[simp] theorem e_or (a b:Px):evD call (.or a b) env = (evD call a env).bind fun x=>match x with
  | .bl true=>.ok (.bl true)
  | .bl false=>evD call b env
  | _=>.stuck:=rfl
@[simp] theorem e_ite (c a b:Px):evD call (.ite c a b) env = (evD call c env).bind fun x=>match x with
  | .bl true=>evD call a env
  | .bl false=>evD call b env
  | _=>.stuck:=rfl
@[simp] theorem e_nil:evD call .nil env = .ok (.lst []):=rfl
@[simp] theorem Jje (a as:Px):evD call (.cons a as) env = (evD call a env).bind fun x=>(evD call as env).bind fun y=>y.asL.bind fun ds=>.ok (.lst (x :: ds)):=rfl
@[simp] theorem e_tup (as:Px):evD call (.tup as) env = (evD call as env).bind fun y=>y.asL.bind fun ds=>if ds.length <= lineD then .ok (.tup ds) else .stuck:=rfl
@[simp] theorem e_dis (as:Px):evD call (.dis as) env = (evD call as env).bind fun y=>y.asL.bind fun ds=>if ds.length <= lineD then .ok (.lst ds) else .stuck:=rfl
@[simp] theorem Jjk (f:Nat) (as:Px):evD call (.call f as) env = (evD call as env).bind fun y=>y.asL.bind fun ds=>call f ds:=rfl
@[simp] theorem e_sl (a lo hi:Px):evD call (.sl a lo hi) env = (evD call a env).bind fun x=>(evD call lo env).bind fun l=>l.bound.bind fun l=>(evD call hi env).bind fun h=>h.bound.bind fun h=>match x with
  | .tup ds=>.ok (.tup (cutD ds l h))
  | .lst ds=>.ok (.lst (cutD ds l h))
  | _=>.stuck:=rfl
@[simp] theorem JmL (a:Px):evD call (.walk a) env = (evD call a env).bind fun x=>x.walk.bind fun ds=>.ok (.lst ds):=rfl
theorem JgT (nt:Nat) (src c e:Px):evD call (.comp nt src c e) env = (evD call src env).bind fun s=>s.asL.bind fun ds=>if ds.length <= lineD then (compL nt (evD call c) (evD call e) env ds).bind fun ys=>.ok (.lst ys) else .stuck:=rfl
end
@[simp] theorem JbT (ds:List D):D.asL (.lst ds) = .ok ds:=rfl
@[simp] theorem Jgg:D.bound .non = .ok none:=rfl
@[simp] theorem JgI (i:Int):D.bound (.int i) = .ok (some i):=rfl
section
variable (call:CallD) (env:Fm)
@[simp] theorem ans_nx:answerD (.ok (.nx,env)) = .ok .non:=rfl
@[simp] theorem ans_rt (d:D):answerD (.ok (.rt d,env)) = .ok d:=rfl
@[simp] theorem Jml:answerD .stuck = .stuck:=rfl
@[simp] theorem ans_ex (c:Str):answerD (.ex c) = .ex c:=rfl
@[simp] theorem x_skip:exD call .skip env = .ok (.nx,env):=rfl
@[simp] theorem JeE (a b:Sx):exD call (.seq a b) env = (exD call a env).bind fun r=>match r with
  | (.nx,env2)=>exD call b env2
  | r=>.ok r:=rfl
@[simp] theorem Jmq (m:Bool) (i:Nat) (e:Px):exD call (.set m i e) env = (evD call e env).bind fun d=>if m && !d.imm then .stuck else .ok (.nx,env.set i (some d)):=rfl
@[simp] theorem x_own (i:Nat) (e:Px):exD call (.own i e) env = (evD call e env).bind fun d=>match d with
  | .lst ds=>if !imms ds then .stuck else .ok (.nx,env.set i (some (.lst ds)))
  | _=>.stuck:=rfl
@[simp] theorem x_app (m:Bool) (i:Nat) (e:Px):exD call (.app m i e) env = match env[i]? with
  | some (some (.lst ds))=>(evD call e env).bind fun d=>if (m && !d.imm) || !decide (ds.length < lineD) then .stuck else .ok (.nx,env.set i (some (.lst (ds ++ [d]))))
  | _=>.stuck:=rfl
@[simp] theorem x_ext (m:Bool) (i:Nat) (e:Px):exD call (.ext m i e) env = match env[i]? with
  | some (some (.lst ds))=>(evD call e env).bind fun y=>y.asL.bind fun es=>if (m && !imms es) || !decide (ds.length + es.length <= lineD) then .stuck else .ok (.nx,env.set i (some (.lst (ds ++ es))))
  | _=>.stuck:=rfl
@[simp] theorem x_ownD (t:Bool) (i:Nat):exD call (.ownD t i) env = .ok (.nx,env.set i (some (.dct t false [] []))):=rfl
@[simp] theorem x_retF (i:Nat):exD call (.retF i) env = match env[i]? with
  | some (some (.dct t false ks vs))=>.ok (.rt (.dct t true ks vs),env)
  | _=>.stuck:=rfl
@[simp] theorem x_put (m t':Bool) (i:Nat) (k v:Px):exD call (.put m t' i k v) env = match env[i]? with
  | some (some (.dct t false ks vs))=>(evD call v env).bind fun y=>(evD call k env).bind fun x=>if (m && !y.imm) || !(t == t') || !keyD t x || !decide (ks.length < 1000) then .stuck else .ok (.nx,env.set i (some (.dct t false (putD x y ks vs).1 (putD x y ks vs).2)))
  | _=>.stuck:=rfl
@[simp] theorem x_raise (c:Str) (p:Px):exD call (.raise c p) env = (evD call p env).bind fun d=>if msgOk d then .ex c else .stuck:=rfl
@[simp] theorem x_tryC (i:Nat) (e:Px) (j:Nat) (cs:List Str):exD call (.tryC i e j cs) env = catchC j cs env ((evD call e env).bind fun d=>.ok (.nx,env.set i (some d))):=rfl
@[simp] theorem x_mov (i j:Nat):exD call (.mov i j) env = match env[j]? with
  | some (some (.lst ds))=>.ok (.nx,(env.set i (some (.lst ds))).set j none)
  | _=>.stuck:=rfl
theorem x_whl (n:Nat) (c:Px) (b:Sx):exD call (.whl n c b) env = whlL (evD call c) (exD call b) n env:=rfl
@[simp] theorem x_eff (e:Px):exD call (.eff e) env = (evD call e env).bind fun _=>.ok (.nx,env):=rfl
@[simp] theorem Jlt (e:Px):exD call (.ret e) env = (evD call e env).bind fun d=>.ok (.rt d,env):=rfl
@[simp] theorem x_retN:exD call .retN env = .ok (.rt .non,env):=rfl
@[simp] theorem JeI (c:Px) (a b:Sx):exD call (.ite c a b) env = (evD call c env).bind fun x=>match x with
  | .bl true=>exD call a env
  | .bl false=>exD call b env
  | _=>.stuck:=rfl
@[simp] theorem JfP (m:Bool) (ts:List Nat) (nt:Nat) (src:Px) (body:Sx):exD call (.loop m ts nt src body) env = (evD call src env).bind fun s=>s.asL.bind fun ds=>if m && (mutS body || !imms ds) then .stuck else forL ts nt (exD call body) ds env:=rfl
@[simp] theorem x_brk:exD call .brk env = .ok (.bk,env):=rfl
@[simp] theorem x_cnt:exD call .cnt env = .ok (.ct,env):=rfl
end
theorem Jix (ns:List Int):deps (ns.map D.int) = 0:=by
 induction ns with
 | nil=>rfl
 | cons a t ih=>simp [deps,D.dep,ih]
theorem Jaa (ns:List Str):deps (ns.map D.str) = 0:=by
 induction ns with
 | nil=>rfl
 | cons a t ih=>simp [deps,D.dep,ih]
theorem JiB (ns:List Int):imms (ns.map D.int) = true:=by
 induction ns with
 | nil=>rfl
 | cons a t ih=>simp [imms,D.imm,ih]
theorem Jip (ns:List Str):imms (ns.map D.str) = true:=by
 induction ns with
 | nil=>rfl
 | cons a t ih=>simp [imms,D.imm,ih]
theorem Jms (nt:Nat) (c e:Fm -> Rs D) (env:Fm):compL nt c e env [] = .ok []:=rfl
theorem Jan (nt:Nat) (c e:Fm -> Rs D) (env:Fm) (d:D) (ds:List D) {new:Fm} (hb:bindT nt d = .ok new) {p:Bool} (hc:c (new ++ env) = .ok (.bl p)) {y:D} (he:p = true -> e (new ++ env) = .ok y)
  {ys:List D} (hr:compL nt c e env ds = .ok ys):compL nt c e env (d :: ds) = .ok (if p then y :: ys else ys):=by
 cases p <;> simp [compL,hb,hc,hr,he]
theorem JaX (c e:Fm -> Rs D) (env:Fm) (f:Nat -> D):∀ (n lo:Nat),(∀ k,lo <= k -> k < lo + n -> c (some (.int k) :: env) = .ok (.bl true) /\ e (some (.int k) :: env) = .ok (f k)) ->
  compL 0 c e env ((List.range' lo n).map fun k:Nat=>D.int k) = .ok ((List.range' lo n).map f)
 | 0,lo,h=>rfl
 | n + 1,lo,h=>by
  obtain ⟨hc,ey⟩:=h lo (Nat.le_refl _) (by omega)
  have e1:=JaX c e env f n (lo + 1) fun k h1 h2=>h k (by omega) (by omega)
  have hb:bindT 0 (D.int lo) = .ok [some (.int lo)]:=rfl
  have:=Jan 0 c e env (.int lo) _ hb (p:=true) hc (fun _=>ey) e1
  simpa [List.range'_succ] using this
theorem Jhf (n:Nat):upTo 0 n = (List.range' 0 n).map fun k:Nat=>D.int k:=by
 simp [upTo,List.range_eq_range']
theorem JhI (n:Nat) (hb:n <= 1000):(upTo 0 n).length <= lineD:=by
 have h:(upTo 0 n).length = n:=by simp [upTo]
 rw [h]
 exact Nat.le_trans hb (by decide)
theorem JbR (call:CallD) (env:Fm) (ne e:Px) (n:Nat) (hn:evD call ne env = .ok (.int n)) (hb:n <= 1000) (f:Nat -> D) (h:∀ k,k < n -> evD call e (some (.int k) :: env) = .ok (f k)) :
  evD call (.comp 0 (.un .range ne) (.con (.bl true)) e) env = .ok (.lst ((List.range n).map f)):=by
 have:=JaX (evD call (.con (.bl true))) (evD call e) env f n 0 fun k h1 h2=>⟨rfl,h k (by omega)⟩
 rw [List.range_eq_range',JgT,e_un,hn,Rs.bind_ok,JfA n hb,Rs.bind_ok]
 show (if (upTo 0 n).length <= lineD then _ else _) = _
 rw [if_pos (JhI n hb),Jhf,this]
 rfl
end Pu
namespace Pu
open PySem
section
variable (call:CallD) (env:Fm)
theorem JcE (e:Px):answerD (exD call (.ret e) env) = evD call e env:=by
 rw [Jlt]
 cases evD call e env <;> rfl
theorem JG {c:Px} {p:Bool} (e:Px) (rest:Sx) (hc:evD call c env = .ok (.bl p)):answerD (exD call (.seq (.ite c (.ret e) .skip) rest) env) = if p then evD call e env else answerD (exD call rest env):=by
 rw [JeE,JeI,hc]
 cases p with
 | true=>
  simp only [Rs.bind_ok,Jlt,if_true]
  cases evD call e env <;> rfl
 | false=>simp
theorem Jby {i:Nat} {e:Px} {d:D} (rest:Sx) (hd:evD call e env = .ok d):answerD (exD call (.seq (.set false i e) rest) env) = answerD (exD call rest (env.set i (some d))):=by
 rw [JeE,Jmq,hd]
 rfl
theorem JiT {a:Sx} {env2:Fm} (rest:Sx) (h:exD call a env = .ok (.nx,env2)):answerD (exD call (.seq a rest) env) = answerD (exD call rest env2):=by
 rw [JeE,h]
 rfl
theorem Jm {a b:Px} {p q:Bool} (ha:evD call a env = .ok (.bl p)) (hb:p = true -> evD call b env = .ok (.bl q)):evD call (.and a b) env = .ok (.bl (p && q)):=by
 rw [e_and,ha]
 cases p with
 | true=>simpa using hb rfl
 | false=>rfl
theorem Jcq {a b:Px} {p q:Bool} (ha:evD call a env = .ok (.bl p)) (hb:p = false -> evD call b env = .ok (.bl q)):evD call (.or a b) env = .ok (.bl (p || q)):=by
 rw [e_or,ha]
 cases p with
 | false=>simpa using hb rfl
 | true=>rfl
theorem Jmi {a:Px} {p:Bool} (ha:evD call a env = .ok (.bl p)):evD call (.un .not a) env = .ok (.bl (!p)):=by
 rw [e_un,ha]; rfl
theorem JkJ {a:Px} {p:Bool} (ha:evD call a env = .ok (.bl p)):evD call (.un .truth a) env = .ok (.bl p):=by
 rw [e_un,ha]; rfl
theorem Jd {o:O2} {a b:Px} {x y z:D} (ha:evD call a env = .ok x) (hb:evD call b env = .ok y) (ho:op2 o x y = .ok z):evD call (.bi o a b) env = .ok z:=by
 rw [e_bi,ha,Rs.bind_ok,hb,Rs.bind_ok,ho]
theorem Jac {o:O1} {a:Px} {x z:D} (ha:evD call a env = .ok x) (ho:op1 o x = .ok z):evD call (.un o a) env = .ok z:=by
 rw [e_un,ha,Rs.bind_ok,ho]
theorem Jke {f:Nat} {a:Px} {x:D} {r:Rs D} (ha:evD call a env = .ok x) (hf:call f [x] = r):evD call (.call f (.cons a .nil)) env = r:=by
 rw [Jjk,Jje,ha]
 exact hf
end
mutual
def D.small:D -> Bool
 | .str x=>decide (x.length <= 1000)
 | .tup ds=>decide (ds.length <= 1000) && smalls ds
 | .lst ds=>decide (ds.length <= 1000) && smalls ds
 | _=>true
def smalls:List D -> Bool
 | []=>true
 | d :: ds=>D.small d && smalls ds
end
structure Nice (n:Nat) (d:D):Prop where
 s:d.small = true
 p:d.dep <= n
theorem JbV:∀ {ds:List D} {n:Nat},(∀ d ∈ ds,d.dep <= n) -> deps ds <= n
 | [],_,_=>Nat.zero_le _
 | x :: xs,n,h=>by
  have h1:=h x (by simp)
  have h2:=JbV (ds:=xs) (n:=n) fun d hd=>h d (List.mem_cons_of_mem _ hd)
  simp only [deps]
  omega
theorem Nice.str {n:Nat} {x:Str} (h:x.length <= 1000):Nice n (.str x):=⟨by simp [D.small,h],Nat.zero_le _⟩
theorem JO {n:Nat} (h:n <= 1000):n <= lineD:=Nat.le_trans h (by decide)
theorem Jp (call:CallD) (env:Fm) {as:Px} {ds:List D} (h:evD call as env = .ok (.lst ds)) (hl:ds.length <= 1000):evD call (.tup as) env = .ok (.tup ds):=by
 rw [e_tup,h,Rs.bind_ok,JbT,Rs.bind_ok,if_pos (JO hl)]
theorem Jfe (call:CallD) (env:Fm) {as:Px} {ds:List D} (h:evD call as env = .ok (.lst ds)) (hl:ds.length <= 1000):evD call (.dis as) env = .ok (.lst ds):=by
 rw [e_dis,h,Rs.bind_ok,JbT,Rs.bind_ok,if_pos (JO hl)]
theorem Jc (call:CallD) (env:Fm) {a as:Px} {d:D} {ds:List D} (h1:evD call a env = .ok d) (h2:evD call as env = .ok (.lst ds)):evD call (.cons a as) env = .ok (.lst (d :: ds)):=by
 rw [Jje,h1,Rs.bind_ok,h2]
 rfl
theorem Je (call:CallD) (env:Fm) {f:Nat} {as:Px} {ds:List D} {r:Rs D} (h:evD call as env = .ok (.lst ds)) (hf:call f ds = r):evD call (.call f as) env = r:=by
 rw [Jjk,h]
 exact hf
theorem Jhp {xs ys:List D} (h:xs.length + ys.length <= 1000):op2 .add (.tup xs) (.tup ys) = .ok (.tup (xs ++ ys)):=JmH _ _ (JO h)
theorem Jkg (call:CallD) (env:Fm) {i:Nat} {e:Px} {ds es:List D} (hi:env[i]? = some (some (.lst ds))) (he:evD call e env = .ok (.lst es)) (hl:ds.length + es.length <= 1000) :
  exD call (.ext false i e) env = .ok (.nx,env.set i (some (.lst (ds ++ es)))):=by
 rw [x_ext,hi]
 simp only [he,Rs.bind_ok,JbT,Bool.false_and,Bool.false_or,decide_eq_true (JO hl),Bool.not_true,Bool.false_eq_true,if_false]
theorem Jkc (call:CallD) (env:Fm) {i:Nat} {e:Px} {ds:List D} {d:D} (hi:env[i]? = some (some (.lst ds))) (he:evD call e env = .ok d) (hl:ds.length <= 1000) :
  exD call (.app false i e) env = .ok (.nx,env.set i (some (.lst (ds ++ [d])))):=by
 have:ds.length < lineD:=Nat.lt_of_le_of_lt hl (by decide)
 rw [x_app,hi]
 simp only [he,Rs.bind_ok,Bool.false_and,Bool.false_or,decide_eq_true this,Bool.not_true,Bool.false_eq_true,if_false]
def twice (l:List Str):Bool:=decide ((sortS l).length < l.length)
end Pu
namespace Pu
open PySem
theorem JaF {α:Type} (c e:Fm -> Rs D) (env:Fm) (f:α -> D) (p:α -> Bool) (g:α -> D):∀ rs:List α,(∀ r ∈ rs,c (some (f r) :: env) = .ok (.bl (p r)) /\ (p r = true -> e (some (f r) :: env) = .ok (g r))) -> compL 0 c e env (rs.map f) = .ok ((rs.filter p).map g)
 | [],_=>rfl
 | r :: rs,h=>by
  have ih:=JaF c e env f p g rs fun x hx=>h x (by simp [hx])
  have h1:=h r (by simp)
  have:=Jan 0 c e env (f r) (rs.map f) (new:=[some (f r)]) rfl h1.1 h1.2 ih
  rw [List.map_cons,this]
  cases hp:p r <;> simp [List.filter_cons,hp]
theorem Jdy {α:Type} (call:CallD) (env:Fm) {src c e:Px} {rs:List α} (f:α -> D) (p:α -> Bool) (g:α -> D) (hs:evD call src env = .ok (.lst (rs.map f))) (hl:rs.length <= 1000)
  (h:∀ r ∈ rs,evD call c (some (f r) :: env) = .ok (.bl (p r)) /\ (p r = true -> evD call e (some (f r) :: env) = .ok (g r))):evD call (.comp 0 src c e) env = .ok (.lst ((rs.filter p).map g)):=by
 rw [JgT,hs,Rs.bind_ok,JbT,Rs.bind_ok,if_pos (by rw [List.length_map]; exact JO hl),JaF _ _ env f p g rs h]; rfl
theorem Jdv {α:Type} (rs:List α):rs.filter (fun _=>true) = rs:=by simp
theorem Jdh {α:Type} (call:CallD) (env:Fm) {src e:Px} {rs:List α} (f:α -> D) (g:α -> D) (hs:evD call src env = .ok (.lst (rs.map f))) (hl:rs.length <= 1000)
  (h:∀ r ∈ rs,evD call e (some (f r) :: env) = .ok (g r)):evD call (.comp 0 src (.con (.bl true)) e) env = .ok (.lst (rs.map g)):=by
 rw [Jdy call env f (fun _=>true) g hs hl fun r hr=>⟨rfl,fun _=>h r hr⟩,Jdv]
mutual
theorem JdA:∀ d:D,d.dep <= 900 -> d.eqv d = true
 | .non,_=>rfl
 | .bl b,_=>by simp [D.eqv]
 | .int i,_=>by simp [D.eqv]
 | .str x,_=>by simp [D.eqv]
 | .tup ds,h=>by
  simp only [D.dep] at h
  simp [D.eqv,Jdr ds (by omega)]
 | .lst ds,h=>by
  simp only [D.dep] at h
  simp [D.eqv,Jdr ds (by omega)]
 | .dct _ _ _ _,h=>by simp only [D.dep] at h; omega
 | .exc _,h=>by simp only [D.dep] at h; omega
 | .fn _ _,h=>by simp only [D.dep] at h; omega
theorem Jdr:∀ ds:List D,deps ds <= 900 -> eqvs ds ds = true
 | [],_=>rfl
 | d :: ds,h=>by
  simp only [deps] at h
  simp [eqvs,JdA d (by omega),Jdr ds (by omega)]
end
theorem Jgq (d:D) (h:d.dep <= 20):op2 .ne d d = .ok (.bl false):=by
 rw [o_ne _ _ h h,JdA d (by omega)]; rfl
theorem JbH {α:Type} (ts:List Nat) (nt:Nat) (body:Fm -> Rs (Fw × Fm)) (f:α -> D) (I:Fm -> Prop):∀ (rs:List α) (env:Fm),I env -> (∀ r ∈ rs,∀ env,I env -> ∃ new,bindT nt (f r) = .ok new /\ ∃ env',I env' /\ (body (setAll ts new env) = .ok (.nx,env') \/ body (setAll ts new env) = .ok (.ct,env'))) ->
  ∃ env',I env' /\ forL ts nt body (rs.map f) env = .ok (.nx,env')
 | [],env,h,_=>⟨env,h,rfl⟩
 | r :: rs,env,h,hb=>by
  obtain ⟨new,hn,env1,h1,h2⟩:=hb r (by simp) env h
  obtain ⟨env2,h3,h4⟩:=JbH ts nt body f I rs env1 h1 fun x hx=>hb x (by simp [hx])
  refine ⟨env2,h3,?_⟩
  rcases h2 with h2 | h2 <;> simp only [List.map_cons,forL,hn,Rs.bind_ok,h2,h4]
section
variable (call:CallD) (env:Fm)
theorem Jdf {i:Nat} {e:Px} {d:D} (rest:Sx) (hd:evD call e env = .ok d):exD call (.seq (.set false i e) rest) env = exD call rest (env.set i (some d)):=by
 rw [JeE,Jmq,hd]
 rfl
theorem JgG {c:Px} (a:Sx) (rest:Sx) (hc:evD call c env = .ok (.bl false)):exD call (.seq (.ite c a .skip) rest) env = exD call rest env:=by
 rw [JeE,JeI,hc]
 rfl
theorem JkL {a:Sx} {env2:Fm} (rest:Sx) (h:exD call a env = .ok (.nx,env2)):exD call (.seq a rest) env = exD call rest env2:=by
 rw [JeE,h]
 rfl
theorem n_if {c:Px} {b:Bool} (A B:Sx) (hc:evD call c env = .ok (.bl b)):exD call (.ite c A B) env = if b then exD call A env else exD call B env:=by
 rw [JeI,hc]
 cases b <;> rfl
theorem e_if {c x y:Px} {b:Bool} (hc:evD call c env = .ok (.bl b)):evD call (.ite c x y) env = if b then evD call x env else evD call y env:=by
 rw [e_ite,hc]
 cases b <;> rfl
end
theorem Jfj (x y:Str):op2 .eq (.str x) (.str y) = .ok (.bl (x == y)):=by
 rw [o_eq _ _ (by simp [D.dep]) (by simp [D.dep])]; rfl
theorem Jks (x y:Str):op2 .ne (.str x) (.str y) = .ok (.bl (!(x == y))):=by
 rw [o_ne _ _ (by simp [D.dep]) (by simp [D.dep])]; rfl
theorem JhX (n:Nat) (h:n <= 1000):op1 .range (.int (n:Int)) = .ok (.lst ((List.range' 0 n).map fun k:Nat=>D.int k)):=by
 rw [JfA n h,Jhf]
end Pu
namespace K11
open PySem.Str (ofString)
open PySem Pu
def b_has_rest:Sx:=(.ret (.and (.bi .gt (.un .len (.var 0)) (.con (.int 0))) (.bi .eq (.bi .idx (.bi .idx (.var 0) (.un .neg (.con (.int 1)))) (.con (.int 0))) (.con (.str (ofString "rest"))))))
def b_writes_number:Sx:=(.seq (.ite (.or (.bi .eq (.var 0) (.con (.str (ofString "")))) (.un .not (.un .truth (.un .all (.comp 0 (.walk (.var 0)) (.con (.bl true)) (.bi .isin (.var 0) (.con (.str (ofString "0123456789"))))))))) (.ret (.con (.bl false))) .skip)
  (.ret (.or (.bi .eq (.var 0) (.con (.str (ofString "0")))) (.un .not (.bi .starts (.var 0) (.con (.str (ofString "0"))))))))
def b_lets_by:Sx:=(.seq (.ite (.bi .eq (.bi .idx (.var 0) (.con (.int 0))) (.con (.str (ofString "word")))) (.ret (.bi .eq (.var 1) (.bi .idx (.var 0) (.con (.int 1))))) .skip)
  (.seq (.ite (.bi .eq (.bi .idx (.var 0) (.con (.int 0))) (.con (.str (ofString "one")))) (.ret (.bi .isin (.var 1) (.bi .idx (.var 0) (.con (.int 2))))) .skip)
  (.seq (.ite (.bi .eq (.bi .idx (.var 0) (.con (.int 0))) (.con (.str (ofString "number")))) (.ret (.call 1 (.cons (.var 1) .nil))) .skip)
  (.ret (.con (.bl true))))))
def b_has_fitting_length:Sx:=(.seq (.ite (.un .truth (.call 0 (.cons (.var 0) .nil))) (.ret (.bi .ge (.var 1) (.bi .sub (.un .len (.var 0)) (.con (.int 1))))) .skip)
  (.ret (.bi .eq (.var 1) (.un .len (.var 0)))))
def b_does_match:Sx:=(.seq (.ite (.un .not (.un .truth (.call 3 (.cons (.var 0) (.cons (.un .len (.var 1)) .nil))))) (.ret (.con (.bl false))) .skip)
  (.ret (.un .all (.comp 2 (.bi .zip (.var 0) (.var 1)) (.con (.bl true)) (.call 2 (.cons (.var 0) (.cons (.var 1) .nil)))))))
def b_all_rows:Sx:=(.ret (.comp 0 (.walk (.var 0)) (.un .truth (.call 4 (.cons (.bi .idx (.var 0) (.con (.int 1))) (.cons (.var 2) .nil)))) (.bi .idx (.var 0) (.con (.int 0)))))
def b_first:Sx:=(.seq (.set false 2 (.call 5 (.cons (.var 0) (.cons (.var 1) .nil))))
  (.ret (.ite (.bi .gt (.un .len (.var 2)) (.con (.int 0))) (.bi .idx (.var 2) (.con (.int 0))) (.con .non))))
def b_rank:Sx:=(.ret (.un .tuple (.comp 0 (.walk (.bi .idx (.var 0) (.con (.int 1)))) (.con (.bl true)) (.bi .indexT (.con (.tup [(.str (ofString "word")),(.str (ofString "one")),(.str (ofString "number")),(.str (ofString "any")),(.str (ofString "rest"))])) (.bi .idx (.var 0) (.con (.int 0)))))))
def b_by_ranks:Sx:=(.ret (.un .tuple (.sortK 7 (.un .rows (.var 0)))))
def b_best:Sx:=(.ret (.call 6 (.cons (.call 8 (.cons (.var 0) .nil)) (.cons (.var 1) .nil))))
def b_law_cell:Sx:=(.seq (.ite (.bi .lt (.var 1) (.un .len (.var 0))) (.ret (.bi .idx (.var 0) (.var 1))) .skip)
  (.seq (.ite (.bi .eq (.var 0) (.dis .nil)) (.ret (.con (.int 0))) .skip)
  (.ret (.bi .add (.bi .mul (.bi .idx (.var 0) (.bi .mod (.var 1) (.un .len (.var 0)))) (.con (.int 31))) (.var 1)))))
def b_law_pick:Sx:=(.seq (.set false 3 (.bi .mod (.bi .mul (.bi .add (.call 10 (.cons (.var 0) (.cons (.var 1) .nil))) (.bi .mul (.con (.int 6151)) (.bi .add (.var 1) (.con (.int 1))))) (.con (.int 40692))) (.con (.int 2147483399))))
  (.ret (.bi .mod (.bi .mod (.bi .add (.bi .mul (.var 3) (.var 3)) (.bi .fdiv (.var 3) (.con (.int 31)))) (.con (.int 2147483629))) (.var 2))))
def b_law_part:Sx:=(.seq (.set false 3 (.dis (.cons (.con (.str (ofString "a"))) (.cons (.con (.str (ofString "b"))) (.cons (.con (.str (ofString "7"))) (.cons (.con (.str (ofString "0"))) .nil))))))
  (.seq (.set false 4 (.call 11 (.cons (.var 0) (.cons (.var 1) (.cons (.con (.int 8)) .nil)))))
  (.seq (.ite (.bi .lt (.var 4) (.con (.int 4))) (.ret (.tup (.cons (.con (.str (ofString "word"))) (.cons (.bi .idx (.var 3) (.call 11 (.cons (.var 0) (.cons (.bi .add (.var 1) (.con (.int 1))) (.cons (.con (.int 4)) .nil))))) .nil)))) .skip)
  (.seq (.ite (.bi .eq (.var 4) (.con (.int 4))) (.seq (.set false 5 (.comp 0 (.un .range (.bi .add (.con (.int 1)) (.call 11 (.cons (.var 0) (.cons (.bi .add (.var 1) (.con (.int 1))) (.cons (.con (.int 3)) .nil)))))) (.con (.bl true)) (.bi .idx (.var 4) (.call 11 (.cons (.var 1) (.cons (.bi .add (.bi .add (.var 2) (.con (.int 2))) (.var 0)) (.cons (.con (.int 4)) .nil)))))))
  (.ret (.tup (.cons (.con (.str (ofString "one"))) (.cons (.var 2) (.cons (.un .tuple (.un .sset (.var 5))) .nil)))))) .skip)
  (.ret (.tup (.cons (.bi .idx (.dis (.cons (.con (.str (ofString "any"))) (.cons (.con (.str (ofString "number"))) (.cons (.con (.str (ofString "any"))) .nil)))) (.bi .sub (.var 4) (.con (.int 5)))) (.cons (.var 2) .nil))))))))
def b_law_pattern:Sx:=(.seq (.set false 3 (.dis (.cons (.con (.str (ofString "y"))) (.cons (.con (.str (ofString "id"))) (.cons (.con (.str (ofString "z"))) (.cons (.con (.str (ofString "x"))) .nil))))))
  (.seq (.own 4 (.comp 0 (.un .range (.call 11 (.cons (.var 0) (.cons (.var 1) (.cons (.bi .add (.var 2) (.con (.int 1))) .nil))))) (.con (.bl true)) (.call 12 (.cons (.var 1) (.cons (.bi .add (.bi .add (.var 2) (.con (.int 2))) (.bi .mul (.con (.int 5)) (.var 0))) (.cons (.bi .idx (.var 4) (.var 0)) .nil))))))
  (.seq (.ite (.bi .eq (.call 11 (.cons (.var 0) (.cons (.bi .add (.var 1) (.con (.int 1))) (.cons (.con (.int 4)) .nil)))) (.con (.int 0))) (.app false 4 (.tup (.cons (.con (.str (ofString "rest"))) (.cons (.con (.str (ofString "r"))) .nil)))) .skip)
  (.ret (.un .tuple (.var 4))))))
def b_law_table:Sx:=(.seq (.set false 4 (.dis (.cons (.con (.str (ofString "t"))) (.cons (.con (.str (ofString "p"))) (.cons (.con (.str (ofString "v"))) (.cons (.con (.str (ofString "q"))) (.cons (.con (.str (ofString "u"))) (.cons (.con (.str (ofString "s"))) .nil))))))))
  (.seq (.set false 5 (.call 11 (.cons (.var 0) (.cons (.var 1) (.cons (.bi .add (.var 3) (.con (.int 1))) .nil)))))
  (.ret (.un .tuple (.comp 0 (.un .range (.var 5)) (.con (.bl true)) (.tup (.cons (.bi .idx (.var 5) (.var 0)) (.cons (.call 13 (.cons (.var 1) (.cons (.bi .add (.bi .add (.var 2) (.con (.int 1))) (.bi .mul (.con (.int 30)) (.var 0))) (.cons (.var 3) .nil)))) .nil))))))))
def b_law_any_word:Sx:=(.ret (.bi .idx (.dis (.cons (.con (.str (ofString "a"))) (.cons (.con (.str (ofString "b"))) (.cons (.con (.str (ofString "7"))) (.cons (.con (.str (ofString "0"))) (.cons (.con (.str (ofString "new"))) (.cons (.con (.str (ofString "zz"))) (.cons (.con (.str (ofString "55"))) (.cons (.con (.str (ofString "01"))) (.cons (.con (.str (ofString "-"))) .nil)))))))))) (.call 11 (.cons (.var 0) (.cons (.var 1) (.cons (.con (.int 9)) .nil))))))
def b_law_near:Sx:=(.seq (.own 3 (.dis .nil))
  (.seq (.loop false [4,5] 2 (.un .enum (.var 2)) (.seq (.set false 6 (.call 11 (.cons (.var 0) (.cons (.bi .add (.var 1) (.bi .mul (.con (.int 3)) (.var 4))) (.cons (.con (.int 9)) .nil)))))
  (.ite (.bi .eq (.bi .idx (.var 5) (.con (.int 0))) (.con (.str (ofString "rest")))) (.ext false 3 (.walk (.un .rows (.comp 0 (.un .range (.call 11 (.cons (.var 0) (.cons (.bi .add (.var 1) (.con (.int 39))) (.cons (.con (.int 3)) .nil))))) (.con (.bl true)) (.call 15 (.cons (.var 1) (.cons (.bi .add (.bi .add (.var 2) (.con (.int 40))) (.var 0)) .nil))))))) (.ite (.or (.bi .eq (.var 6) (.con (.int 0))) (.bi .eq (.bi .idx (.var 5) (.con (.int 0))) (.con (.str (ofString "any"))))) (.app false 3 (.call 15 (.cons (.var 0) (.cons (.bi .add (.bi .add (.var 1) (.bi .mul (.con (.int 3)) (.var 4))) (.con (.int 1))) .nil)))) (.ite (.bi .eq (.bi .idx (.var 5) (.con (.int 0))) (.con (.str (ofString "word")))) (.app false 3 (.bi .idx (.var 5) (.con (.int 1)))) (.ite (.bi .eq (.bi .idx (.var 5) (.con (.int 0))) (.con (.str (ofString "number")))) (.app false 3 (.bi .idx (.dis (.cons (.con (.str (ofString "7"))) (.cons (.con (.str (ofString "0"))) (.cons (.con (.str (ofString "55"))) .nil)))) (.call 11 (.cons (.var 0) (.cons (.bi .add (.bi .add (.var 1) (.bi .mul (.con (.int 3)) (.var 4))) (.con (.int 2))) (.cons (.con (.int 3)) .nil)))))) (.app false 3 (.bi .idx (.bi .idx (.var 5) (.con (.int 2))) (.call 11 (.cons (.var 0) (.cons (.bi .add (.bi .add (.var 1) (.bi .mul (.con (.int 3)) (.var 4))) (.con (.int 2))) (.cons (.un .len (.bi .idx (.var 5) (.con (.int 2)))) .nil))))))))))))
  (.ret (.un .tuple (.var 3)))))
def b_law_is_number:Sx:=(.ret (.and (.bi .eq (.comp 0 (.walk (.var 0)) (.bi .notin (.var 0) (.con (.str (ofString "0123456789")))) (.var 0)) (.dis .nil)) (.or (.bi .eq (.var 0) (.con (.str (ofString "0")))) (.bi .ne (.bi .idx (.var 0) (.con (.int 0))) (.con (.str (ofString "0")))))))
def b_law_matched:Sx:=(.seq (.ite (.bi .eq (.var 0) (.tup .nil)) (.ret (.ite (.bi .eq (.var 1) (.tup .nil)) (.dis .nil) (.con .non))) .skip)
  (.seq (.set false 2 (.bi .idx (.var 0) (.con (.int 0))))
  (.seq (.ite (.bi .eq (.bi .idx (.var 2) (.con (.int 0))) (.con (.str (ofString "rest")))) (.ret (.dis (.cons (.tup (.cons (.bi .idx (.var 2) (.con (.int 1))) (.cons (.var 1) .nil))) .nil))) .skip)
  (.seq (.ite (.bi .eq (.var 1) (.tup .nil)) (.ret (.con .non)) .skip)
  (.seq (.set false 3 (.bi .idx (.var 1) (.con (.int 0))))
  (.seq (.ite (.or (.and (.bi .eq (.bi .idx (.var 2) (.con (.int 0))) (.con (.str (ofString "word")))) (.bi .ne (.bi .idx (.var 2) (.con (.int 1))) (.var 3))) (.and (.bi .eq (.bi .idx (.var 2) (.con (.int 0))) (.con (.str (ofString "one")))) (.bi .notin (.var 3) (.bi .idx (.var 2) (.con (.int 2)))))) (.ret (.con .non)) .skip)
  (.seq (.ite (.and (.bi .eq (.bi .idx (.var 2) (.con (.int 0))) (.con (.str (ofString "number")))) (.un .not (.un .truth (.call 17 (.cons (.var 3) .nil))))) (.ret (.con .non)) .skip)
  (.seq (.set false 4 (.call 18 (.cons (.sl (.var 0) (.un .asI (.con (.int 1))) (.con .non)) (.cons (.sl (.var 1) (.un .asI (.con (.int 1))) (.con .non)) .nil))))
  (.seq (.ite (.or (.un .isN (.var 4)) (.bi .eq (.bi .idx (.var 2) (.con (.int 0))) (.con (.str (ofString "word"))))) (.ret (.var 4)) .skip)
  (.ret (.bi .add (.dis (.cons (.tup (.cons (.bi .idx (.var 2) (.con (.int 1))) (.cons (.ite (.bi .eq (.bi .idx (.var 2) (.con (.int 0))) (.con (.str (ofString "number")))) (.un .ints (.var 3)) (.var 3)) .nil))) .nil)) (.var 4))))))))))))
def b_law_ranks:Sx:=(.seq (.set false 1 (.dis (.cons (.con (.str (ofString "end"))) (.cons (.con (.str (ofString "word"))) (.cons (.con (.str (ofString "one"))) (.cons (.con (.str (ofString "number"))) (.cons (.con (.str (ofString "any"))) (.cons (.con (.str (ofString "rest"))) .nil))))))))
  (.seq (.set false 2 (.comp 0 (.walk (.var 0)) (.con (.bl true)) (.bi .index (.var 2) (.bi .idx (.var 0) (.con (.int 0))))))
  (.ret (.ite (.and (.bi .ne (.var 0) (.tup .nil)) (.bi .eq (.bi .idx (.bi .idx (.var 0) (.un .neg (.con (.int 1)))) (.con (.int 0))) (.con (.str (ofString "rest"))))) (.var 2) (.bi .add (.var 2) (.dis (.cons (.con (.int 0)) .nil)))))))
def b_law:Sx:=(.seq (.set false 1 (.call 14 (.cons (.var 0) (.cons (.con (.int 0)) (.cons (.con (.int 3)) (.cons (.con (.int 5)) .nil))))))
  (.seq (.set false 2 (.call 8 (.cons (.var 1) .nil)))
  (.seq (.ite (.bi .ne (.un .sortT (.un .list (.var 2))) (.un .sortT (.un .list (.var 1)))) (.ret (.con (.bl false))) .skip)
  (.seq (.loop false [3,4] 2 (.bi .zip (.var 2) (.sl (.var 2) (.un .asI (.con (.int 1))) (.con .non))) (.seq (.set false 5 (.tup (.cons (.call 19 (.cons (.bi .idx (.var 3) (.con (.int 1))) .nil)) (.cons (.bi .indexT (.var 1) (.var 3)) .nil))))
  (.ite (.bi .gtT (.var 5) (.tup (.cons (.call 19 (.cons (.bi .idx (.var 4) (.con (.int 1))) .nil)) (.cons (.bi .indexT (.var 1) (.var 4)) .nil)))) (.ret (.con (.bl false))) .skip)))
  (.seq (.loop false [6] 0 (.un .range (.con (.int 6))) (.seq (.set false 7 (.call 16 (.cons (.var 0) (.cons (.bi .add (.con (.int 300)) (.bi .mul (.con (.int 60)) (.var 6))) (.cons (.bi .idx (.bi .idx (.bi .add (.var 1) (.tup (.cons (.tup (.cons (.con (.str (ofString "w"))) (.cons (.tup .nil) .nil))) .nil))) (.call 11 (.cons (.var 0) (.cons (.bi .add (.con (.int 290)) (.var 6)) (.cons (.bi .add (.un .len (.var 1)) (.con (.int 1))) .nil))))) (.con (.int 1))) .nil)))))
  (.seq (.set false 8 (.comp 0 (.walk (.var 1)) (.un .notN (.call 18 (.cons (.bi .idx (.var 0) (.con (.int 1))) (.cons (.var 8) .nil)))) (.var 0)))
  (.seq (.set false 9 (.con .non))
  (.seq (.loop false [10] 0 (.walk (.var 8)) (.ite (.or (.un .isN (.var 9)) (.bi .ltL (.call 19 (.cons (.bi .idx (.var 10) (.con (.int 1))) .nil)) (.call 19 (.cons (.bi .idx (.var 9) (.con (.int 1))) .nil)))) (.set false 9 (.var 10)) .skip))
  (.seq (.set false 11 (.call 9 (.cons (.var 1) (.cons (.var 7) .nil))))
  (.seq (.ite (.or (.bi .ne (.var 11) (.ite (.un .isN (.var 9)) (.con .non) (.bi .idx (.var 9) (.con (.int 0))))) (.bi .ne (.call 6 (.cons (.var 2) (.cons (.var 7) .nil))) (.var 11))) (.ret (.con (.bl false))) .skip)
  (.seq (.ite (.and (.un .notN (.var 11)) (.bi .notin (.var 11) (.call 5 (.cons (.var 1) (.cons (.var 7) .nil))))) (.ret (.con (.bl false))) .skip)
  (.seq (.set false 12 (.un .tuple (.comp 0 (.walk (.var 7)) (.con (.bl true)) (.tup (.cons (.con (.str (ofString "word"))) (.cons (.var 0) .nil))))))
  (.ite (.and (.bi .lt (.un .len (.var 7)) (.con (.int 7))) (.bi .notin (.call 9 (.cons (.bi .add (.var 1) (.tup (.cons (.tup (.cons (.con (.str (ofString "w"))) (.cons (.var 12) .nil))) .nil))) (.cons (.var 7) .nil))) (.tup (.cons (.con (.str (ofString "w"))) (.cons (.var 11) .nil))))) (.ret (.con (.bl false))) .skip))))))))))
  (.ret (.con (.bl true))))))))
def defs:List DefD:=[⟨1,1,b_has_rest⟩,⟨1,1,b_writes_number⟩,⟨2,2,b_lets_by⟩,⟨2,2,b_has_fitting_length⟩,⟨2,2,b_does_match⟩,⟨2,2,b_all_rows⟩,⟨3,2,b_first⟩,⟨1,1,b_rank⟩,⟨1,1,b_by_ranks⟩,⟨2,2,b_best⟩,⟨2,2,b_law_cell⟩,⟨4,3,b_law_pick⟩,⟨6,3,b_law_part⟩,⟨5,3,b_law_pattern⟩,⟨6,4,b_law_table⟩,⟨2,2,b_law_any_word⟩,⟨7,3,b_law_near⟩,⟨1,1,b_law_is_number⟩,⟨5,2,b_law_matched⟩,⟨3,1,b_law_ranks⟩,⟨13,1,b_law⟩]
theorem JeP (call:Nat) (x0:D):runD defs (call + 1) 0 [x0] = answerD (exD (runD defs call) b_has_rest [some x0]):=rfl
theorem Jgk (call:Nat) (x0:D):runD defs (call + 1) 1 [x0] = answerD (exD (runD defs call) b_writes_number [some x0]):=rfl
theorem JgY (call:Nat) (x0 x1:D):runD defs (call + 1) 2 [x0,x1] = answerD (exD (runD defs call) b_lets_by [some x0,some x1]):=rfl
theorem JM (call:Nat) (x0 x1:D):runD defs (call + 1) 3 [x0,x1] = answerD (exD (runD defs call) b_has_fitting_length [some x0,some x1]):=rfl
theorem JcB (call:Nat) (x0 x1:D):runD defs (call + 1) 4 [x0,x1] = answerD (exD (runD defs call) b_does_match [some x0,some x1]):=rfl
theorem JeM (call:Nat) (x0 x1:D):runD defs (call + 1) 5 [x0,x1] = answerD (exD (runD defs call) b_all_rows [some x0,some x1]):=rfl
theorem Jfg (call:Nat) (x0 x1:D):runD defs (call + 1) 6 [x0,x1] = answerD (exD (runD defs call) b_first [some x0,some x1,none]):=rfl
theorem JlQ (call:Nat) (x0:D):runD defs (call + 1) 7 [x0] = answerD (exD (runD defs call) b_rank [some x0]):=rfl
theorem JeG (call:Nat) (x0:D):runD defs (call + 1) 8 [x0] = answerD (exD (runD defs call) b_by_ranks [some x0]):=rfl
theorem Jmx (call:Nat) (x0 x1:D):runD defs (call + 1) 9 [x0,x1] = answerD (exD (runD defs call) b_best [some x0,some x1]):=rfl
theorem Jau (call:Nat) (x0 x1:D):runD defs (call + 1) 10 [x0,x1] = answerD (exD (runD defs call) b_law_cell [some x0,some x1]):=rfl
theorem Jfa (call:Nat) (x0 x1 x2:D):runD defs (call + 1) 11 [x0,x1,x2] = answerD (exD (runD defs call) b_law_pick [some x0,some x1,some x2,none]):=rfl
theorem Jv (call:Nat) (x0 x1 x2:D):runD defs (call + 1) 12 [x0,x1,x2] = answerD (exD (runD defs call) b_law_part [some x0,some x1,some x2,none,none,none]):=rfl
theorem JY (call:Nat) (x0 x1 x2:D):runD defs (call + 1) 13 [x0,x1,x2] = answerD (exD (runD defs call) b_law_pattern [some x0,some x1,some x2,none,none]):=rfl
theorem Jde (call:Nat) (x0 x1 x2 x3:D):runD defs (call + 1) 14 [x0,x1,x2,x3] = answerD (exD (runD defs call) b_law_table [some x0,some x1,some x2,some x3,none,none]):=rfl
theorem Jbk (call:Nat) (x0 x1:D):runD defs (call + 1) 15 [x0,x1] = answerD (exD (runD defs call) b_law_any_word [some x0,some x1]):=rfl
theorem JeL (call:Nat) (x0 x1 x2:D):runD defs (call + 1) 16 [x0,x1,x2] = answerD (exD (runD defs call) b_law_near [some x0,some x1,some x2,none,none,none,none]):=rfl
theorem Jha (call:Nat) (x0:D):runD defs (call + 1) 17 [x0] = answerD (exD (runD defs call) b_law_is_number [some x0]):=rfl
theorem Jai (call:Nat) (x0 x1:D):runD defs (call + 1) 18 [x0,x1] = answerD (exD (runD defs call) b_law_matched [some x0,some x1,none,none,none]):=rfl
theorem Jds (call:Nat) (x0:D):runD defs (call + 1) 19 [x0] = answerD (exD (runD defs call) b_law_ranks [some x0,none,none]):=rfl
theorem r_law (call:Nat) (x0:D):runD defs (call + 1) 20 [x0] = answerD (exD (runD defs call) b_law [some x0,none,none,none,none,none,none,none,none,none,none,none,none]):=rfl
end K11
namespace K11
open PySem.Str (ofString)
open PySem Pu
abbrev S (x:String):Str:=ofString x
abbrev ofN (ns:List Int):D:=.lst (ns.map .int)
theorem cell (ns:List Int) (k:Int) (hk:0 <= k):∃ v:Int,∀ c,runD defs (c + 1) 10 [ofN ns,.int k] = .ok (.int v):=by
 obtain ⟨k,rfl⟩:=Int.eq_ofNat_of_zero_le hk
 by_cases h:k < ns.length
 ·refine ⟨ns[k],fun c=>?_⟩
  have hi:atD (ns.map D.int) k = some (.int ns[k]):=by
   have:=atN (ns.map D.int) k (by simpa using h)
   rw [this]
   simp
  simp [Jau,b_law_cell,h,hi]
 ·have hl:¬ ((k:Int) < (ns.length:Int)):=by omega
  by_cases h0:ns = []
  ·subst h0
   have hl:¬ ((k:Int) < 0):=by omega
   have e:op2 .eq (ofN []) (.lst []) = .ok (.bl true):=rfl
   refine ⟨0,fun c=>?_⟩
   simp [Jau,b_law_cell,hl,e,lineD]
  ·have hp:0 < ns.length:=by
    cases ns with
    | nil=>exact absurd rfl h0
    | cons a t=>simp
   have hm:k % ns.length < ns.length:=Nat.mod_lt _ hp
   refine ⟨ns[k % ns.length] * 31 + k,fun c=>?_⟩
   have hq:((k:Int) % (ns.length:Int)) = ((k % ns.length:Nat):Int):=by omega
   have hi:atD (ns.map D.int) ((k:Int) % (ns.length:Int)) = some (.int ns[k % ns.length]):=by
    rw [hq]
    have:=atN (ns.map D.int) (k % ns.length) (by simpa using hm)
    rw [this]
    simp
   have he:D.eqv (.lst (ns.map D.int)) (.lst []) = false:=by
    cases ns with
    | nil=>exact absurd rfl h0
    | cons a t=>simp [D.eqv,eqvs]
   have he2:op2 .eq (.lst (ns.map D.int)) (.lst []) = .ok (.bl false):=by
    rw [o_eq _ _ (by simp [D.dep,Jix]) (by simp [D.dep,deps]),he]
   have hmod:op2 .mod (.int k) (.int ns.length) = .ok (.int ((k:Int) % (ns.length:Int))):=by
    have:0 < (ns.length:Int):=by omega
    simp [op2,hp]
   simp [Jau,b_law_cell,he2,lineD,hl,hi,hmod,smallI]
theorem pick (ns:List Int) (k m:Int) (hk:0 <= k) (hm:0 < m):∃ r:Nat,(r:Int) < m /\ ∀ c,runD defs (c + 2) 11 [ofN ns,.int k,.int m] = .ok (.int r):=by
 obtain ⟨v,hv⟩:=cell ns k hk
 let d:Int:=(v + 6151 * (k + 1)) * 40692 % 2147483399
 have d0:0 <= d:=Int.emod_nonneg _ (by decide)
 have d1:d < 2147483399:=Int.emod_lt_of_pos _ (by decide)
 have r0:0 <= (d * d + d / 31) % 2147483629 % m:=Int.emod_nonneg _ (by omega)
 have r1:(d * d + d / 31) % 2147483629 % m < m:=Int.emod_lt_of_pos _ (by omega)
 refine ⟨((d * d + d / 31) % 2147483629 % m).toNat,by omega,fun c=>?_⟩
 have hs:smallI d = true:=by
  simp only [smallI,Bool.and_eq_true,decide_eq_true_eq]
  omega
 rw [Int.toNat_of_nonneg r0]
 have hc:(v + 6151 * (k + 1)) * 40692 % 2147483399 = d:=rfl
 have h6:smallI 6151 = true:=by decide
 have h4:smallI 40692 = true:=by decide
 have q1:∀ i:Int,op2 .mod (.int i) (.int 2147483399) = .ok (.int (i % 2147483399)):=fun i=>by simp [op2]
 have q2:∀ i:Int,op2 .mod (.int i) (.int 2147483629) = .ok (.int (i % 2147483629)):=fun i=>by simp [op2]
 have q3:∀ i:Int,op2 .mod (.int i) (.int m) = .ok (.int (i % m)):=fun i=>by simp [op2,hm]
 have q4:∀ i:Int,op2 .fdiv (.int i) (.int 31) = .ok (.int (i / 31)):=fun i=>by simp [op2]
 simp [Jfa,b_law_pick,hv,h6,h4,hc,hs,q1,q2,q3,q4]
theorem Jcp (a b:String):ofString a = ofString b ↔ a = b:=by
 constructor
 ·intro h
  rw [Str.ofString_eq_toList,Str.ofString_eq_toList] at h
  have h2:=congrArg (fun s:Str=>s.cps.toList) h
  simp only [List.toList_toArray] at h2
  have h3:a.toList = b.toList:=by
   refine List.map_inj_right (f:=Char.toNat) ?_ |>.mp h2
   intro x y hxy
   exact Char.ext (UInt32.toNat_inj.mp hxy)
  exact String.toList_inj.mp h3
 ·rintro rfl
  rfl
@[simp] theorem sb (a b:String):(ofString a == ofString b) = decide (a = b):=by
 by_cases h:a = b
 ·subst h
  simp
 ·have:ofString a ≠ ofString b:=fun e=>h ((Jcp a b).mp e)
  simp [h,this]
def ws9:List Str:=[S "a",S "b",S "7",S "0",S "new",S "zz",S "55",S "01",S "-"]
def pool:List Str:=[S "a",S "b",S "7",S "0"]
theorem Jgs:∀ w ∈ pool,w ∈ ws9:=by decide +kernel
inductive Part where
 | word (x:Str) | one (n:Str) (ws:List Str) | any (n:Str) | number (n:Str) | rest (n:Str)
def Part.d:Part -> D
 | .word x=>.tup [.str (S "word"),.str x]
 | .one n ws=>.tup [.str (S "one"),.str n,.tup (ws.map .str)]
 | .any n=>.tup [.str (S "any"),.str n]
 | .number n=>.tup [.str (S "number"),.str n]
 | .rest n=>.tup [.str (S "rest"),.str n]
def Part.ok:Part -> Prop
 | .word x=>x ∈ ws9
 | .one _ ws=>(∀ w ∈ ws,w ∈ ws9) /\ ws ≠ []
 | _=>True
def Part.srt:Part -> Prop
 | .word x=>x ∈ pool
 | .one _ ws=>(ws.Pairwise LtS /\ ∀ w ∈ ws,w ∈ pool) /\ ws.length <= 3
 | _=>True
def Part.name:Part -> Str
 | .word x=>x
 | .one n _=>n
 | .any n=>n
 | .number n=>n
 | .rest n=>n
def Part.isWord:Part -> Bool
 | .word _=>true
 | _=>false
def Part.hole (p:Part):List Str:=if p.isWord then [] else [p.name]
def holes (ps:List Part):List Str:=ps.flatMap Part.hole
def Part.isRest:Part -> Bool
 | .rest _=>true
 | _=>false
theorem Jbl:∀ ws:List Str,strsOf (ws.map .str) = some ws
 | []=>rfl
 | w :: ws=>by simp [strsOf,Jbl ws]
theorem JmE (ws:List Str) (h:ws.length < 60):op1 .sset (.lst (ws.map .str)) = .ok (.lst ((sortS ws).map .str)):=by
 simp [op1,Jbl,h]
theorem JfM (r:Nat) (h:(r:Int) < 4):∃ w ∈ pool,atD [D.str (S "a"),D.str (S "b"),D.str (S "7"),D.str (S "0")] (r:Int) = some (.str w):=by
 match r,h with
 | 0,_=>exact ⟨S "a",by decide +kernel,rfl⟩
 | 1,_=>exact ⟨S "b",by decide +kernel,rfl⟩
 | 2,_=>exact ⟨S "7",by decide +kernel,rfl⟩
 | 3,_=>exact ⟨S "0",by decide +kernel,rfl⟩
 | n + 4,h=>omega
theorem part (ns:List Int) (at_:Int) (h0:0 <= at_) (name:Str):∃ p:Part,p.ok /\ p.isRest = false /\ p.srt /\ p.hole.Sublist [name] /\ ∀ c,runD defs (c + 3) 12 [ofN ns,.int at_,.str name] = .ok p.d:=by
 obtain ⟨r,hr,er⟩:=pick ns at_ 8 h0 (by decide)
 by_cases h4:(r:Int) < 4
 ·obtain ⟨q,hq,eq⟩:=pick ns (at_ + 1) 4 (by omega) (by decide)
  obtain ⟨w,hw,ew⟩:=JfM q hq
  refine ⟨.word w,Jgs w hw,rfl,hw,by simp [Part.hole,Part.isWord],fun c=>?_⟩
  simp [Jv,b_law_part,er,h4,eq,ew,lineD,Part.d]
 ·by_cases h5:r = 4
  ·subst h5
   obtain ⟨m,hm,em⟩:=pick ns (at_ + 1) 3 (by omega) (by decide)
   have hk:∀ k:Nat,∃ w,w ∈ pool /\ ∃ q:Nat,(∀ c,runD defs (c + 2) 11 [ofN ns,.int (at_ + 2 + k),.int 4] = .ok (.int q)) /\ atD [D.str (S "a"),D.str (S "b"),D.str (S "7"),D.str (S "0")] (q:Int) = some (.str w):=by
    intro k
    obtain ⟨q,hq,eq⟩:=pick ns (at_ + 2 + k) 4 (by omega) (by decide)
    obtain ⟨w,hw,ew⟩:=JfM q hq
    exact ⟨w,hw,q,eq,ew⟩
   obtain ⟨f,hf⟩:=Classical.skolem.mp hk
   have hc:∀ c x,evD (runD defs (c + 2)) (.comp 0 (.un .range (.bi .add (.con (.int 1)) (.call 11 (.cons (.var 0) (.cons (.bi .add (.var 1) (.con (.int 1))) (.cons (.con (.int 3)) .nil)))))) (.con (.bl true)) (.bi .idx (.var 4) (.call 11 (.cons (.var 1) (.cons (.bi .add (.bi .add (.var 2) (.con (.int 2))) (.var 0)) (.cons (.con (.int 4)) .nil))))))
     [some (ofN ns),some (.int at_),some (.str name),some (.lst [D.str (S "a"),D.str (S "b"),D.str (S "7"),D.str (S "0")]),x,none] = .ok (.lst (((List.range (1 + m)).map f).map .str)):=by
    intro c x
    rw [List.map_map]
    refine JbR _ _ _ _ (1 + m) ?_ (by omega) (fun k=>.str (f k)) ?_
    ·simp [em,Int.natCast_add]
    ·intro k hk
     obtain ⟨_,q,e1,e2⟩:=hf k
     simp [e1,e2]
   have hlen:((List.range (1 + m)).map f).length < 60:=by
    simp
    omega
   have hs:=JmE _ hlen
   refine ⟨.one name (sortS ((List.range (1 + m)).map f)),⟨?_,?_⟩,rfl,⟨⟨Jat _,fun w hw=>by
    rw [JH,List.mem_map] at hw
    obtain ⟨k,_,rfl⟩:=hw
    exact (hf k).1⟩,Nat.le_trans (Jgc _) (by simp; omega)⟩,by simp [Part.hole,Part.isWord,Part.name],fun c=>?_⟩
   ·intro w hw
    rw [JH,List.mem_map] at hw
    obtain ⟨k,_,rfl⟩:=hw
    exact Jgs _ (hf k).1
   ·intro hn
    have:f 0 ∈ sortS ((List.range (1 + m)).map f):=by
     rw [JH,List.mem_map]
     exact ⟨0,by rw [List.mem_range]; omega,rfl⟩
    rw [hn] at this
    simp at this
   ·have hc:=hc c
    generalize (List.range (1 + m)).map f = ws at hs hc ⊢
    simp [Jv,b_law_part,er,hc,hs,lineD,Part.d]
  ·have h567:r = 5 \/ r = 6 \/ r = 7:=by omega
   rcases h567 with rfl | rfl | rfl
   ·exact ⟨.any name,trivial,rfl,trivial,by simp [Part.hole,Part.isWord,Part.name],fun c=>by simp [Jv,b_law_part,er,lineD,Part.d]⟩
   ·exact ⟨.number name,trivial,rfl,trivial,by simp [Part.hole,Part.isWord,Part.name],fun c=>by simp [Jv,b_law_part,er,lineD,Part.d]⟩
   ·exact ⟨.any name,trivial,rfl,trivial,by simp [Part.hole,Part.isWord,Part.name],fun c=>by simp [Jv,b_law_part,er,lineD,Part.d]⟩
def restLast:List Part -> Prop
 | []=>True
 | p :: ps=>(p.isRest = true -> ps = []) /\ restLast ps
theorem Jib (p:Part):p.d.imm = true:=by cases p <;> simp [Part.d,D.imm,imms,Jip]
theorem Jbh (ps:List Part):imms (ps.map Part.d) = true:=by
 induction ps with
 | nil=>rfl
 | cons p ps ih=>simp [imms,Jib,ih]
theorem JiE (p:Part):p.d.dep <= 2:=by cases p <;> simp [Part.d,D.dep,deps,Jaa]
theorem JaR (ps:List Part):deps (ps.map Part.d) <= 2:=by
 induction ps with
 | nil=>simp [deps]
 | cons p ps ih=>
  have:=JiE p
  simp only [List.map_cons,deps]
  omega
theorem JcS (l:List Part) (h:∀ p ∈ l,p.isRest = false) (n:Str):restLast (l ++ [.rest n]):=by
 induction l with
 | nil=>simp [restLast]
 | cons p l ih=>
  refine ⟨fun hp=>?_,ih fun p hp=>h p (by simp [hp])⟩
  rw [h p (by simp)] at hp
  cases hp
theorem JaQ (l:List Part) (h:∀ p ∈ l,p.isRest = false):restLast l:=by
 induction l with
 | nil=>trivial
 | cons p l ih=>
  refine ⟨fun hp=>?_,ih fun p hp=>h p (by simp [hp])⟩
  rw [h p (by simp)] at hp
  cases hp
def names4:List Str:=[S "y",S "id",S "z",S "x"]
def nm4 (k:Nat):Str:=names4.getD k (S "")
theorem JhD (k:Nat) (h:k < 4):atD [D.str (S "y"),D.str (S "id"),D.str (S "z"),D.str (S "x")] (k:Int) = some (.str (nm4 k)):=by
 match k,h with
 | 0,_=>rfl
 | 1,_=>rfl
 | 2,_=>rfl
 | 3,_=>rfl
 | n + 4,h=>omega
theorem Jcy (f:Nat -> Part) (hf:∀ k,(f k).hole.Sublist [nm4 k]):∀ m,m <= 4 -> (holes ((List.range m).map f)).Sublist (names4.take m)
 | 0,_=>by simp [holes]
 | m + 1,h=>by
  have e:names4.take (m + 1) = names4.take m ++ [nm4 m]:=by
   match m,h with
   | 0,_=>rfl
   | 1,_=>rfl
   | 2,_=>rfl
   | 3,_=>rfl
   | n + 4,h=>omega
  rw [e,List.range_succ,List.map_append]
  simp only [holes,List.flatMap_append,List.map_cons,List.map_nil,List.flatMap_cons,List.flatMap_nil,List.append_nil]
  exact (Jcy f hf m (by omega)).append (hf m)
def names5:List Str:=[S "y",S "id",S "z",S "x",S "r"]
theorem patQ (ns:List Int) (at_:Int) (h0:0 <= at_) (M:Nat) (hM:M <= 4):∃ (qs:List Part) (b:Bool),(∀ p ∈ qs,p.ok /\ p.isRest = false /\ p.srt) /\ (holes qs).Sublist names4 /\ qs.length <= M /\ ∀ c,runD defs (c + 4) 13 [ofN ns,.int at_,.int M] = .ok (.tup ((qs ++ if b then [Part.rest (S "r")] else []).map Part.d)):=by
 obtain ⟨m,hm,em⟩:=pick ns at_ ((M:Int) + 1) h0 (by omega)
 have hm:m <= M:=by omega
 have hk:∀ k:Nat,∃ p:Part,p.ok /\ p.isRest = false /\ p.srt /\ p.hole.Sublist [nm4 k] /\ (k < 4 -> ∀ c,runD defs (c + 3) 12 [ofN ns,.int (at_ + 2 + 5 * k),.str (nm4 k)] = .ok p.d):=by
  intro k
  obtain ⟨p,p1,p2,p3,p4,p5⟩:=part ns (at_ + 2 + 5 * k) (by omega) (nm4 k)
  exact ⟨p,p1,p2,p3,p4,fun _=>p5⟩
 obtain ⟨f,hf⟩:=Classical.skolem.mp hk
 have h5:smallI 5 = true:=by decide
 have hc:∀ c,evD (runD defs (c + 3)) (.comp 0 (.un .range (.call 11 (.cons (.var 0) (.cons (.var 1) (.cons (.bi .add (.var 2) (.con (.int 1))) .nil))))) (.con (.bl true)) (.call 12 (.cons (.var 1) (.cons (.bi .add (.bi .add (.var 2) (.con (.int 2))) (.bi .mul (.con (.int 5)) (.var 0))) (.cons (.bi .idx (.var 4) (.var 0)) .nil)))))
   [some (ofN ns),some (.int at_),some (.int M),some (.lst [D.str (S "y"),D.str (S "id"),D.str (S "z"),D.str (S "x")]),none] = .ok (.lst (((List.range m).map f).map Part.d)):=by
  intro c
  rw [List.map_map]
  refine JbR _ _ _ _ m ?_ (by omega) (fun k=>(f k).d) ?_
  ·simp [em]
  ·intro k hk
   obtain ⟨_,_,_,_,h3⟩:=hf k
   have n2:=h3 (by omega) c
   simp [JhD k (by omega),n2,h5]
 have hO:∀ p ∈ (List.range m).map f,p.ok /\ p.isRest = false /\ p.srt:=by
  intro p hp
  rw [List.mem_map] at hp
  obtain ⟨k,_,rfl⟩:=hp
  exact ⟨(hf k).1,(hf k).2.1,(hf k).2.2.1⟩
 have hH:(holes ((List.range m).map f)).Sublist names4:=(Jcy f (fun k=>(hf k).2.2.2.1) m (by omega)).trans (List.take_sublist _ _)
 have hL:((List.range m).map f).length <= M:=by
  simp
  omega
 generalize (List.range m).map f = qs at hc hO hL hH
 have hL2:qs.length < 16777216:=by omega
 have hI:=Jbh qs
 have hN:=JiB ns
 obtain ⟨q,hq,eq⟩:=pick ns (at_ + 1) 4 (by omega) (by decide)
 refine ⟨qs,decide (q = 0),hO,hH,hL,fun c=>?_⟩
 by_cases q0:q = 0
 ·subst q0
  simp [JY,b_law_pattern,hc,eq,hI,hN,lineD,hL2,D.imm,imms,Part.d]
 ·have q1:((q:Int) == 0) = false:=by
   rw [beq_eq_false_iff_ne]
   omega
  simp [JY,b_law_pattern,hc,eq,hI,q1,q0,lineD]
theorem patS (ns:List Int) (at_:Int) (h0:0 <= at_) (M:Nat) (hM:M <= 4):∃ ps:List Part,(∀ p ∈ ps,p.ok) /\ restLast ps /\ ps.length <= M + 1 /\ (∀ p ∈ ps,p.srt) /\ (holes ps).Sublist names5 /\ ((∀ p ∈ ps,p.isRest = false) -> ps.length <= M) /\ ∀ c,runD defs (c + 4) 13 [ofN ns,.int at_,.int M] = .ok (.tup (ps.map Part.d)):=by
 obtain ⟨qs,b,h1,h2,h3,h4⟩:=patQ ns at_ h0 M hM
 refine ⟨_,?_,?_,?_,?_,?_,?_,h4⟩ <;> cases b
 ·simpa using fun p hp=>(h1 p hp).1
 ·simp only [if_true]
  intro p hp
  rcases List.mem_append.mp hp with hp | hp
  ·exact (h1 p hp).1
  ·rw [List.mem_singleton.mp hp]; trivial
 ·simpa using JaQ _ fun p hp=>(h1 p hp).2.1
 ·exact JcS _ (fun p hp=>(h1 p hp).2.1) _
 ·simp; omega
 ·simp; omega
 ·simpa using fun p hp=>(h1 p hp).2.2
 ·simp only [if_true]
  intro p hp
  rcases List.mem_append.mp hp with hp | hp
  ·exact (h1 p hp).2.2
  ·rw [List.mem_singleton.mp hp]; trivial
 ·simp only [Bool.false_eq_true,if_false,List.append_nil]
  exact h2.trans (List.sublist_append_left names4 [S "r"])
 ·simp only [if_true,holes,List.flatMap_append]
  exact h2.append (List.Sublist.refl [S "r"])
 ·simpa using fun _=>h3
 ·exact fun hz=>absurd (hz (.rest (S "r")) (by simp)) (by simp [Part.isRest])
theorem JdS (ns:List Int) (at_:Int) (h0:0 <= at_):∃ w:Str,w ∈ ws9 /\ ∀ c,runD defs (c + 3) 15 [ofN ns,.int at_] = .ok (.str w):=by
 obtain ⟨r,hr,er⟩:=pick ns at_ 9 h0 (by decide)
 have:∃ w:Str,w ∈ ws9 /\ atD [D.str (S "a"),D.str (S "b"),D.str (S "7"),D.str (S "0"),D.str (S "new"),D.str (S "zz"),D.str (S "55"),D.str (S "01"),D.str (S "-")] (r:Int) = some (.str w):=by
  match r,hr with
  | 0,_=>exact ⟨S "a",by decide +kernel,rfl⟩
  | 1,_=>exact ⟨S "b",by decide +kernel,rfl⟩
  | 2,_=>exact ⟨S "7",by decide +kernel,rfl⟩
  | 3,_=>exact ⟨S "0",by decide +kernel,rfl⟩
  | 4,_=>exact ⟨S "new",by decide +kernel,rfl⟩
  | 5,_=>exact ⟨S "zz",by decide +kernel,rfl⟩
  | 6,_=>exact ⟨S "55",by decide +kernel,rfl⟩
  | 7,_=>exact ⟨S "01",by decide +kernel,rfl⟩
  | 8,_=>exact ⟨S "-",by decide +kernel,rfl⟩
  | n + 9,h=>omega
 obtain ⟨w,hw,ew⟩:=this
 exact ⟨w,hw,fun c=>by simp [Jbk,b_law_any_word,er,ew,lineD]⟩
def nearNum:Px:=(.bi .idx (.dis (.cons (.con (.str (ofString "7"))) (.cons (.con (.str (ofString "0"))) (.cons (.con (.str (ofString "55"))) .nil)))) (.call 11 (.cons (.var 0) (.cons (.bi .add (.bi .add (.var 1) (.bi .mul (.con (.int 3)) (.var 4))) (.con (.int 2))) (.cons (.con (.int 3)) .nil)))))
def nearOne:Px:=(.bi .idx (.bi .idx (.var 5) (.con (.int 2))) (.call 11 (.cons (.var 0) (.cons (.bi .add (.bi .add (.var 1) (.bi .mul (.con (.int 3)) (.var 4))) (.con (.int 2))) (.cons (.un .len (.bi .idx (.var 5) (.con (.int 2)))) .nil)))))
def nearLast:Sx:=(.ite (.bi .eq (.bi .idx (.var 5) (.con (.int 0))) (.con (.str (ofString "word")))) (.app false 3 (.bi .idx (.var 5) (.con (.int 1)))) (.ite (.bi .eq (.bi .idx (.var 5) (.con (.int 0))) (.con (.str (ofString "number")))) (.app false 3 nearNum) (.app false 3 nearOne)))
def nearTail:Sx:=(.ite (.bi .eq (.bi .idx (.var 5) (.con (.int 0))) (.con (.str (ofString "rest")))) (.ext false 3 (.walk (.un .rows (.comp 0 (.un .range (.call 11 (.cons (.var 0) (.cons (.bi .add (.var 1) (.con (.int 39))) (.cons (.con (.int 3)) .nil))))) (.con (.bl true)) (.call 15 (.cons (.var 1) (.cons (.bi .add (.bi .add (.var 2) (.con (.int 40))) (.var 0)) .nil))))))) (.ite (.or (.bi .eq (.var 6) (.con (.int 0))) (.bi .eq (.bi .idx (.var 5) (.con (.int 0))) (.con (.str (ofString "any"))))) (.app false 3 (.call 15 (.cons (.var 0) (.cons (.bi .add (.bi .add (.var 1) (.bi .mul (.con (.int 3)) (.var 4))) (.con (.int 1))) .nil)))) nearLast))
def nearBody:Sx:=(.seq (.set false 6 (.call 11 (.cons (.var 0) (.cons (.bi .add (.var 1) (.bi .mul (.con (.int 3)) (.var 4))) (.cons (.con (.int 9)) .nil)))))
  (.ite (.bi .eq (.bi .idx (.var 5) (.con (.int 0))) (.con (.str (ofString "rest")))) (.ext false 3 (.walk (.un .rows (.comp 0 (.un .range (.call 11 (.cons (.var 0) (.cons (.bi .add (.var 1) (.con (.int 39))) (.cons (.con (.int 3)) .nil))))) (.con (.bl true)) (.call 15 (.cons (.var 1) (.cons (.bi .add (.bi .add (.var 2) (.con (.int 40))) (.var 0)) .nil))))))) (.ite (.or (.bi .eq (.var 6) (.con (.int 0))) (.bi .eq (.bi .idx (.var 5) (.con (.int 0))) (.con (.str (ofString "any"))))) (.app false 3 (.call 15 (.cons (.var 0) (.cons (.bi .add (.bi .add (.var 1) (.bi .mul (.con (.int 3)) (.var 4))) (.con (.int 1))) .nil)))) (.ite (.bi .eq (.bi .idx (.var 5) (.con (.int 0))) (.con (.str (ofString "word")))) (.app false 3 (.bi .idx (.var 5) (.con (.int 1)))) (.ite (.bi .eq (.bi .idx (.var 5) (.con (.int 0))) (.con (.str (ofString "number")))) (.app false 3 (.bi .idx (.dis (.cons (.con (.str (ofString "7"))) (.cons (.con (.str (ofString "0"))) (.cons (.con (.str (ofString "55"))) .nil)))) (.call 11 (.cons (.var 0) (.cons (.bi .add (.bi .add (.var 1) (.bi .mul (.con (.int 3)) (.var 4))) (.con (.int 2))) (.cons (.con (.int 3)) .nil)))))) (.app false 3 (.bi .idx (.bi .idx (.var 5) (.con (.int 2))) (.call 11 (.cons (.var 0) (.cons (.bi .add (.bi .add (.var 1) (.bi .mul (.con (.int 3)) (.var 4))) (.con (.int 2))) (.cons (.un .len (.bi .idx (.var 5) (.con (.int 2)))) .nil)))))))))))
theorem Jjw:nearBody = .seq (.set false 6 (.call 11 (.cons (.var 0) (.cons (.bi .add (.var 1) (.bi .mul (.con (.int 3)) (.var 4))) (.cons (.con (.int 9)) .nil))))) nearTail:=rfl
def Part.kind:Part -> Str
 | .word _=>S "word"
 | .one _ _=>S "one"
 | .any _=>S "any"
 | .number _=>S "number"
 | .rest _=>S "rest"
theorem JP (call:CallD) (env:Fm) (i:Nat) (p:Part) (h:env[i]? = some (some p.d)) (s:Str):evD call (.bi .eq (.bi .idx (.var i) (.con (.int 0))) (.con (.str s))) env = .ok (.bl (p.kind == s)):=by
 refine Jd _ _ (x:=.str p.kind) (Jd _ _ (x:=p.d) (y:=.int 0) (by rw [JgZ,h]) rfl ?_) rfl (Jfj _ _)
 cases p <;> rfl
theorem Jab (p:Part):(p.kind == S "rest") = p.isRest:=match p with
 | .word _=>(by decide +kernel:(S "word" == S "rest") = false)
 | .one _ _=>(by decide +kernel:(S "one" == S "rest") = false)
 | .any _=>(by decide +kernel:(S "any" == S "rest") = false)
 | .number _=>(by decide +kernel:(S "number" == S "rest") = false)
 | .rest _=>(by decide +kernel:(S "rest" == S "rest") = true)
theorem Jdi (call:CallD) (env:Fm) (i:Nat) (p:Part) (h:env[i]? = some (some p.d)):evD call (.bi .idx (.var i) (.con (.int 1))) env = .ok (.str p.name):=by
 refine Jd _ _ (x:=p.d) (y:=.int 1) (by rw [JgZ,h]) rfl ?_
 cases p <;> rfl
theorem Jft (ns:List Int) (at_:Int) (h0:0 <= at_) (k:Nat) (p:Part) (hp:p.ok):∃ a:List Str,(∀ w ∈ a,w ∈ ws9) /\ a.length <= 1 + p.isRest.toNat /\ ∀ c (made:List Str) P x6,P.imm = true -> made.length <= 1000 - 2 ->
  ∃ y6,exD (runD defs (c + 3)) nearBody [some (ofN ns),some (.int at_),some P,some (.lst (made.map .str)),some (.int k),some p.d,x6] =
   .ok (.nx,[some (ofN ns),some (.int at_),some P,some (.lst ((made ++ a).map .str)),some (.int k),some p.d,y6]):=by
 obtain ⟨r,hr,er⟩:=pick ns (at_ + 3 * k) 9 (by omega) (by decide)
 obtain ⟨w,hw,ew⟩:=JdS ns (at_ + 3 * k + 1) (by omega)
 have hmul:op2 .mul (.int 3) (.int k) = .ok (.int (3 * k)):=by simp only [op2,show smallI 3 = true by decide,Bool.true_or,if_true]
 have hb:∀ (c:Nat) (P L X6:Option D),evD (runD defs (c + 3)) (.bi .add (.var 1) (.bi .mul (.con (.int 3)) (.var 4))) [some (ofN ns),some (.int at_),P,L,some (.int k),some p.d,X6] = .ok (.int (at_ + 3 * k)):=fun c P L X6=>Jd _ _ rfl (Jd _ _ rfl rfl hmul) rfl
 have hE:∀ (c:Nat) (P L X6:Option D),evD (runD defs (c + 3)) (.call 11 (.cons (.var 0) (.cons (.bi .add (.var 1) (.bi .mul (.con (.int 3)) (.var 4))) (.cons (.con (.int 9)) .nil)))) [some (ofN ns),some (.int at_),P,L,some (.int k),some p.d,X6] = .ok (.int r):=fun c P L X6=>
  Je _ _ (ds:=[ofN ns,.int (at_ + 3 * k),.int 9]) (Jc _ _ rfl (Jc _ _ (hb c P L X6) rfl)) (er (c + 1))
 have hK:∀ (c:Nat) (P L X6:Option D) (s:Str),evD (runD defs (c + 3)) (.bi .eq (.bi .idx (.var 5) (.con (.int 0))) (.con (.str s))) [some (ofN ns),some (.int at_),P,L,some (.int k),some p.d,X6] = .ok (.bl (p.kind == s)):=fun c P L X6 s=>JP _ _ 5 p rfl s
 have hstart:∀ (c:Nat) (P:D) (made:List Str) (X6:Option D),exD (runD defs (c + 3)) nearBody [some (ofN ns),some (.int at_),some P,some (.lst (made.map .str)),some (.int k),some p.d,X6] = exD (runD defs (c + 3)) nearTail [some (ofN ns),some (.int at_),some P,some (.lst (made.map .str)),some (.int k),some p.d,some (.int r)]:=fun c P made X6=>by
  rw [Jjw,Jdf _ _ _ (hE c _ _ _)]
  rfl
 have one:∀ (c:Nat) (P:D) (made:List Str) (e:Px) (v:Str),made.length <= 1000 - 2 -> evD (runD defs (c + 3)) e [some (ofN ns),some (.int at_),some P,some (.lst (made.map .str)),some (.int k),some p.d,some (.int r)] = .ok (.str v) -> exD (runD defs (c + 3)) (.app false 3 e) [some (ofN ns),some (.int at_),some P,some (.lst (made.map .str)),some (.int k),some p.d,some (.int r)] = .ok (.nx,[some (ofN ns),some (.int at_),some P,some (.lst ((made ++ [v]).map .str)),some (.int k),some p.d,some (.int r)]):=fun c P made e v hl he=>by
  rw [Jkc _ _ (i:=3) (ds:=made.map .str) rfl he (by rw [List.length_map]; omega),List.map_append]
  rfl
 cases hR:p.isRest with
 | true=>
  obtain ⟨m,hm,em⟩:=pick ns (at_ + 39) 3 (by omega) (by decide)
  have hk:∀ j:Nat,∃ w:Str,w ∈ ws9 /\ ∀ c,runD defs (c + 3) 15 [ofN ns,.int (at_ + 40 + j)] = .ok (.str w):=fun j=>JdS ns _ (by omega)
  obtain ⟨f,hf⟩:=Classical.skolem.mp hk
  refine ⟨(List.range m).map f,?_,by rw [List.length_map,List.length_range]; show m <= 2; omega,?_⟩
  ·intro w hw
   rw [List.mem_map] at hw
   obtain ⟨j,_,rfl⟩:=hw
   exact (hf j).1
  ·intro c made P x6 hP hl
   refine ⟨some (.int r),?_⟩
   have hc:=JbR (runD defs (c + 3)) [some (ofN ns),some (.int at_),some P,some (.lst (made.map .str)),some (.int k),some p.d,some (.int r)] (.call 11 (.cons (.var 0) (.cons (.bi .add (.var 1) (.con (.int 39))) (.cons (.con (.int 3)) .nil)))) (.call 15 (.cons (.var 1) (.cons (.bi .add (.bi .add (.var 2) (.con (.int 40))) (.var 0)) .nil))) m
    (Je _ _ (ds:=[ofN ns,.int (at_ + 39),.int 3]) rfl (em (c + 1))) (by omega) (fun j=>.str (f j)) fun j hj=>Je _ _ (ds:=[ofN ns,.int (at_ + 40 + j)]) rfl ((hf j).2 c)
   rw [hstart,nearTail,n_if _ _ _ _ (hK c _ _ _ _),Jab,hR,if_pos rfl]
   rw [Jkg _ _ (i:=3) (ds:=made.map .str) (es:=(List.range m).map fun j=>.str (f j)) rfl (by rw [JmL,e_un,hc]; rfl) (by rw [List.length_map,List.length_map,List.length_range]; omega)]
   rw [List.map_append,List.map_map]
   rfl
 | false=>
  have hkr:(p.kind == S "rest") = false:=by rw [Jab,hR]
  have hgo:∀ (c:Nat) (P:D) (made:List Str),exD (runD defs (c + 3)) nearTail [some (ofN ns),some (.int at_),some P,some (.lst (made.map .str)),some (.int k),some p.d,some (.int r)] = if ((r:Int) == 0) || (p.kind == S "any") then exD (runD defs (c + 3)) (.app false 3 (.call 15 (.cons (.var 0) (.cons (.bi .add (.bi .add (.var 1) (.bi .mul (.con (.int 3)) (.var 4))) (.con (.int 1))) .nil)))) [some (ofN ns),some (.int at_),some P,some (.lst (made.map .str)),some (.int k),some p.d,some (.int r)] else exD (runD defs (c + 3)) nearLast [some (ofN ns),some (.int at_),some P,some (.lst (made.map .str)),some (.int k),some p.d,some (.int r)]:=fun c P made=>by
   rw [nearTail,n_if _ _ _ _ (hK c _ _ _ _),hkr,if_neg Bool.false_ne_true]
   exact n_if _ _ _ _ (Jcq _ _ (Jd _ _ rfl rfl rfl) fun _=>hK c _ _ _ _)
  cases hA:(((r:Int) == 0) || (p.kind == S "any")) with
  | true=>
   refine ⟨[w],by simpa using hw,Nat.le_add_right 1 _,fun c made P x6 hP hl=>⟨some (.int r),?_⟩⟩
   rw [hstart,hgo,hA,if_pos rfl]
   exact one c P made _ w hl (Je _ _ (ds:=[ofN ns,.int (at_ + 3 * k + 1)]) (Jc _ _ rfl (Jc _ _ (Jd _ _ (hb c _ _ _) rfl rfl) rfl)) (ew c))
  | false=>
   have hin:∃ (v:Str) (e:Px),v ∈ ws9 /\ ∀ (c:Nat) (P:D) (made:List Str),exD (runD defs (c + 3)) nearLast [some (ofN ns),some (.int at_),some P,some (.lst (made.map .str)),some (.int k),some p.d,some (.int r)] = exD (runD defs (c + 3)) (.app false 3 e) [some (ofN ns),some (.int at_),some P,some (.lst (made.map .str)),some (.int k),some p.d,some (.int r)] /\ evD (runD defs (c + 3)) e [some (ofN ns),some (.int at_),some P,some (.lst (made.map .str)),some (.int k),some p.d,some (.int r)] = .ok (.str v):=by
    obtain ⟨q,hq,eq⟩:=pick ns (at_ + 3 * k + 2) 3 (by omega) (by decide)
    cases p with
    | rest n=>cases hR
    | any n=>
     rw [Bool.or_eq_false_iff] at hA
     exact absurd hA.2 (by decide +kernel:¬ ((S "any" == S "any") = false))
    | word x=>
     refine ⟨x,.bi .idx (.var 5) (.con (.int 1)),hp,fun c P made=>⟨?_,rfl⟩⟩
     rw [nearLast,n_if _ _ _ _ (hK c _ _ _ _)]
     exact if_pos (by decide +kernel:(S "word" == S "word") = true)
    | number n=>
     have:∃ w:Str,w ∈ ws9 /\ atD [D.str (S "7"),D.str (S "0"),D.str (S "55")] (q:Int) = some (.str w):=by
      match q,hq with
      | 0,_=>exact ⟨S "7",by decide +kernel,rfl⟩
      | 1,_=>exact ⟨S "0",by decide +kernel,rfl⟩
      | 2,_=>exact ⟨S "55",by decide +kernel,rfl⟩
      | n + 3,h=>omega
     obtain ⟨v,hv,ev⟩:=this
     refine ⟨v,nearNum,hv,fun c P made=>⟨?_,?_⟩⟩
     ·rw [nearLast,n_if _ _ _ _ (hK c _ _ _ _)]
      refine (if_neg (by decide +kernel:¬ ((S "number" == S "word") = true))).trans ?_
      rw [n_if _ _ _ _ (hK c _ _ _ _)]
      exact if_pos (by decide +kernel:(S "number" == S "number") = true)
     ·exact Jd _ _ (x:=.lst [D.str (S "7"),D.str (S "0"),D.str (S "55")]) (y:=.int q) rfl (Je _ _ (ds:=[ofN ns,.int (at_ + 3 * k + 2),.int 3]) (Jc _ _ rfl (Jc _ _ (Jd _ _ (hb c _ _ _) rfl rfl) rfl)) (eq (c + 1))) (by simp only [op2,ev]; rfl)
    | one n ws=>
     have hn:0 < ws.length:=List.length_pos_iff.mpr hp.2
     obtain ⟨q,hq,eq⟩:=pick ns (at_ + 3 * k + 2) ws.length (by omega) (by omega)
     have hq:q < ws.length:=by omega
     have ev:atD (ws.map D.str) (q:Int) = some (.str ws[q]):=by
      rw [atN (ws.map D.str) q (by rw [List.length_map]; exact hq),List.getElem_map]
     have h2:∀ (c:Nat) (P L X6:Option D),evD (runD defs (c + 3)) (.bi .idx (.var 5) (.con (.int 2))) [some (ofN ns),some (.int at_),P,L,some (.int k),some (Part.d (.one n ws)),X6] = .ok (.tup (ws.map .str)):=fun _ _ _ _=>rfl
     refine ⟨ws[q],nearOne,hp.1 _ (List.getElem_mem hq),fun c P made=>⟨?_,?_⟩⟩
     ·rw [nearLast,n_if _ _ _ _ (hK c _ _ _ _)]
      refine (if_neg (by decide +kernel:¬ ((S "one" == S "word") = true))).trans ?_
      rw [n_if _ _ _ _ (hK c _ _ _ _)]
      exact if_neg (by decide +kernel:¬ ((S "one" == S "number") = true))
     ·exact Jd _ _ (x:=.tup (ws.map .str)) (y:=.int q) (h2 c _ _ _) (Je _ _ (ds:=[ofN ns,.int (at_ + 3 * k + 2),.int ws.length]) (Jc _ _ rfl (Jc _ _ (Jd _ _ (hb c _ _ _) rfl rfl) (Jc _ _ (Jac _ _ (h2 c _ _ _) (by simp only [op1,List.length_map])) rfl))) (eq (c + 1))) (by simp only [op2,ev]; rfl)
   obtain ⟨v,e,hv,hin⟩:=hin
   refine ⟨[v],by simpa using hv,Nat.le_add_right 1 _,fun c made P x6 hP hl=>⟨some (.int r),?_⟩⟩
   rw [hstart,hgo,hA,if_neg Bool.false_ne_true,(hin c P made).1]
   exact one c P made e v hl (hin c P made).2
theorem JcG (ns:List Int) (at_:Int) (h0:0 <= at_):∀ (ps:List Part) (hp:∀ p ∈ ps,p.ok) (k:Nat),∃ a:List Str,(∀ w ∈ a,w ∈ ws9) /\ a.length <= ps.length + ps.countP Part.isRest /\ ∀ c (made:List Str) P x4 x5 x6,P.imm = true -> made.length + 2 * ps.length <= 1000 ->
  ∃ y4 y5 y6,forL [4,5] 2 (exD (runD defs (c + 3)) nearBody) (enumFrom k (ps.map Part.d)) [some (ofN ns),some (.int at_),some P,some (.lst (made.map .str)),x4,x5,x6] =
   .ok (.nx,[some (ofN ns),some (.int at_),some P,some (.lst ((made ++ a).map .str)),y4,y5,y6])
 | [],hp,k=>⟨[],by simp,by simp,fun c made P x4 x5 x6 hP h=>⟨x4,x5,x6,by simp [enumFrom,forL]⟩⟩
 | p :: ps,hp,k=>by
  obtain ⟨a,ha,la,e1⟩:=Jft ns at_ h0 k p (hp p (by simp))
  obtain ⟨b,hb,lb,e2⟩:=JcG ns at_ h0 ps (fun p h=>hp p (by simp [h])) (k + 1)
  refine ⟨a ++ b,?_,by cases hz:p.isRest <;> simp [hz] at la ⊢ <;> omega,?_⟩
  ·intro w hw
   rw [List.mem_append] at hw
   exact hw.elim (ha w) (hb w)
  ·intro c made P x4 x5 x6 hP hl
   have la2:a.length <= 2:=by cases hz:p.isRest <;> simp [hz] at la <;> omega
   have hl2:made.length + 2 * ps.length + 2 <= 1000:=by
    rw [List.length_cons] at hl
    omega
   obtain ⟨y6,e1⟩:=e1 c made P x6 hP (by omega)
   obtain ⟨z4,z5,z6,e2⟩:=e2 c (made ++ a) P (some (.int k)) (some p.d) y6 hP (by rw [List.length_append]; omega)
   refine ⟨z4,z5,z6,?_⟩
   rw [List.append_assoc] at e2
   simp only [List.map_cons,enumFrom,forL,bindT]
   simp only [List.length_cons,List.length_nil,Nat.zero_add,Nat.reduceAdd,Nat.reduceEqDiff,if_false,if_true,Rs.bind_ok,List.map_cons,List.map_nil,setAll,List.set,e1,e2]
theorem JdV:∀ ps:List Part,restLast ps -> ps.countP Part.isRest <= 1
 | [],_=>by simp
 | p :: ps,h=>by
  have ih:=JdV ps h.2
  cases hz:p.isRest with
  | false=>simpa [hz] using ih
  | true=>rw [h.1 hz]; simp [hz]
theorem near (ns:List Int) (at_:Int) (h0:0 <= at_) (ps:List Part) (hp:∀ p ∈ ps,p.ok) (hl:ps.length <= 5) (hr:restLast ps):∃ a:List Str,(∀ w ∈ a,w ∈ ws9) /\ a.length <= 6 /\ ∀ c,runD defs (c + 4) 16 [ofN ns,.int at_,.tup (ps.map Part.d)] = .ok (.tup (a.map .str)):=by
 obtain ⟨a,ha,la,e⟩:=JcG ns at_ h0 ps hp 0
 have:=JdV ps hr
 refine ⟨a,ha,by omega,fun c=>?_⟩
 obtain ⟨y4,y5,y6,e⟩:=e c [] (.tup (ps.map Part.d)) none none none (by simpa [D.imm] using Jbh ps) (by simp; omega)
 have hI:∀ (ds:List D) (k:Nat),imms ds = true -> imms (enumFrom k ds) = true:=by
  intro ds
  induction ds with
  | nil=>intro k h; rfl
  | cons d ds ih=>
   intro k h
   simp only [imms,Bool.and_eq_true] at h
   simp [enumFrom,imms,D.imm,h.1,ih _ h.2]
 have hb:b_law_near = .seq (.own 3 (.dis .nil)) (.seq (.loop false [4,5] 2 (.un .enum (.var 2)) nearBody) (.ret (.un .tuple (.var 3)))):=rfl
 rw [JeL,hb]
 have hI:=hI _ 0 (Jbh ps)
 simp only [List.map_nil,List.nil_append] at e
 simp [hI,lineD,imms,e]
end K11
namespace K11
open PySem.Str (ofString)
open PySem Pu
def wsA:List Str:=ws9 ++ [S "x0",S "1"]
theorem ws_A {w:Str} (h:w ∈ ws9):w ∈ wsA:=List.mem_append_left _ h
def numW (w:Str):Bool:=w == S "7" || w == S "0" || w == S "55" || w == S "1"
def num (w:Str):Int:=digs w.cps.toList
theorem wn (w:Str) (hw:w ∈ wsA) (c:Nat):runD defs (c + 1) 1 [.str w] = .ok (.bl (numW w)):=by
 simp only [wsA,ws9,List.cons_append,List.nil_append,List.mem_cons,List.not_mem_nil,or_false] at hw
 rcases hw with rfl | rfl | rfl | rfl | rfl | rfl | rfl | rfl | rfl | rfl | rfl <;> rfl
theorem ln (w:Str) (hw:w ∈ wsA) (c:Nat):runD defs (c + 1) 17 [.str w] = .ok (.bl (numW w)):=by
 simp only [wsA,ws9,List.cons_append,List.nil_append,List.mem_cons,List.not_mem_nil,or_false] at hw
 rcases hw with rfl | rfl | rfl | rfl | rfl | rfl | rfl | rfl | rfl | rfl | rfl <;> rfl
theorem intsW (w:Str) (hw:w ∈ wsA) (h:numW w = true):op1 .ints (.str w) = .ok (.int (num w)):=by
 simp only [wsA,ws9,List.cons_append,List.nil_append,List.mem_cons,List.not_mem_nil,or_false] at hw
 rcases hw with rfl | rfl | rfl | rfl | rfl | rfl | rfl | rfl | rfl | rfl | rfl <;> first | rfl | (exact absurd h (by decide +kernel))
def Part.fits (p:Part) (w:Str):Bool:=match p with
 | .word x=>w == x
 | .one _ ws=>ws.any (fun v=>v == w)
 | .number _=>numW w
 | _=>true
def Part.valD (p:Part) (w:Str):D:=match p with
 | .number _=>.int (num w)
 | _=>.str w
def Part.val (p:Part) (w:Str):List D:=if p.isWord then [] else [.tup [.str p.name,p.valD w]]
def lawM:List Part -> List Str -> Option (List D)
 | [],a=>if a.isEmpty then some [] else none
 | p :: ps,a=>if p.isRest then some [.tup [.str p.name,.tup (a.map .str)]] else match a with
  | []=>none
  | w :: a=>if p.fits w then (lawM ps a).map (p.val w ++ ·) else none
def opt:Option (List D) -> D
 | none=>.non
 | some vs=>.lst vs
theorem Jew (xs:List D) (h:deps xs <= 19):op2 .eq (.tup xs) (.tup []) = .ok (.bl xs.isEmpty):=by
 rw [o_eq _ _ (by simp only [D.dep]; omega) (by simp [D.dep,deps])]
 cases xs <;> simp [D.eqv,eqvs]
theorem o_inS (w:Str) (ws:List Str):op2 .isin (.str w) (.tup (ws.map .str)) = .ok (.bl (ws.any fun v=>v == w)):=by
 rw [o_inT _ _ (by rw [Jaa]; omega) (Nat.zero_le _)]
 simp only [List.any_map]
 rfl
theorem Jmr (w:Str) (ws:List Str):op2 .notin (.str w) (.tup (ws.map .str)) = .ok (.bl (!ws.any fun v=>v == w)):=by
 rw [JiW _ _ (by rw [Jaa]; omega) (Nat.zero_le _)]
 simp only [List.any_map]
 rfl
theorem cut1 {α:Type} (x:α) (xs:List α):cutD (x :: xs) (some 1) none = xs:=by
 simp [cutD,six]
theorem JdM:∀ (ps:List Part) (a:List Str) (vs:List D),lawM ps a = some vs -> vs.length <= ps.length
 | [],a,vs,h=>by
  unfold lawM at h
  split at h
  ·cases h; simp
  ·cases h
 | p :: ps,a,vs,h=>by
  unfold lawM at h
  split at h
  ·cases h; simp
  ·split at h
   ·cases h
   ·split at h
    ·rw [Option.map_eq_some_iff] at h
     obtain ⟨us,e,rfl⟩:=h
     have:=JdM ps _ us e
     rw [List.length_append,List.length_cons]
     have h1:∀ w,(p.val w).length <= 1:=by
      intro w
      unfold Part.val
      split <;> simp
     have:=h1 ‹Str›
     omega
    ·cases h
theorem JcD (p:Part):(p.kind == S "word") = p.isWord:=match p with
 | .word _=>(by decide +kernel:(S "word" == S "word") = true)
 | .one _ _=>(by decide +kernel:(S "one" == S "word") = false)
 | .any _=>(by decide +kernel:(S "any" == S "word") = false)
 | .number _=>(by decide +kernel:(S "number" == S "word") = false)
 | .rest _=>(by decide +kernel:(S "rest" == S "word") = false)
def Part.isNum:Part -> Bool
 | .number _=>true
 | _=>false
theorem Jeu (p:Part):(p.kind == S "number") = p.isNum:=match p with
 | .word _=>(by decide +kernel:(S "word" == S "number") = false)
 | .one _ _=>(by decide +kernel:(S "one" == S "number") = false)
 | .any _=>(by decide +kernel:(S "any" == S "number") = false)
 | .number _=>(by decide +kernel:(S "number" == S "number") = true)
 | .rest _=>(by decide +kernel:(S "rest" == S "number") = false)
def Part.bad1 (p:Part) (w:Str):Bool:=match p with
 | .word x=>!(x == w)
 | .one _ ws=>!(ws.any fun v=>v == w)
 | _=>false
theorem JhM (p:Part) (w:Str):p.fits w = (!p.bad1 w && !(p.isNum && !numW w)):=by
 cases p with
 | word x=>simp only [Part.fits,Part.bad1,Part.isNum,Bool.false_and,Bool.not_false,Bool.and_true,Bool.not_not]; exact Bool.beq_comm
 | one n ws=>simp only [Part.fits,Part.bad1,Part.isNum,Bool.false_and,Bool.not_false,Bool.and_true,Bool.not_not]
 | number n=>simp only [Part.fits,Part.bad1,Part.isNum,Bool.true_and,Bool.not_false,Bool.not_not]
 | any n=>rfl
 | rest n=>rfl
theorem Jmv (call:CallD) (env:Fm) (p:Part) (w:Str) (h2:env[2]? = some (some p.d)) (h3:env[3]? = some (some (.str w))) :
  evD call (.or (.and (.bi .eq (.bi .idx (.var 2) (.con (.int 0))) (.con (.str (ofString "word")))) (.bi .ne (.bi .idx (.var 2) (.con (.int 1))) (.var 3))) (.and (.bi .eq (.bi .idx (.var 2) (.con (.int 0))) (.con (.str (ofString "one")))) (.bi .notin (.var 3) (.bi .idx (.var 2) (.con (.int 2)))))) env = .ok (.bl (p.bad1 w)):=by
 have v3:evD call (.var 3) env = .ok (.str w):=by rw [JgZ,h3]
 have hw:=JP call env 2 p h2 (S "word")
 have ho:=JP call env 2 p h2 (S "one")
 have hn:=Jd call env (o:=.ne) (Jdi call env 2 p h2) v3 (Jks _ _)
 rw [JcD] at hw
 cases p with
 | word x=>
  rw [e_or,Jm _ _ hw fun _=>hn]
  cases hx:(x == w) with
  | false=>simp [Part.bad1,Part.isWord,Part.name,hx]
  | true=>
   simp only [Part.isWord,Part.name,hx,Bool.not_true,Bool.and_false,Rs.bind_ok,Part.bad1]
   exact Jm _ _ (q:=true) ho fun q=>absurd q (by decide +kernel:¬ ((S "word" == S "one") = true))
 | one n ws=>
  have h2':evD call (.bi .idx (.var 2) (.con (.int 2))) env = .ok (.tup (ws.map .str)):=Jd _ _ (x:=Part.d (.one n ws)) (y:=.int 2) (by rw [JgZ,h2]) rfl rfl
  rw [show ((Part.one n ws).kind == S "one") = true from (by decide +kernel:(S "one" == S "one") = true)] at ho
  exact Jcq call env (p:=false) (q:=!(ws.any fun v=>v == w)) (Jm call env (p:=false) (q:=!(n == w)) hw fun _=>hn) fun _=>Jm call env (p:=true) (q:=!(ws.any fun v=>v == w)) ho fun _=>Jd call env v3 h2' (Jmr w ws)
 | any n=>exact Jcq call env (p:=false) (q:=false) (Jm call env (p:=false) (q:=!(n == w)) hw fun _=>hn) fun _=>Jm call env (p:=false) (q:=true) (ho.trans (congrArg (fun b=>Rs.ok (D.bl b)) (by decide +kernel:(S "any" == S "one") = false))) fun q=>Bool.noConfusion q
 | number n=>exact Jcq call env (p:=false) (q:=false) (Jm call env (p:=false) (q:=!(n == w)) hw fun _=>hn) fun _=>Jm call env (p:=false) (q:=true) (ho.trans (congrArg (fun b=>Rs.ok (D.bl b)) (by decide +kernel:(S "number" == S "one") = false))) fun q=>Bool.noConfusion q
 | rest n=>exact Jcq call env (p:=false) (q:=false) (Jm call env (p:=false) (q:=!(n == w)) hw fun _=>hn) fun _=>Jm call env (p:=false) (q:=true) (ho.trans (congrArg (fun b=>Rs.ok (D.bl b)) (by decide +kernel:(S "rest" == S "one") = false))) fun q=>Bool.noConfusion q
theorem lm:∀ (ps:List Part) (a:List Str) (c:Nat),(∀ p ∈ ps,p.ok) -> (∀ w ∈ a,w ∈ wsA) -> ps.length <= 1000 ->
  runD defs (c + ps.length + 2) 18 [.tup (ps.map Part.d),.tup (a.map .str)] = .ok (opt (lawM ps a))
 | [],a,c,hp,ha,hl=>by
  have e1:=Jew [] (by simp [deps])
  have e2:=Jew (a.map .str) (by rw [Jaa]; omega)
  have hg:∀ (call:CallD) (x2 x3 x4:Option D),evD call (.bi .eq (.var 1) (.tup .nil)) [some (.tup []),some (.tup (a.map .str)),x2,x3,x4] = .ok (.bl (a.map D.str).isEmpty):=fun call _ _ _=>Jd _ _ rfl (Jp _ _ (ds:=[]) rfl (Nat.zero_le _)) e2
  rw [Jai,b_law_matched,JG _ _ (p:=true) _ _ (Jd _ _ rfl (Jp _ _ (ds:=[]) rfl (Nat.zero_le _)) e1),if_pos rfl]
  refine (e_if _ _ (hg _ _ _ _)).trans ?_
  cases a <;> rfl
 | p :: ps,a,c,hp,ha,hl=>by
  have hd:=JaR (p :: ps)
  have e1:=Jew ((p :: ps).map Part.d) (by omega)
  have e2:=Jew (a.map .str) (by rw [Jaa]; omega)
  have ef:c + (p :: ps).length + 2 = (c + ps.length + 2) + 1:=by
   rw [List.length_cons]
   omega
  have hg:∀ (call:CallD) (x2 x3 x4:Option D),evD call (.bi .eq (.var 1) (.tup .nil)) [some (.tup ((p :: ps).map Part.d)),some (.tup (a.map .str)),x2,x3,x4] = .ok (.bl (a.map D.str).isEmpty):=fun call _ _ _=>Jd _ _ rfl (Jp _ _ (ds:=[]) rfl (Nat.zero_le _)) e2
  rw [ef,Jai,b_law_matched,JG _ _ (p:=false) _ _ (Jd _ _ rfl (Jp _ _ (ds:=[]) rfl (Nat.zero_le _)) e1),if_neg Bool.false_ne_true]
  rw [Jby _ _ (d:=p.d) _ (Jd _ _ (x:=.tup ((p :: ps).map Part.d)) (y:=.int 0) rfl rfl (by simp))]
  simp only [List.set]
  rw [JG _ _ _ _ (JP _ _ 2 p rfl _),Jab]
  cases hr:p.isRest with
  | true=>
   rw [if_pos rfl,Jfe _ _ (ds:=[.tup [.str p.name,.tup (a.map .str)]]) (Jc _ _ (Jp _ _ (ds:=[.str p.name,.tup (a.map .str)]) (Jc _ _ (Jdi _ _ 2 p rfl) rfl) (by simp)) rfl) (by simp)]
   simp only [lawM,hr,if_true,opt]
  | false=>
   rw [if_neg Bool.false_ne_true,JG _ _ _ _ (hg _ _ _ _)]
   cases a with
   | nil=>
    rw [lawM,hr]
    rfl
   | cons w a=>
    have ih:=lm ps a c (fun p h=>hp p (by simp [h])) (fun w h=>ha w (by simp [h])) (by rw [List.length_cons] at hl; omega)
    have hw:=ha w (by simp)
    have eln:=ln w hw (c + ps.length + 1)
    have hM:lawM (p :: ps) (w :: a) = if p.fits w then (lawM ps a).map (p.val w ++ ·) else none:=by
     rw [lawM,hr]
     rfl
    rw [hM,JhM,List.map_cons,List.isEmpty_cons,if_neg Bool.false_ne_true]
    rw [Jby _ _ (d:=.str w) _ (Jd _ _ (x:=.tup ((w :: a).map .str)) (y:=.int 0) rfl rfl (by simp))]
    simp only [List.set]
    rw [JG _ _ _ _ (Jmv _ _ p w rfl rfl)]
    cases p.bad1 w with
    | true=>rfl
    | false=>
     rw [if_neg Bool.false_ne_true,JG _ _ (p:=(p.isNum && !numW w)) _ _ (by
      have h1:=JP (runD defs (c + ps.length + 2)) [some (.tup ((p :: ps).map Part.d)),some (.tup (D.str w :: a.map .str)),some p.d,some (.str w),none] 2 p rfl (S "number")
      rw [Jeu] at h1
      exact Jm _ _ h1 fun _=>Jmi _ _ (JkJ _ _ (Jke _ _ rfl eln)))]
     cases hnum:(p.isNum && !numW w) with
     | true=>rfl
     | false=>
      rw [if_neg Bool.false_ne_true,Jby _ _ (d:=opt (lawM ps a)) _ (Je _ _ (ds:=[.tup (ps.map Part.d),.tup (a.map .str)]) (Jc _ _ (by simp [cut1,op1]) (Jc _ _ (by simp [cut1,op1]) rfl)) ih)]
      simp only [List.set]
      have h1:=JP (runD defs (c + ps.length + 2)) [some (.tup ((p :: ps).map Part.d)),some (.tup (D.str w :: a.map .str)),some p.d,some (.str w),some (opt (lawM ps a))] 2 p rfl (S "word")
      have h2:=JP (runD defs (c + ps.length + 2)) [some (.tup ((p :: ps).map Part.d)),some (.tup (D.str w :: a.map .str)),some p.d,some (.str w),some (opt (lawM ps a))] 2 p rfl (S "number")
      rw [JcD] at h1
      rw [Jeu] at h2
      have hn:op1 .isN (opt (lawM ps a)) = .ok (.bl (lawM ps a).isNone):=by cases lawM ps a <;> rfl
      rw [JG _ _ _ _ (Jcq _ _ (Jac _ _ rfl hn) fun _=>h1),JcE]
      cases hv:lawM ps a with
      | none=>rfl
      | some vs=>
       have hl1:=JdM ps a vs hv
       rw [List.length_cons] at hl
       rw [hv] at h1 h2
       cases hpw:p.isWord with
       | true=>
        rw [Part.val,hpw]
        rfl
       | false=>
        simp only [Option.isNone_some,Bool.false_or,Bool.false_eq_true,if_false,Part.val,hpw]
        have hval:evD (runD defs (c + ps.length + 2)) (.ite (.bi .eq (.bi .idx (.var 2) (.con (.int 0))) (.con (.str (ofString "number")))) (.un .ints (.var 3)) (.var 3)) [some (.tup ((p :: ps).map Part.d)),some (.tup (D.str w :: a.map .str)),some p.d,some (.str w),some (opt (some vs))] = .ok (p.valD w):=by
         rw [e_if _ _ h2]
         cases p with
         | number n=>
          have:numW w = true:=by simpa [Part.isNum] using hnum
          exact Jac _ _ rfl (intsW w hw this)
         | _=>rfl
        refine Jd _ _ (x:=.lst [.tup [.str p.name,p.valD w]]) (y:=.lst vs) (Jfe _ _ (Jc _ _ (Jp _ _ (Jc _ _ (Jdi _ _ 2 p rfl) (Jc _ _ hval rfl)) (by simp)) rfl) (by simp)) rfl ?_
        exact JiU [.tup [.str p.name,p.valD w]] vs (JO (by simp only [List.length_cons,List.length_nil]; omega))
def zbl:List Part -> List Str -> List Bool
 | p :: ps,w :: a=>p.fits w :: zbl ps a
 | _,_=>[]
theorem lets (p:Part) (w:Str) (hw:w ∈ wsA) (c:Nat):runD defs (c + 2) 2 [p.d,.str w] = .ok (.bl (p.fits w)):=by
 have h:=wn w hw c
 cases p <;> simp [JgY,b_lets_by,Part.d,Part.fits,o_inS,h]
def lastRest (ps:List Part):Bool:=match ps.getLast? with
 | some p=>p.isRest
 | none=>false
theorem has_rest (ps:List Part) (c:Nat):runD defs (c + 1) 0 [.tup (ps.map Part.d)] = .ok (.bl (lastRest ps)):=by
 by_cases h0:ps = []
 ·subst h0
  rfl
 ·have hp:0 < ps.length:=by
   cases ps with
   | nil=>exact absurd rfl h0
   | cons a t=>simp
  have hi:atD (ps.map Part.d) (-1) = some (ps.getLast h0).d:=by
   have h1:¬ ((0:Int) <= -1):=by omega
   have h2:-((ps.map Part.d).length:Int) <= -1:=by
    rw [List.length_map]
    omega
   have h3:(-1 + ((ps.map Part.d).length:Int)).toNat = ps.length - 1:=by
    rw [List.length_map]
    omega
   simp only [atD,ixn,if_neg h1,if_pos h2,h3,Option.bind_some]
   rw [List.getElem?_map,List.getElem?_eq_getElem (by omega),List.getLast_eq_getElem]
   rfl
  have hl:lastRest ps = (ps.getLast h0).isRest:=by
   simp only [lastRest,List.getLast?_eq_some_getLast h0]
  rw [hl]
  have hp2:(0:Int) < ps.length:=by omega
  generalize ps.getLast h0 = p at hi
  cases p <;> simp only [Part.d] at hi <;> simp [JeP,b_has_rest,hp,hi,Part.isRest]
def fit (ps:List Part) (a:List Str):Bool:=if lastRest ps then decide ((ps.length:Int) - 1 <= a.length) else (a.length:Int) == ps.length
theorem Jkx (ps:List Part) (a:List Str) (c:Nat):runD defs (c + 2) 3 [.tup (ps.map Part.d),.int a.length] = .ok (.bl (fit ps a)):=by
 have h:=has_rest ps c
 cases hl:lastRest ps <;> rw [hl] at h <;> simp [JM,b_has_fitting_length,h,fit,hl]
theorem Jen (c:Nat) (env:Fm):∀ (ps:List Part) (a:List Str),(∀ w ∈ a,w ∈ wsA) ->
  compL 2 (evD (runD defs (c + 2)) (.con (.bl true))) (evD (runD defs (c + 2)) (.call 2 (.cons (.var 0) (.cons (.var 1) .nil)))) env (zipD (ps.map Part.d) (a.map .str)) = .ok ((zbl ps a).map .bl)
 | [],a,h=>by cases a <;> rfl
 | p :: ps,[],h=>rfl
 | p :: ps,w :: a,h=>by
  have ih:=Jen c env ps a fun w hw=>h w (by simp [hw])
  have hl:=lets p w (h w (by simp)) c
  have:=Jan 2 (evD (runD defs (c + 2)) (.con (.bl true))) (evD (runD defs (c + 2)) (.call 2 (.cons (.var 0) (.cons (.var 1) .nil)))) env (.tup [p.d,.str w]) (zipD (ps.map Part.d) (a.map .str)) (new:=[some p.d,some (.str w)]) (by simp [bindT]) (p:=true) rfl (y:=.bl (p.fits w)) (fun _=>by simp [hl]) ih
  simpa [zipD,zbl] using this
theorem JfQ:∀ bs:List Bool,blsOf (bs.map .bl) = some bs
 | []=>rfl
 | b :: bs=>by simp [blsOf,JfQ bs]
theorem Jfz:∀ (xs ys:List D),(zipD xs ys).length <= xs.length
 | [],ys=>by simp [zipD]
 | x :: xs,[]=>by simp [zipD]
 | x :: xs,y :: ys=>by
  have:=Jfz xs ys
  simp only [zipD,List.length_cons]
  omega
theorem JiF (ps:List Part) (a:List Str) (c:Nat) (ha:∀ w ∈ a,w ∈ wsA) (hl:ps.length <= 1000):runD defs (c + 3) 4 [.tup (ps.map Part.d),.tup (a.map .str)] = .ok (.bl (fit ps a && (zbl ps a).all id)):=by
 have h1:=Jkx ps a c
 have h2:=Jen c [some (.tup (ps.map Part.d)),some (.tup (a.map .str))] ps a ha
 have h3:(zipD (ps.map Part.d) (a.map .str)).length <= 16777216:=by
  have:=Jfz (ps.map Part.d) (a.map .str)
  rw [List.length_map] at this
  omega
 have h4:op1 .all (.lst ((zbl ps a).map .bl)) = .ok (.bl ((zbl ps a).all id)):=by
  simp [op1,JfQ]
 cases hf:fit ps a <;> rw [hf] at h1 <;> simp [JcB,b_does_match,h1,JgT,lineD,h2,h3,h4]
theorem JaM (p:Part) (ps:List Part) (h:p.isRest = false):lastRest (p :: ps) = lastRest ps:=by
 cases ps with
 | nil=>simp [lastRest,h]
 | cons q qs=>simp [lastRest,List.getLast?_cons_cons]
theorem JbY:∀ (ps:List Part) (a:List Str),restLast ps -> (lawM ps a).isSome = (fit ps a && (zbl ps a).all id)
 | [],a,h=>by
  cases a with
  | nil=>rfl
  | cons w a=>
   have:¬ ((a.length:Int) + 1 = 0):=by omega
   simp [lawM,fit,lastRest,this]
 | p :: ps,a,h=>by
  cases hr:p.isRest with
  | true=>
   have h0:=h.1 hr
   subst h0
   have hf:p.fits = fun _=>true:=by
    cases p <;> simp_all [Part.isRest]
    rfl
   cases a <;> simp [lawM,fit,lastRest,hr,zbl,hf] <;> omega
  | false=>
   cases a with
   | nil=>
    simp only [lawM,hr,fit,JaM p ps hr]
    cases hl:lastRest ps with
    | true=>
     have:0 < ps.length:=by
      cases ps with
      | nil=>cases hl
      | cons a t=>simp
     have h1:¬ ((((p :: ps).length:Nat):Int) - 1 <= ((([]:List Str).length:Nat):Int)):=by
      simp only [List.length_cons,List.length_nil]
      omega
     rw [if_pos rfl,decide_eq_false h1]
     rfl
    | false=>
     simp
     omega
   | cons w a=>
    have ih:=JbY ps a h.2
    have hfit:fit (p :: ps) (w :: a) = fit ps a:=by
     simp only [fit,JaM p ps hr,List.length_cons]
     cases lastRest ps
     ·rw [Bool.eq_iff_iff]
      simp <;> omega
     ·rw [Bool.eq_iff_iff]
      simp
      omega
    simp only [lawM,hr,zbl,hfit]
    cases p.fits w
    ·simp
    ·simp [ih]
end K11
namespace K11
open PySem.Str (ofString)
open PySem Pu
structure Row where
 l:Str
 ps:List Part
def Row.pd (r:Row):D:=.tup (r.ps.map Part.d)
def Row.d (r:Row):D:=.tup [.str r.l,r.pd]
structure Row.Ok (M:Nat) (r:Row):Prop where
 ok:∀ p ∈ r.ps,p.ok
 rl:restLast r.ps
 len:r.ps.length <= M + 1
 srt:∀ p ∈ r.ps,p.srt
 hol:(holes r.ps).Sublist names5
 fix:(∀ p ∈ r.ps,p.isRest = false) -> r.ps.length <= M
def labs:List Str:=[S "t",S "p",S "v",S "q",S "u",S "s"]
def lab (k:Nat):Str:=labs.getD k (S "")
theorem Jld (k:Nat) (h:k < 6):atD [D.str (S "t"),D.str (S "p"),D.str (S "v"),D.str (S "q"),D.str (S "u"),D.str (S "s")] (k:Int) = some (.str (lab k)):=by
 match k,h with
 | 0,_=>rfl
 | 1,_=>rfl
 | 2,_=>rfl
 | 3,_=>rfl
 | 4,_=>rfl
 | 5,_=>rfl
 | n + 6,h=>omega
theorem JgJ (m:Nat) (h:m <= 6):(List.range m).map lab = labs.take m:=by
 match m,h with
 | 0,_=>rfl
 | 1,_=>rfl
 | 2,_=>rfl
 | 3,_=>rfl
 | 4,_=>rfl
 | 5,_=>rfl
 | 6,_=>rfl
 | n + 7,h=>omega
theorem labs_nodup:labs.Nodup:=by decide +kernel
theorem table (ns:List Int) (at_:Int) (h0:0 <= at_) (M:Nat) (hM:M <= 4) (R:Nat) (hR:R <= 6):∃ rows:List Row,(∀ r ∈ rows,r.Ok M) /\ rows.map Row.l = labs.take rows.length /\ rows.length <= R /\ ∀ c,runD defs (c + 5) 14 [ofN ns,.int at_,.int M,.int R] = .ok (.tup (rows.map Row.d)):=by
 obtain ⟨m,hm,em⟩:=pick ns at_ ((R:Int) + 1) h0 (by omega)
 have hm:m <= R:=by omega
 have hk:∀ k:Nat,∃ r:Row,r.Ok M /\ r.l = lab k /\ ∀ c,runD defs (c + 4) 13 [ofN ns,.int (at_ + 1 + 30 * k),.int M] = .ok r.pd:=by
  intro k
  obtain ⟨ps,p1,p2,p3,p4,p5,p7,p6⟩:=patS ns (at_ + 1 + 30 * k) (by omega) M hM
  exact ⟨⟨lab k,ps⟩,⟨p1,p2,p3,p4,p5,p7⟩,rfl,p6⟩
 obtain ⟨f,hf⟩:=Classical.skolem.mp hk
 have h30:smallI 30 = true:=by decide
 refine ⟨(List.range m).map f,?_,?_,?_,fun c=>?_⟩
 ·intro r hr
  rw [List.mem_map] at hr
  obtain ⟨k,_,rfl⟩:=hr
  exact (hf k).1
 ·rw [List.map_map,List.length_map,List.length_range,<- JgJ m (by omega)]
  exact List.map_congr_left fun k _=>(hf k).2.1
 ·simpa using hm
 ·have hc:=JbR (runD defs (c + 4)) [some (ofN ns),some (.int at_),some (.int M),some (.int R),some (.lst [D.str (S "t"),D.str (S "p"),D.str (S "v"),D.str (S "q"),D.str (S "u"),D.str (S "s")]),some (.int m)] (.var 5)
   (.tup (.cons (.bi .idx (.var 5) (.var 0)) (.cons (.call 13 (.cons (.var 1) (.cons (.bi .add (.bi .add (.var 2) (.con (.int 1))) (.bi .mul (.con (.int 30)) (.var 0))) (.cons (.var 3) .nil)))) .nil))) m (by simp) (by omega) (fun k=>(f k).d) (by
    intro k hk
    have n2:=(hf k).2.2 c
    have n1:=Jld k (by omega)
    refine Jp _ _ (ds:=[.str (f k).l,(f k).pd]) ?_ (by simp)
    rw [(hf k).2.1]
    simp [n1,n2,h30])
  have hs:=em (c + 2)
  rw [Jde,b_law_table]
  rw [Jby _ _ (d:=.lst [D.str (S "t"),D.str (S "p"),D.str (S "v"),D.str (S "q"),D.str (S "u"),D.str (S "s")]) _ rfl,Jby _ _ (d:=.int m) _ (by simp [hs]),JcE]
  rw [List.map_map]
  exact Jac _ _ hc rfl
def hit (a:List Str) (r:Row):Bool:=(lawM r.ps a).isSome
def labD:Option Row -> D
 | none=>.non
 | some r=>.str r.l
theorem row0 (r:Row) (env:Fm) (call:CallD) (i:Nat) (h:env[i]? = some (some r.d)):evD call (.bi .idx (.var i) (.con (.int 0))) env = .ok (.str r.l):=by
 simp [h,Row.d]
structure Row.Fine (r:Row):Prop where
 rl:restLast r.ps
 len:r.ps.length <= 1000
theorem all_rows (rows:List Row) (h:∀ r ∈ rows,r.Fine) (hl:rows.length <= 1000) (a:List Str) (ha:∀ w ∈ a,w ∈ wsA) (c:Nat):runD defs (c + 4) 5 [.tup (rows.map Row.d),.tup (a.map .str)] = .ok (.lst ((rows.filter (hit a)).map fun r=>.str r.l)):=by
 rw [JeM,b_all_rows,JcE]
 refine Jdy _ _ Row.d (hit a) (fun r=>.str r.l) ?_ hl fun r hr=>⟨?_,fun _=>row0 r _ _ 0 rfl⟩
 ·simp [D.walk]
 ·have h1:=JiF r.ps a c ha (h r hr).len
  rw [<- JbY r.ps a (h r hr).rl] at h1
  refine JkJ _ _ ?_
  simp [Row.d,Row.pd,h1,hit]
theorem first (rows:List Row) (h:∀ r ∈ rows,r.Fine) (hl:rows.length <= 1000) (a:List Str) (ha:∀ w ∈ a,w ∈ wsA) (c:Nat):runD defs (c + 5) 6 [.tup (rows.map Row.d),.tup (a.map .str)] = .ok (labD (rows.find? (hit a))):=by
 have h1:=all_rows rows h hl a ha c
 rw [<- List.head?_filter]
 generalize rows.filter (hit a) = fs at h1
 cases fs with
 | nil=>simp [Jfg,b_first,h1,labD]
 | cons r fs=>
  have:(0:Int) < (fs.length:Int) + 1:=by omega
  simp [Jfg,b_first,h1,labD,this]
theorem JcN {rows:List Row} (hn:(rows.map Row.l).Nodup) {r:Row} (hr:r ∈ rows):∃ pre post,rows = pre ++ r :: post /\ ∀ q ∈ pre,q.l ≠ r.l:=by
 obtain ⟨pre,post,rfl⟩:=List.append_of_mem hr
 refine ⟨pre,post,rfl,fun q hq e=>?_⟩
 rw [List.map_append,List.nodup_append] at hn
 exact hn.2.2 _ (List.mem_map_of_mem hq) _ (by simp) e
end K11
namespace K11
open PySem.Str (ofString)
open PySem Pu
def Part.kn:Part -> Nat
 | .word _=>0
 | .one _ _=>1
 | .number _=>2
 | .any _=>3
 | .rest _=>4
def rk (r:Row):List Int:=r.ps.map fun p=>(p.kn:Int)
abbrev lt (x y:Row):Bool:=lexI (rk x) (rk y)
theorem lt_as {x y:Row} (h:lt x y = true):lt y x = false:=by
 cases e:lt y x with
 | false=>rfl
 | true=>have:=Rd.Jt h e; rw [Rd.JR] at this; cases this
theorem JjY {x y z:Row} (h1:lt y x = false) (h2:lt z y = false):lt z x = false:=by
 cases e:lt z x with
 | false=>rfl
 | true=>
  cases f:lt x y with
  | true=>exact absurd (Rd.Jt e f) (by rw [show lexI (rk z) (rk y) = lt z y from rfl,h2]; decide)
  | false=>rw [show lt z x = lexI (rk z) (rk x) from rfl,Rd.JbN f h1] at e; rw [show lt z y = lexI (rk z) (rk y) from rfl,e] at h2; cases h2
def insR (x:Row):List Row -> List Row
 | []=>[x]
 | y :: ys=>if lt y x then y :: insR x ys else x :: y :: ys
def srt:List Row -> List Row
 | []=>[]
 | x :: xs=>insR x (srt xs)
theorem insR_mem {x z:Row}:∀ {l:List Row},z ∈ insR x l ↔ z = x \/ z ∈ l
 | []=>by simp [insR]
 | y :: l=>by
  unfold insR
  split
  ·rw [List.mem_cons,insR_mem,List.mem_cons]
   constructor
   ·rintro (h | h | h)
    ·exact .inr (.inl h)
    ·exact .inl h
    ·exact .inr (.inr h)
   ·rintro (h | h | h)
    ·exact .inr (.inl h)
    ·exact .inl h
    ·exact .inr (.inr h)
  ·rw [List.mem_cons]
theorem Jca (x:Row):∀ l:List Row,(insR x l).Perm (x :: l)
 | []=>.refl _
 | y :: l=>by
  unfold insR
  split
  ·exact ((Jca x l).cons y).trans (.swap x y l)
  ·exact .refl _
theorem JX:∀ l:List Row,(srt l).Perm l
 | []=>.refl _
 | x :: l=>(Jca x (srt l)).trans ((JX l).cons x)
theorem JcX (l:List Row):(srt l).length = l.length:=(JX l).length_eq
theorem srt_mem {l:List Row} {z:Row}:z ∈ srt l ↔ z ∈ l:=(JX l).mem_iff
def Bef (rows:List Row) (x y:Row):Prop:=∃ pre mid post,rows = pre ++ x :: (mid ++ y :: post)
def Ord (rows:List Row) (x y:Row):Prop:=lt y x = false /\ (rk x = rk y -> Bef rows x y)
theorem Ord.more {rows:List Row} {x y z:Row} (h:Ord rows x y):Ord (z :: rows) x y:=⟨h.1,fun e=>by
 obtain ⟨pre,mid,post,rfl⟩:=h.2 e
 exact ⟨z :: pre,mid,post,rfl⟩⟩
theorem JfI {rows:List Row} {x:Row}:∀ (l:List Row),(∀ y ∈ l,y ∈ rows) -> l.Pairwise (Ord (x :: rows)) -> (insR x l).Pairwise (Ord (x :: rows))
 | [],_,_=>by simp [insR]
 | y :: l,hm,h=>by
  obtain ⟨h1,h2⟩:=List.pairwise_cons.mp h
  have bef:∀ z ∈ y :: l,Bef (x :: rows) x z:=fun z hz=>by
   obtain ⟨mid,post,e⟩:=List.append_of_mem (hm z hz)
   exact ⟨[],mid,post,by rw [e]; rfl⟩
  unfold insR
  split
  ·rename_i q
   refine List.pairwise_cons.mpr ⟨fun z hz=>?_,JfI l (fun z hz=>hm z (by simp [hz])) h2⟩
   rcases insR_mem.mp hz with rfl | hz
   ·refine ⟨lt_as q,fun e=>?_⟩
    rw [show lt y z = lexI (rk y) (rk z) from rfl,e,Rd.JR] at q; cases q
   ·exact h1 z hz
  ·rename_i q
   have q:lt y x = false:=by simpa using q
   refine List.pairwise_cons.mpr ⟨fun z hz=>⟨?_,fun _=>bef z hz⟩,h⟩
   rcases List.mem_cons.mp hz with rfl | hz
   ·exact q
   ·exact JjY q (h1 z hz).1
theorem Jdb:∀ rows:List Row,(srt rows).Pairwise (Ord rows)
 | []=>.nil
 | x :: rows=>JfI (srt rows) (fun y hy=>srt_mem.mp hy) ((Jdb rows).imp Ord.more)
def stp (d:Option Row) (x:Row):Option Row:=match d with
 | none=>some x
 | some y=>if lt x y then some x else some y
theorem JdH (p:Row -> Bool) (x:Row):∀ l:List Row,l.Pairwise (fun a b=>lt b a = false) -> (insR x l).find? p = if p x then (match l.find? p with
  | none=>some x
  | some y=>if lt y x then some y else some x) else l.find? p
 | [],_=>by cases e:p x <;> simp [insR,e]
 | z :: l,h=>by
  obtain ⟨h1,h2⟩:=List.pairwise_cons.mp h
  unfold insR
  split
  ·rename_i q
   rw [List.find?_cons,List.find?_cons,JdH p x l h2]
   cases e:p z with
   | true=>
    simp only
    rw [if_pos q]; split <;> rfl
   | false=>rfl
  ·rename_i q
   have q:lt z x = false:=by simpa using q
   rw [List.find?_cons]
   cases e:p x with
   | false=>rfl
   | true=>
    simp only [if_true]
    cases f:(z :: l).find? p with
    | none=>rfl
    | some y=>
     have hy:lt y x = false:=by
      rcases List.mem_cons.mp (List.mem_of_find?_eq_some f) with rfl | hy
      ·exact q
      ·exact JjY q (h1 y hy)
     simp [hy]
theorem Jhm (p:Row -> Bool) (x:Row) (rows:List Row):(srt (x :: rows)).find? p = if p x then (match (srt rows).find? p with
  | none=>some x
  | some y=>if lt y x then some y else some x) else (srt rows).find? p:=JdH p x _ ((Jdb rows).imp fun h=>h.1)
theorem Jdq (p:Row -> Bool):∀ (rows:List Row) (d:Option Row),(rows.filter p).foldl stp d = match d,(srt rows).find? p with
  | none,m=>m
  | some d,none=>some d
  | some d,some y=>if lt y d then some y else some d
 | [],d=>by cases d <;> rfl
 | x :: rows,d=>by
  rw [Jhm,List.filter_cons]
  cases e:p x with
  | false=>
   simp only [Bool.false_eq_true,if_false]
   exact Jdq p rows d
  | true=>
   simp only [if_true,List.foldl_cons]
   rw [Jdq p rows]
   cases m:(srt rows).find? p with
   | none=>
    cases d with
    | none=>rfl
    | some d=>simp only [stp]; cases f:lt x d <;> simp
   | some y=>
    cases d with
    | none=>rfl
    | some d=>
     simp only [stp]
     cases f:lt x d with
     | true=>
      simp only [if_true]
      cases g:lt y x with
      | true=>simp [show lt y d = true from Rd.Jt g f]
      | false=>simp [f]
     | false=>
      simp only [Bool.false_eq_true,if_false]
      cases g:lt y x with
      | true=>simp
      | false=>simp [f,show lt y d = false from JjY f g]
theorem Jdx (p:Row -> Bool) (rows:List Row):(rows.filter p).foldl stp none = (srt rows).find? p:=Jdq p rows none
theorem Jga (p:Row -> Bool) (rows:List Row) (z:Row) (h:p z = true):(srt (rows ++ [z])).find? p = some z \/ (srt (rows ++ [z])).find? p = (srt rows).find? p:=by
 rw [<- Jdx,<- Jdx,List.filter_append,List.foldl_append]
 simp only [List.filter_cons,h,if_true,List.filter_nil,List.foldl_cons,List.foldl_nil]
 cases (rows.filter p).foldl stp none with
 | none=>exact .inl rfl
 | some y=>simp only [stp]; split <;> simp
def lk (ps:List Part):List Int:=(ps.map fun p=>((p.kn:Int) + 1)) ++ if lastRest ps then [] else [0]
theorem JiS:lk [] = [0]:=rfl
theorem JbP (p:Part) (ps:List Part) (h:restLast (p :: ps)):lk (p :: ps) = ((p.kn:Int) + 1) :: (if p.isRest then [] else lk ps):=by
 cases e:p.isRest with
 | true=>
  have:=h.1 e
  subst this
  simp [lk,lastRest,e]
 | false=>simp [lk,JaM p ps e]
theorem Jfl (p q:Part) (h:p.kn = q.kn):p.isRest = q.isRest:=by
 cases p <;> cases q <;> first | rfl | (simp [Part.kn] at h)
theorem Jgw:∀ ps qs:List Part,restLast ps -> restLast qs -> lexI (lk ps) (lk qs) = lexI (ps.map fun p=>(p.kn:Int)) (qs.map fun p=>(p.kn:Int))
 | [],[],_,_=>rfl
 | [],q :: qs,_,h=>by
  rw [JiS,JbP q qs h]
  simp only [lexI,List.map_cons,List.map_nil]
  rw [if_neg (by omega)]
  exact decide_eq_true (by omega)
 | p :: ps,[],h,_=>by
  rw [JiS,JbP p ps h]
  simp only [lexI,List.map_cons,List.map_nil]
  rw [if_neg (by omega)]
  exact decide_eq_false (by omega)
 | p :: ps,q :: qs,h,h'=>by
  rw [JbP p ps h,JbP q qs h',List.map_cons,List.map_cons]
  simp only [lexI]
  by_cases e:p.kn = q.kn
  ·have e1:(p.kn:Int) + 1 = (q.kn:Int) + 1:=by omega
   have e2:(p.kn:Int) = q.kn:=by omega
   rw [if_pos e1,if_pos e2,Jfl p q e]
   cases r:q.isRest with
   | true=>
    rw [h'.1 r,h.1 ((Jfl p q e).trans r)]; rfl
   | false=>exact Jgw ps qs h.2 h'.2
  ·have e1:¬ (p.kn:Int) + 1 = (q.kn:Int) + 1:=by omega
   have e2:¬ (p.kn:Int) = q.kn:=by omega
   rw [if_neg e1,if_neg e2]
   exact decide_eq_decide.mpr (by omega)
theorem lk_eq (ps qs:List Part) (h:restLast ps) (h':restLast qs) (e:lk ps = lk qs):(ps.map fun p=>(p.kn:Int)) = qs.map fun p=>(p.kn:Int):=by
 apply Rd.JbN
 ·rw [<- Jgw ps qs h h',e,Rd.JR]
 ·rw [<- Jgw qs ps h' h,e,Rd.JR]
theorem JiQ {a b c:Str} (h:ltS a b = true) (h':ltS b c = true):ltS a c = true:=decide_eq_true (List.lt_trans (of_decide_eq_true h) (of_decide_eq_true h'))
theorem Jjg {a b:Str} (h:ltS a b = true):ltS b a = false:=by
 cases e:ltS b a with
 | false=>rfl
 | true=>exact absurd (of_decide_eq_true (JiQ h e)) (List.lt_irrefl _)
theorem Jax (x y:Str × D) (hxy:ltS x.1 y.1 = true):∀ l:List (Str × D),insT x (insT y l) = insT y (insT x l)
 | []=>by simp [insT,Jjg hxy,hxy]
 | z :: l=>by
  have ih:=Jax x y hxy l
  cases e:ltS z.1 x.1 with
  | true=>simp [insT,e,JiQ e hxy,ih]
  | false=>cases f:ltS z.1 y.1 <;> simp [insT,e,f,hxy,Jjg hxy]
theorem Jhj (x y:Str × D) (h:x.1 ≠ y.1) (l:List (Str × D)):insT x (insT y l) = insT y (insT x l):=by
 cases e:ltS x.1 y.1 with
 | true=>exact Jax x y e l
 | false=>exact (Jax y x (decide_eq_true (show y.1.cps.toList < x.1.cps.toList from LtS.total (a:=x.1) (b:=y.1) (of_decide_eq_false (p:=x.1.cps.toList < y.1.cps.toList) e) h)) l).symm
theorem Jam:∀ l:List (Str × D),sortT l = l.foldr insT []
 | []=>rfl
 | x :: l=>by rw [sortT,Jam l]; rfl
theorem JeC {rows qs:List Row} (h:rows.Perm qs) (hn:(rows.map Row.l).Nodup):sortT (rows.map fun r=>(r.l,r.d)) = sortT (qs.map fun r=>(r.l,r.d)):=by
 rw [Jam,Jam]
 refine List.Perm.foldr_eq' (h.map _) ?_ _
 intro a ha b hb z
 obtain ⟨x,hx,rfl⟩:=List.mem_map.mp ha
 obtain ⟨y,hy,rfl⟩:=List.mem_map.mp hb
 by_cases e:x.l = y.l
 ·have:x = y:=by
   obtain ⟨i,hi,ei⟩:=List.getElem_of_mem hx
   obtain ⟨j,hj,ej⟩:=List.getElem_of_mem hy
   have hp:=List.pairwise_iff_getElem.mp hn
   have hij:i = j:=by
    rcases Nat.lt_trichotomy i j with q | q | q
    ·exact (hp i j (by simpa using hi) (by simpa using hj) q (by simp [ei,ej,e])).elim
    ·exact q
    ·exact (hp j i (by simpa using hj) (by simpa using hi) q (by simp [ei,ej,e])).elim
   subst hij
   rw [<- ei,<- ej]
  rw [this]
 ·exact Jhj _ _ (fun z=>e z.symm) z
theorem Jee:∀ rows:List Row,headsOf (rows.map Row.d) = some (rows.map Row.l)
 | []=>rfl
 | r :: rows=>by simp [headsOf,Row.d,Jee rows]
theorem Jhx (rows:List Row):(rows.map Row.l).zip (rows.map Row.d) = rows.map fun r=>(r.l,r.d):=by
 rw [List.zip_map',]
theorem JgB (rows:List Row) (hn:(rows.map Row.l).Nodup) (hl:rows.length <= 6):op1 .sortT (.lst (rows.map Row.d)) = .ok (.lst ((sortT (rows.map fun r=>(r.l,r.d))).map (·.2))):=by
 simp only [op1,Jee,Jhx]
 rw [if_pos ⟨hn,by simpa using hl⟩]
theorem JfV:∀ (l:List (Str × D)) (z:Str × D),z ∈ sortT l -> z ∈ l:=by
 have ins:∀ (x z:Str × D) (l:List (Str × D)),z ∈ insT x l -> z = x \/ z ∈ l:=fun x z l=>by
  induction l with
  | nil=>intro h; simpa [insT] using h
  | cons y l ih=>
   intro h
   unfold insT at h
   split at h
   ·rcases List.mem_cons.mp h with h | h
    ·exact .inr (by simp [h])
    ·rcases ih h with h | h
     ·exact .inl h
     ·exact .inr (by simp [h])
   ·exact List.mem_cons.mp h
 intro l
 induction l with
 | nil=>intro z h; exact h
 | cons x l ih=>
  intro z h
  rcases ins x z _ h with h | h
  ·simp [h]
  ·exact List.mem_cons_of_mem _ (ih z h)
end K11
namespace K11
open PySem.Str (ofString)
open PySem Pu
theorem JmA (p:Part):op2 .indexT (.tup [.str (S "word"),.str (S "one"),.str (S "number"),.str (S "any"),.str (S "rest")]) (.str p.kind) = .ok (.int p.kn):=by
 cases p <;> kernel_rfl
theorem JjU (p:Part):op2 .index (.lst [.str (S "end"),.str (S "word"),.str (S "one"),.str (S "number"),.str (S "any"),.str (S "rest")]) (.str p.kind) = .ok (.int ((p.kn:Int) + 1)):=by
 cases p <;> kernel_rfl
theorem JlW (call:CallD) (env:Fm) (p:Part):evD call (.bi .idx (.var 0) (.con (.int 0))) (some p.d :: env) = .ok (.str p.kind):=by
 cases p <;> rfl
theorem JhG (r:Row) (hl:r.ps.length <= 1000) (c:Nat):runD defs (c + 1) 7 [r.d] = .ok (.tup ((rk r).map .int)):=by
 rw [JlQ,b_rank,JcE]
 refine Jac _ _ (Jdh _ _ Part.d (fun p=>.int p.kn) (rs:=r.ps) ?_ hl fun p _=>?_) ?_
 ·simp [Row.d,Row.pd]
 ·exact Jd _ _ rfl (JlW _ _ p) (JmA p)
 ·simp [rk]
theorem JcO (c:Nat):∀ rows:List Row,(∀ r ∈ rows,r.ps.length <= 1000) -> mapR (fun d=>runD defs (c + 1) 7 [d]) (rows.map Row.d) = .ok (rows.map fun r=>.tup ((rk r).map .int))
 | [],_=>rfl
 | r :: rows,h=>by
  simp only [List.map_cons,mapR,JhG r (h r (by simp)) c,JcO c rows (fun q hq=>h q (by simp [hq])),Rs.bind_ok]
theorem JaI:∀ is:List Int,intsOf (is.map .int) = some is
 | []=>rfl
 | i :: is=>by simp [intsOf,JaI is]
theorem JdT:∀ rows:List Row,keysOf (rows.map fun r=>.tup ((rk r).map .int)) = some (rows.map rk)
 | []=>rfl
 | r :: rows=>by simp [keysOf,JaI,JdT rows]
theorem Jbp:∀ rows:List Row,sortK (rows.map fun r=>(rk r,r.d)) = (srt rows).map fun r=>(rk r,r.d)
 | []=>rfl
 | x :: rows=>by
  have ins:∀ zs:List Row,insK (rk x,x.d) (zs.map fun r=>(rk r,r.d)) = (insR x zs).map fun r=>(rk r,r.d):=fun zs=>by
   induction zs with
   | nil=>rfl
   | cons z zs ih=>
    simp only [List.map_cons,insK,insR]
    split
    ·rw [ih]; rfl
    ·rfl
  simp only [List.map_cons,sortK,srt]
  rw [Jbp rows,ins]
theorem by_ranks (rows:List Row) (h:∀ r ∈ rows,r.ps.length <= 1000) (hl:rows.length <= 6) (c:Nat):runD defs (c + 2) 8 [.tup (rows.map Row.d)] = .ok (.tup ((srt rows).map Row.d)):=by
 rw [JeG,b_by_ranks,JcE]
 refine Jac _ _ (x:=.lst ((srt rows).map Row.d)) ?_ rfl
 have hz:(rows.map rk).zip (rows.map Row.d) = rows.map fun r=>(rk r,r.d):=by rw [List.zip_map']
 simp only [evD,List.getElem?_cons_zero,Rs.bind_ok,Jkp,JfL,JcO c rows h,Rs.calm_ok,JdT,hz,Jbp,List.length_map,if_pos hl,List.map_map]
 rfl
theorem best (rows:List Row) (h:∀ r ∈ rows,r.Fine) (hl:rows.length <= 6) (a:List Str) (ha:∀ w ∈ a,w ∈ wsA) (c:Nat):runD defs (c + 6) 9 [.tup (rows.map Row.d),.tup (a.map .str)] = .ok (labD ((srt rows).find? (hit a))):=by
 rw [Jmx,b_best,JcE]
 refine Je _ _ (ds:=[.tup ((srt rows).map Row.d),.tup (a.map .str)]) (Jc _ _ (Je _ _ (ds:=[.tup (rows.map Row.d)]) rfl (by_ranks rows (fun r hr=>(h r hr).len) hl (c + 3))) rfl) ?_
 exact first (srt rows) (fun r hr=>h r (srt_mem.mp hr)) (by rw [JcX]; omega) a ha c
theorem Jiq (ps:List Part) (hl:ps.length <= 100) (c:Nat):runD defs (c + 1) 19 [.tup (ps.map Part.d)] = .ok (.lst ((lk ps).map .int)):=by
 rw [Jds,b_law_ranks,Jby _ _ (d:=.lst [.str (S "end"),.str (S "word"),.str (S "one"),.str (S "number"),.str (S "any"),.str (S "rest")]) _ rfl]
 simp only [List.set]
 rw [Jby _ _ (d:=.lst (ps.map fun p=>.int ((p.kn:Int) + 1))) _ (Jdh _ _ Part.d (fun p=>.int ((p.kn:Int) + 1)) (rs:=ps) rfl (by omega) fun p _=>Jd _ _ rfl (JlW _ _ p) (JjU p)),JcE]
 simp only [List.set]
 have hd:deps (ps.map Part.d) <= 19:=Nat.le_trans (JaR ps) (by decide)
 rw [e_if _ _ (b:=lastRest ps)]
 ·cases e:lastRest ps with
  | true=>simp [lk,e]
  | false=>
   simp only [Bool.false_eq_true,if_false]
   refine Jd _ _ rfl (Jfe _ _ (ds:=[.int 0]) rfl (by simp)) ?_
   rw [JiU _ _ (JO (by simp; omega))]
   simp [lk,e]
 ·rcases List.eq_nil_or_concat ps with rfl | ⟨qs,p,rfl⟩
  ·exact Jm _ _ (p:=false) (q:=false) (Jd _ _ rfl (Jp _ _ (ds:=[]) rfl (by simp)) (by rw [o_ne _ _ (by simp [D.dep,deps]) (by simp [D.dep,deps])]; rfl)) fun h=>by cases h
  ·have hne:op2 .ne (.tup ((qs.concat p).map Part.d)) (.tup []) = .ok (.bl true):=by
    rw [o_ne _ _ (by simp only [D.dep]; omega) (by simp [D.dep,deps])]
    simp [D.eqv,eqvs]
   have hlast:op2 .idx (.tup ((qs.concat p).map Part.d)) (.int (-1)) = .ok p.d:=by
    rw [JkE]
    simp only [List.concat_eq_append,List.map_append,List.map_cons,List.map_nil]
    rw [show atD (qs.map Part.d ++ [p.d]) (-1) = some p.d from by
     have e:((-1:Int) + ((qs.map Part.d ++ [p.d]).length:Nat)).toNat = (qs.map Part.d).length:=by rw [List.length_append]; simp; omega
     rw [atD,ixn,if_neg (by decide),if_pos (by rw [List.length_append]; simp; omega),e]
     simp]
    rfl
   have hk:(lastRest (qs.concat p)) = (p.kind == S "rest"):=by
    rw [Jab]
    simp [lastRest]
   rw [hk]
   refine Jm _ _ (p:=true) (Jd _ _ rfl (Jp _ _ (ds:=[]) rfl (by simp)) hne) fun _=>?_
   exact Jd _ _ (Jd _ _ (x:=p.d) (Jd _ _ rfl rfl hlast) rfl (by cases p <;> rfl)) rfl (Jfj _ _)
end K11
namespace K11
open PySem.Str (ofString)
open PySem Pu
def l1:Sx:=(.seq (.set false 5 (.tup (.cons (.call 19 (.cons (.bi .idx (.var 3) (.con (.int 1))) .nil)) (.cons (.bi .indexT (.var 1) (.var 3)) .nil))))
  (.ite (.bi .gtT (.var 5) (.tup (.cons (.call 19 (.cons (.bi .idx (.var 4) (.con (.int 1))) .nil)) (.cons (.bi .indexT (.var 1) (.var 4)) .nil)))) (.ret (.con (.bl false))) .skip))
def bI:Sx:=(.ite (.or (.un .isN (.var 9)) (.bi .ltL (.call 19 (.cons (.bi .idx (.var 10) (.con (.int 1))) .nil)) (.call 19 (.cons (.bi .idx (.var 9) (.con (.int 1))) .nil)))) (.set false 9 (.var 10)) .skip)
def q0:Sx:=(.set false 7 (.call 16 (.cons (.var 0) (.cons (.bi .add (.con (.int 300)) (.bi .mul (.con (.int 60)) (.var 6))) (.cons (.bi .idx (.bi .idx (.bi .add (.var 1) (.tup (.cons (.tup (.cons (.con (.str (ofString "w"))) (.cons (.tup .nil) .nil))) .nil))) (.call 11 (.cons (.var 0) (.cons (.bi .add (.con (.int 290)) (.var 6)) (.cons (.bi .add (.un .len (.var 1)) (.con (.int 1))) .nil))))) (.con (.int 1))) .nil)))))
def q1:Sx:=(.set false 8 (.comp 0 (.walk (.var 1)) (.un .notN (.call 18 (.cons (.bi .idx (.var 0) (.con (.int 1))) (.cons (.var 8) .nil)))) (.var 0)))
def q2:Sx:=(.set false 9 (.con .non))
def q3:Sx:=(.loop false [10] 0 (.walk (.var 8)) bI)
def q4:Sx:=(.set false 11 (.call 9 (.cons (.var 1) (.cons (.var 7) .nil))))
def q5:Sx:=(.ite (.or (.bi .ne (.var 11) (.ite (.un .isN (.var 9)) (.con .non) (.bi .idx (.var 9) (.con (.int 0))))) (.bi .ne (.call 6 (.cons (.var 2) (.cons (.var 7) .nil))) (.var 11))) (.ret (.con (.bl false))) .skip)
def q6:Sx:=(.ite (.and (.un .notN (.var 11)) (.bi .notin (.var 11) (.call 5 (.cons (.var 1) (.cons (.var 7) .nil))))) (.ret (.con (.bl false))) .skip)
def q7:Sx:=(.set false 12 (.un .tuple (.comp 0 (.walk (.var 7)) (.con (.bl true)) (.tup (.cons (.con (.str (ofString "word"))) (.cons (.var 0) .nil))))))
def q8:Sx:=(.ite (.and (.bi .lt (.un .len (.var 7)) (.con (.int 7))) (.bi .notin (.call 9 (.cons (.bi .add (.var 1) (.tup (.cons (.tup (.cons (.con (.str (ofString "w"))) (.cons (.var 12) .nil))) .nil))) (.cons (.var 7) .nil))) (.tup (.cons (.con (.str (ofString "w"))) (.cons (.var 11) .nil))))) (.ret (.con (.bl false))) .skip)
def l2:Sx:=(.seq q0 (.seq q1 (.seq q2 (.seq q3 (.seq q4 (.seq q5 (.seq q6 (.seq q7 q8))))))))
theorem JlJ:b_law = (.seq (.set false 1 (.call 14 (.cons (.var 0) (.cons (.con (.int 0)) (.cons (.con (.int 3)) (.cons (.con (.int 5)) .nil)))))) (.seq (.set false 2 (.call 8 (.cons (.var 1) .nil))) (.seq (.ite (.bi .ne (.un .sortT (.un .list (.var 2))) (.un .sortT (.un .list (.var 1)))) (.ret (.con (.bl false))) .skip) (.seq (.loop false [3,4] 2 (.bi .zip (.var 2) (.sl (.var 2) (.un .asI (.con (.int 1))) (.con .non))) l1) (.seq (.loop false [6] 0 (.un .range (.con (.int 6))) l2) (.ret (.con (.bl true)))))))):=rfl
theorem lmN (ps:List Part) (a:List Str) (c:Nat) (hp:∀ p ∈ ps,p.ok) (ha:∀ w ∈ a,w ∈ wsA) (hl:ps.length <= 5):runD defs (c + 10) 18 [.tup (ps.map Part.d),.tup (a.map .str)] = .ok (opt (lawM ps a)):=by
 have:=lm ps a (c + 8 - ps.length) hp ha (by omega)
 have e:c + 8 - ps.length + ps.length + 2 = c + 10:=by omega
 rwa [e] at this
theorem JbW (r:Row):r.d.dep <= 4:=by
 have:=JaR r.ps
 simp only [Row.d,Row.pd,D.dep,deps]; omega
theorem JiC (rows:List Row):deps (rows.map Row.d) <= 4:=JbV fun d hd=>by
 obtain ⟨r,_,rfl⟩:=List.mem_map.mp hd
 exact JbW r
theorem Jju (q r:Row) (h:q.l ≠ r.l):q.d.eqv r.d = false:=by
 have:(q.l == r.l) = false:=by simp [h]
 simp [Row.d,D.eqv,eqvs,this]
theorem JaZ (r:Row) (post:List Row):∀ pre:List Row,(∀ q ∈ pre,q.l ≠ r.l) -> idxD r.d ((pre ++ r :: post).map Row.d) = some pre.length
 | [],_=>by
  have:=JbW r
  simp [idxD,JdA r.d (by omega)]
 | q :: pre,h=>by
  have ih:=JaZ r post pre fun x hx=>h x (by simp [hx])
  simp only [List.cons_append,List.map_cons,idxD,Jju q r (h q (by simp)),Bool.false_eq_true,if_false,ih,Option.map_some,List.length_cons]
theorem Jev (rows:List Row) (hl:rows.length <= 1000) (r:Row) {n:Nat} (h:idxD r.d (rows.map Row.d) = some n):op2 .indexT (.tup (rows.map Row.d)) r.d = .ok (.int n):=by
 have h1:=JiC rows
 have h2:=JbW r
 simp only [op2,okDep,D.dep,h]
 rw [if_pos (by simp; omega)]
 rfl
theorem Jcl:∀ xs ys:List Row,zipD (xs.map Row.d) (ys.map Row.d) = (xs.zip ys).map fun p=>.tup [p.1.d,p.2.d]
 | [],_=>rfl
 | _ :: _,[]=>rfl
 | x :: xs,y :: ys=>by simp [zipD,Jcl xs ys]
theorem Jgb {R:Row -> Row -> Prop}:∀ {l:List Row},l.Pairwise R -> ∀ p ∈ l.zip l.tail,R p.1 p.2 /\ p.1 ∈ l /\ p.2 ∈ l
 | [],_,p,hp=>by simp at hp
 | [x],_,p,hp=>by simp at hp
 | x :: y :: l,h,p,hp=>by
  obtain ⟨h1,h2⟩:=List.pairwise_cons.mp h
  rw [List.tail_cons,List.zip_cons_cons,List.mem_cons] at hp
  rcases hp with rfl | hp
  ·exact ⟨h1 y (by simp),by simp,by simp⟩
  ·obtain ⟨a,b,c⟩:=Jgb h2 p hp
   exact ⟨a,List.mem_cons_of_mem _ b,List.mem_cons_of_mem _ c⟩
theorem Jht (xs:List D):cutD xs (some 1) none = xs.tail:=by
 cases xs with
 | nil=>rfl
 | cons x xs=>rw [cut1]; rfl
theorem Jex (ps:List Part):(lk ps).length <= ps.length + 1:=by
 unfold lk
 split <;> simp
theorem o_ltL (is js:List Int) (h1:is.length <= 1000) (h2:js.length <= 1000):op2 .ltL (.lst (is.map .int)) (.lst (js.map .int)) = .ok (.bl (lexI is js)):=by
 simp [op2,JaI,h1,h2]
theorem o_gtT (is js:List Int) (i j:Int) (h1:is.length <= 1000) (h2:js.length <= 1000):op2 .gtT (.tup [.lst (is.map .int),.int i]) (.tup [.lst (js.map .int),.int j]) = .ok (.bl (if is = js then decide (j < i) else lexI js is)):=by
 simp [op2,JaI,h1,h2]
def wRow:Row:=⟨S "w",[]⟩
abbrev Rok (rows:List Row):Prop:=∀ r ∈ rows,r.Ok 3
theorem step1 (ns:List Int) (rows:List Row) (hr:Rok rows) (hn:(rows.map Row.l).Nodup) (hl:rows.length <= 5) (c:Nat) (x y:Row) (hx:x ∈ rows) (hy:y ∈ rows) (ho:Ord rows x y) (x2 x5 x6 x7 x8 x9 x10 x11 x12:Option D) :
  ∃ y5,exD (runD defs (c + 10)) l1 [some (ofN ns),some (.tup (rows.map Row.d)),x2,some x.d,some y.d,x5,x6,x7,x8,x9,x10,x11,x12] = .ok (.nx,[some (ofN ns),some (.tup (rows.map Row.d)),x2,some x.d,some y.d,y5,x6,x7,x8,x9,x10,x11,x12]):=by
 have Kx:=hr x hx
 have Ky:=hr y hy
 have lx:=Kx.len
 have ly:=Ky.len
 have rx:=Jiq x.ps (by omega) (c + 9)
 have ry:=Jiq y.ps (by omega) (c + 9)
 obtain ⟨i,hi⟩:∃ i,idxD x.d (rows.map Row.d) = some i:=by
  obtain ⟨pre,post,e,hp⟩:=JcN hn hx
  exact ⟨pre.length,by rw [e]; exact JaZ x post pre hp⟩
 obtain ⟨j,hj⟩:∃ j,idxD y.d (rows.map Row.d) = some j:=by
  obtain ⟨pre,post,e,hp⟩:=JcN hn hy
  exact ⟨pre.length,by rw [e]; exact JaZ y post pre hp⟩
 have oi:=Jev rows (by omega) x hi
 have oj:=Jev rows (by omega) y hj
 have hgt:(if lk x.ps = lk y.ps then decide ((j:Int) < i) else lexI (lk y.ps) (lk x.ps)) = false:=by
  split
  ·rename_i e
   obtain ⟨pre,mid,post,e2⟩:=ho.2 (lk_eq x.ps y.ps Kx.rl Ky.rl e)
   have hpx:∀ q ∈ pre,q.l ≠ x.l:=by
    intro q hq z
    rw [e2,List.map_append,List.nodup_append] at hn
    exact hn.2.2 _ (List.mem_map_of_mem hq) _ (by simp) z
   have hpy:∀ q ∈ pre ++ x :: mid,q.l ≠ y.l:=by
    intro q hq z
    rw [show rows = (pre ++ x :: mid) ++ y :: post by rw [e2]; simp,List.map_append,List.nodup_append] at hn
    exact hn.2.2 _ (List.mem_map_of_mem hq) _ (by simp) z
   have h1:=JaZ x (mid ++ y :: post) pre hpx
   have h2:=JaZ y post (pre ++ x :: mid) hpy
   rw [<- e2,hi] at h1
   rw [show (pre ++ x :: mid) ++ y :: post = rows by rw [e2]; simp,hj] at h2
   simp only [Option.some.injEq] at h1 h2
   subst h1 h2
   simp; omega
  ·rw [Jgw y.ps x.ps Ky.rl Kx.rl]; exact ho.1
 refine ⟨some (.tup [.lst ((lk x.ps).map .int),.int i]),?_⟩
 have bx:=Jex x.ps
 have by_:=Jex y.ps
 unfold l1
 rw [Jdf _ _ (d:=.tup [.lst ((lk x.ps).map .int),.int i]) _ (Jp _ _ (ds:=[.lst ((lk x.ps).map .int),.int i]) (Jc _ _ (Je _ _ (ds:=[x.pd]) rfl rx) (Jc _ _ (Jd _ _ rfl rfl oi) rfl)) (by simp))]
 simp only [List.set]
 rw [JeI,Jd _ _ rfl (Jp _ _ (ds:=[.lst ((lk y.ps).map .int),.int j]) (Jc _ _ (Je _ _ (ds:=[y.pd]) rfl ry) (Jc _ _ (Jd _ _ rfl rfl oj) rfl)) (by simp)) (o_gtT _ _ _ _ (by omega) (by omega)),hgt]
 rfl
def dueD:Option Row -> D
 | none=>.non
 | some r=>r.d
theorem JlS (c:Nat) (x0 x1 x2 x3 x4 x5 x6 x7 x8 x11 x12:Option D):∀ (fs:List Row) (d:Option Row) (x10:Option D),(∀ r ∈ fs,r.Ok 3) -> (∀ r,d = some r -> r.Ok 3) ->
  ∃ y10,forL [10] 0 (exD (runD defs (c + 10)) bI) (fs.map Row.d) [x0,x1,x2,x3,x4,x5,x6,x7,x8,some (dueD d),x10,x11,x12] = .ok (.nx,[x0,x1,x2,x3,x4,x5,x6,x7,x8,some (dueD (fs.foldl stp d)),y10,x11,x12])
 | [],d,x10,_,_=>⟨x10,rfl⟩
 | r :: fs,d,x10,h,hd=>by
  have K:=h r (by simp)
  have e1:exD (runD defs (c + 10)) bI [x0,x1,x2,x3,x4,x5,x6,x7,x8,some (dueD d),some r.d,x11,x12] = .ok (.nx,[x0,x1,x2,x3,x4,x5,x6,x7,x8,some (dueD (stp d r)),some r.d,x11,x12]):=by
   cases d with
   | none=>rfl
   | some y=>
    have Ky:=hd y rfl
    have lx:=K.len
    have ly:=Ky.len
    have rx:=Jiq r.ps (by omega) (c + 9)
    have ry:=Jiq y.ps (by omega) (c + 9)
    have bx:=Jex r.ps
    have by_:=Jex y.ps
    have ho:=o_ltL (lk r.ps) (lk y.ps) (by omega) (by omega)
    rw [Jgw r.ps y.ps K.rl Ky.rl,show lexI (r.ps.map fun p=>(p.kn:Int)) (y.ps.map fun p=>(p.kn:Int)) = lt r y from rfl] at ho
    unfold bI
    rw [JeI,Jcq _ _ (p:=false) (q:=lt r y) rfl fun _=>Jd _ _ (Je _ _ (ds:=[r.pd]) rfl rx) (Je _ _ (ds:=[y.pd]) rfl ry) ho]
    simp only [stp,Bool.false_or]
    cases lt r y <;> rfl
  have hst:∀ q,stp d r = some q -> q.Ok 3:=fun q hq=>by
   cases d with
   | none=>cases hq; exact K
   | some y=>
    simp only [stp] at hq
    split at hq
    ·cases hq; exact K
    ·cases hq; exact hd _ rfl
  obtain ⟨y10,e2⟩:=JlS c x0 x1 x2 x3 x4 x5 x6 x7 x8 x11 x12 fs (stp d r) (some r.d) (fun q hq=>h q (by simp [hq])) hst
  refine ⟨y10,?_⟩
  simp only [List.map_cons,forL,bindT,if_true,Rs.bind_ok,setAll,List.set,e1,List.foldl_cons]
  exact e2
theorem Jeq:∀ a:List Str,(lawM (a.map Part.word) a).isSome = true
 | []=>rfl
 | w :: a=>by
  have:=Jeq a
  simp only [List.map_cons,lawM,Part.isRest,Part.fits,Bool.false_eq_true,if_false,beq_self_eq_true,if_true,Option.isSome_map]
  exact this
theorem JeH (a:List Str):restLast (a.map Part.word):=JaQ _ fun p hp=>by
 obtain ⟨w,_,rfl⟩:=List.mem_map.mp hp
 rfl
theorem step2 (ns:List Int) (rows:List Row) (hr:Rok rows) (hn:(rows.map Row.l).Nodup) (hl:rows.length <= 5) (k:Nat) (c:Nat) (x3 x4 x5 x7 x8 x9 x10 x11 x12:Option D) :
  ∃ y7 y8 y9 y10 y11 y12,exD (runD defs (c + 10)) l2 [some (ofN ns),some (.tup (rows.map Row.d)),some (.tup ((srt rows).map Row.d)),x3,x4,x5,some (.int k),x7,x8,x9,x10,x11,x12] = .ok (.nx,[some (ofN ns),some (.tup (rows.map Row.d)),some (.tup ((srt rows).map Row.d)),x3,x4,x5,some (.int k),y7,y8,y9,y10,y11,y12]):=by
 obtain ⟨i,hi,ei⟩:=pick ns (290 + k) ((rows.length:Int) + 1) (by omega) (by omega)
 have hW:wRow.Ok 3:=⟨by simp [wRow],trivial,by simp [wRow],by simp [wRow],by simp [wRow,holes],by simp [wRow]⟩
 have hall:∀ q ∈ rows ++ [wRow],q.Ok 3:=by
  intro q hq
  rw [List.mem_append,List.mem_singleton] at hq
  rcases hq with hq | rfl
  ·exact hr q hq
  ·exact hW
 have hadd:op2 .add (.tup (rows.map Row.d)) (.tup [.tup [.str (S "w"),.tup []]]) = .ok (.tup ((rows ++ [wRow]).map Row.d)):=by
  rw [Jhp (by simp; omega)]
  simp [Row.d,Row.pd,wRow]
 have hlen:i < ((rows ++ [wRow]).map Row.d).length:=by simp; omega
 have hat:=atN ((rows ++ [wRow]).map Row.d) i hlen
 have hq:=List.getElem_mem (l:=rows ++ [wRow]) (n:=i) (by simpa using hlen)
 rw [List.getElem_map] at hat
 generalize (rows ++ [wRow])[i]'(by simpa using hlen) = q at hat hq
 have hq:=hall q hq
 obtain ⟨a,ha9,la,ea⟩:=near ns (300 + 60 * k) (by omega) q.ps hq.ok (Nat.le_trans hq.len (by decide)) hq.rl
 have ha:∀ w ∈ a,w ∈ wsA:=fun w hw=>ws_A (ha9 w hw)
 have h60:smallI 60 = true:=by decide
 have hF:∀ r ∈ rows,r.Fine:=fun r h=>⟨(hr r h).rl,Nat.le_trans (hr r h).len (by decide)⟩
 have hS:∀ r ∈ srt rows,r.Fine:=fun r h=>hF r (srt_mem.mp h)
 have e5:=all_rows rows hF (by omega) a ha (c + 6)
 have e6:=first (srt rows) hS (by rw [JcX]; omega) a ha (c + 5)
 have e9:=best rows hF (by omega) a ha (c + 4)
 have hfil:∀ r ∈ rows.filter (hit a),r.Ok 3:=fun r h=>hr r (List.mem_filter.mp h).1
 obtain ⟨y10,eL⟩:=JlS c (some (ofN ns)) (some (.tup (rows.map Row.d))) (some (.tup ((srt rows).map Row.d))) x3 x4 x5 (some (.int k)) (some (.tup (a.map .str))) (some (.lst ((rows.filter (hit a)).map Row.d))) x11 x12 (rows.filter (hit a)) none x10 hfil (fun r h=>by cases h)
 rw [Jdx] at eL
 generalize hm:(srt rows).find? (hit a) = m at eL e6 e9
 have ea:=ea (c + 6)
 have ei:=ei (c + 8)
 refine ⟨some (.tup (a.map .str)),some (.lst ((rows.filter (hit a)).map Row.d)),some (dueD m),y10,some (labD m),some (.tup ((a.map Part.word).map Part.d)),?_⟩
 unfold l2
 rw [show q0 = .set false 7 (match q0 with | .set _ _ e=>e | _=>.nil) from rfl,Jdf _ _ (d:=.tup (a.map .str)) _ (by
  refine Je _ _ (ds:=[ofN ns,.int (300 + 60 * k),q.pd]) ?_ ea
  refine Jc _ _ rfl (Jc _ _ (by simp [h60]) (Jc _ _ ?_ rfl))
  refine Jd _ _ (x:=q.d) (y:=.int 1) ?_ rfl rfl
  refine Jd _ _ (x:=.tup ((rows ++ [wRow]).map Row.d)) (y:=.int i) ?_ ?_ (by simp only [op2,hat]; rfl)
  ·exact Jd _ _ rfl rfl hadd
  ·simp [ei])]
 simp only [List.set]
 have hM:∀ r ∈ rows,runD defs (c + 10) 18 [r.pd,.tup (a.map .str)] = .ok (opt (lawM r.ps a)):=fun r h=>lmN r.ps a c (hr r h).ok ha (Nat.le_trans (hr r h).len (by decide))
 rw [show q1 = .set false 8 (match q1 with | .set _ _ e=>e | _=>.nil) from rfl,Jdf _ _ (d:=.lst ((rows.filter (hit a)).map Row.d)) _ (by
  refine Jdy _ _ Row.d (hit a) Row.d (rs:=rows) rfl (by omega) fun r h=>⟨?_,fun _=>rfl⟩
  have h5:op1 .notN (opt (lawM r.ps a)) = .ok (.bl (hit a r)):=by
   unfold hit
   cases lawM r.ps a <;> rfl
  exact Jac _ _ (Je _ _ (ds:=[r.pd,.tup (a.map .str)]) rfl (hM r h)) h5)]
 simp only [List.set]
 rw [show q2 = .set false 9 (.con .non) from rfl,Jdf _ _ (d:=.non) _ rfl]
 simp only [List.set]
 rw [JkL _ _ (a:=q3) _ (env2:=[some (ofN ns),some (.tup (rows.map Row.d)),some (.tup ((srt rows).map Row.d)),x3,x4,x5,some (.int k),some (.tup (a.map .str)),some (.lst ((rows.filter (hit a)).map Row.d)),some (dueD m),y10,x11,x12]) (by
  unfold q3
  rw [JfP]
  exact eL)]
 rw [show q4 = .set false 11 (match q4 with | .set _ _ e=>e | _=>.nil) from rfl,Jdf _ _ (d:=labD m) _ (by exact Je _ _ (ds:=[.tup (rows.map Row.d),.tup (a.map .str)]) rfl e9)]
 simp only [List.set]
 have hd:(labD m).dep <= 20:=by cases m <;> simp [labD,D.dep]
 have hself:=Jgq (labD m) hd
 rw [show q5 = .ite (match q5 with | .ite e _ _=>e | _=>.nil) (.ret (.con (.bl false))) .skip from rfl,JgG _ _ _ _ (by
  refine Jcq _ _ (p:=false) (q:=false) (Jd _ _ (x:=labD m) (y:=labD m) rfl ?_ hself) fun _=>Jd _ _ (Je _ _ (ds:=[.tup ((srt rows).map Row.d),.tup (a.map .str)]) rfl e6) rfl hself
  cases m <;> rfl)]
 have hin:∀ r,m = some r -> r ∈ rows.filter (hit a):=fun r h=>by
  subst h
  exact List.mem_filter.mpr ⟨srt_mem.mp (List.mem_of_find?_eq_some hm),List.find?_some hm⟩
 rw [show q6 = .ite (match q6 with | .ite e _ _=>e | _=>.nil) (.ret (.con (.bl false))) .skip from rfl,JgG _ _ _ _ (by
  cases hmm:m with
  | none=>exact Jm _ _ (p:=false) (q:=false) rfl fun h=>by cases h
  | some r=>
   refine Jm _ _ (p:=true) (q:=false) rfl fun _=>Jd _ _ (x:=.str r.l) rfl (Je _ _ (ds:=[.tup (rows.map Row.d),.tup (a.map .str)]) rfl e5) ?_
   have hdl:deps ((rows.filter (hit a)).map fun r=>D.str r.l) <= 19:=JbV fun d hd=>by
    obtain ⟨r,_,rfl⟩:=List.mem_map.mp hd
    simp [D.dep]
   rw [JkT _ _ hdl (by simp [D.dep])]
   have:(((rows.filter (hit a)).map fun r=>D.str r.l).any fun d=>d.eqv (.str r.l)) = true:=List.any_eq_true.mpr ⟨.str r.l,List.mem_map.mpr ⟨r,hin r hmm,rfl⟩,by simp [D.eqv]⟩
   rw [this]; rfl)]
 rw [show q7 = .set false 12 (match q7 with | .set _ _ e=>e | _=>.nil) from rfl,Jdf _ _ (d:=.tup ((a.map Part.word).map Part.d)) _ (by
  refine Jac _ _ (Jdh _ _ D.str (fun w=>(Part.word w).d) (rs:=a) rfl (by omega) fun w _=>Jp _ _ (ds:=[.str (S "word"),.str w]) rfl (by simp)) ?_
  simp)]
 simp only [List.set]
 let z:Row:=⟨S "w",a.map Part.word⟩
 have hz:hit a z = true:=Jeq a
 have hFz:∀ r ∈ rows ++ [z],r.Fine:=fun r h=>by
  rw [List.mem_append,List.mem_singleton] at h
  rcases h with h | rfl
  ·exact hF r h
  ·exact ⟨JeH a,by show (a.map Part.word).length <= 1000; rw [List.length_map]; omega⟩
 have ez:=best (rows ++ [z]) hFz (by simp; omega) a ha (c + 4)
 have hor:=Jga (hit a) rows z hz
 rw [hm] at hor
 have haddz:op2 .add (.tup (rows.map Row.d)) (.tup [.tup [.str (S "w"),.tup ((a.map Part.word).map Part.d)]]) = .ok (.tup ((rows ++ [z]).map Row.d)):=by
  rw [Jhp (by simp; omega),List.map_append]
  rfl
 rw [show q8 = .ite (match q8 with | .ite e _ _=>e | _=>.nil) (.ret (.con (.bl false))) .skip from rfl,JeI,show ∀ env:Fm,env = [some (ofN ns),some (.tup (rows.map Row.d)),some (.tup ((srt rows).map Row.d)),x3,x4,x5,some (.int k),some (.tup (a.map .str)),some (.lst ((rows.filter (hit a)).map Row.d)),some (dueD m),y10,some (labD m),some (.tup ((a.map Part.word).map Part.d))] -> evD (runD defs (c + 10)) (match q8 with | .ite e _ _=>e | _=>.nil) env = .ok (.bl false) from fun env henv=>by
  subst henv
  have e1:=Jm (runD defs (c + 10)) [some (ofN ns),some (.tup (rows.map Row.d)),some (.tup ((srt rows).map Row.d)),x3,x4,x5,some (.int k),some (.tup (a.map .str)),some (.lst ((rows.filter (hit a)).map Row.d)),some (dueD m),y10,some (labD m),some (.tup ((a.map Part.word).map Part.d))] (p:=decide ((a.length:Int) < 7)) (q:=false) (a:=.bi .lt (.un .len (.var 7)) (.con (.int 7))) (b:=match q8 with | .ite (.and _ e) _ _=>e | _=>.nil) (Jd _ _ (Jac _ _ rfl (JkZ _)) rfl (by rw [List.length_map]; exact o_lt _ _)) fun _=>by
   refine Jd _ _ (Je _ _ (ds:=[.tup ((rows ++ [z]).map Row.d),.tup (a.map .str)]) (Jc _ _ (Jd _ _ rfl (Jp _ _ (ds:=[.tup [.str (S "w"),.tup ((a.map Part.word).map Part.d)]]) rfl (by simp)) haddz) rfl) ez) (Jp _ _ (ds:=[.str (S "w"),labD m]) rfl (by simp)) ?_
   have hdd:(labD ((srt (rows ++ [z])).find? (hit a))).dep <= 20:=by cases (srt (rows ++ [z])).find? (hit a) <;> simp [labD,D.dep]
   rw [JiW _ _ (by simp only [deps,D.dep]; cases m <;> simp [labD,D.dep]) hdd]
   rcases hor with h | h
   ·rw [h]
    simp [labD,D.eqv,z]
   ·rw [h]
    simp [JdA (labD m) (by omega)]
  rw [Bool.and_false] at e1
  exact e1]
 ·rfl
 ·rfl
theorem Jhu (ns:List Int) (c:Nat):runD defs (c + 11) 20 [ofN ns] = .ok (.bl true):=by
 obtain ⟨rows,hr,hlab,hl,et⟩:=table ns 0 (by decide) 3 (by decide) 5 (by decide)
 have hn:(rows.map Row.l).Nodup:=by rw [hlab]; exact labs_nodup.sublist (List.take_sublist _ _)
 have hF:∀ r ∈ rows,r.ps.length <= 1000:=fun r h=>Nat.le_trans (hr r h).len (by decide)
 have et:∀ c,runD defs (c + 5) 14 [ofN ns,.int 0,.int 3,.int 5] = .ok (.tup (rows.map Row.d)):=et
 have eb:=by_ranks rows hF (by omega) (c + 8)
 have hns:((srt rows).map Row.l).Nodup:=((JX rows).map Row.l).nodup_iff.mpr hn
 have s1:=JgB rows hn (by omega)
 have s2:=JgB (srt rows) hns (by rw [JcX]; omega)
 rw [JeC (JX rows) hns] at s2
 have hsd:(D.lst ((sortT (rows.map fun r=>(r.l,r.d))).map (·.2))).dep <= 20:=by
  have:deps ((sortT (rows.map fun r=>(r.l,r.d))).map (·.2)) <= 4:=JbV fun d hd=>by
   obtain ⟨p,hp,rfl⟩:=List.mem_map.mp hd
   obtain ⟨r,_,rfl⟩:=List.mem_map.mp (JfV _ _ hp)
   exact JbW r
  simp only [D.dep]; omega
 obtain ⟨env1,⟨y3,y4,y5,rfl⟩,h1⟩:=JbH [3,4] 2 (exD (runD defs (c + 10)) l1) (fun p:Row × Row=>D.tup [p.1.d,p.2.d]) (fun env=>∃ y3 y4 y5,env = [some (ofN ns),some (.tup (rows.map Row.d)),some (.tup ((srt rows).map Row.d)),y3,y4,y5,none,none,none,none,none,none,none]) ((srt rows).zip (srt rows).tail) [some (ofN ns),some (.tup (rows.map Row.d)),some (.tup ((srt rows).map Row.d)),none,none,none,none,none,none,none,none,none,none] ⟨_,_,_,rfl⟩ (by
  rintro p hp _ ⟨z3,z4,z5,rfl⟩
  obtain ⟨ho,hx,hy⟩:=Jgb (Jdb rows) p hp
  obtain ⟨z,e⟩:=step1 ns rows hr hn hl c p.1 p.2 (srt_mem.mp hx) (srt_mem.mp hy) ho (some (.tup ((srt rows).map Row.d))) z5 none none none none none none none
  exact ⟨[some p.1.d,some p.2.d],rfl,_,⟨_,_,_,rfl⟩,.inl e⟩)
 obtain ⟨env2,⟨y6,y7,y8,y9,y10,y11,y12,rfl⟩,h2⟩:=JbH [6] 0 (exD (runD defs (c + 10)) l2) (fun k:Nat=>D.int k) (fun env=>∃ y6 y7 y8 y9 y10 y11 y12,env = [some (ofN ns),some (.tup (rows.map Row.d)),some (.tup ((srt rows).map Row.d)),y3,y4,y5,y6,y7,y8,y9,y10,y11,y12]) (List.range' 0 6) [some (ofN ns),some (.tup (rows.map Row.d)),some (.tup ((srt rows).map Row.d)),y3,y4,y5,none,none,none,none,none,none,none] ⟨_,_,_,_,_,_,_,rfl⟩ (by
  rintro k _ _ ⟨z6,z7,z8,z9,z10,z11,z12,rfl⟩
  obtain ⟨w7,w8,w9,w10,w11,w12,e⟩:=step2 ns rows hr hn hl k c y3 y4 y5 z7 z8 z9 z10 z11 z12
  exact ⟨[some (.int k)],rfl,_,⟨_,_,_,_,_,_,_,rfl⟩,.inl e⟩)
 rw [r_law,JlJ,Jby _ _ (d:=.tup (rows.map Row.d)) _ (Je _ _ rfl (et (c + 5)))]
 simp only [List.set]
 rw [Jby _ _ (d:=.tup ((srt rows).map Row.d)) _ (Je _ _ (ds:=[.tup (rows.map Row.d)]) rfl eb)]
 simp only [List.set]
 rw [JG _ _ (p:=false) _ _ (Jd _ _ (Jac _ _ (Jac _ _ rfl (Jfq _)) s2) (Jac _ _ (Jac _ _ rfl (Jfq _)) s1) (Jgq _ hsd)),if_neg (by decide)]
 rw [JiT _ _ _ (env2:=[some (ofN ns),some (.tup (rows.map Row.d)),some (.tup ((srt rows).map Row.d)),y3,y4,y5,none,none,none,none,none,none,none]) (by
  rw [JfP,Jd _ _ (x:=.tup ((srt rows).map Row.d)) (y:=.tup (((srt rows).tail).map Row.d)) rfl (by
   simp only [e_sl,JgZ,List.getElem?_cons_zero,List.getElem?_cons_succ,Rs.bind_ok,e_un,e_con,o_asI,JgI,Jgg,Jht,List.map_tail]) (Jjt _ _),Jcl]
  exact h1)]
 rw [JiT _ _ _ (env2:=[some (ofN ns),some (.tup (rows.map Row.d)),some (.tup ((srt rows).map Row.d)),y3,y4,y5,y6,y7,y8,y9,y10,y11,y12]) (by
  rw [JfP,Jac _ _ (x:=.int 6) rfl (JhX 6 (by decide))]
  exact h2)]
 rw [JcE]
 rfl
end K11
namespace K11
open PySem.Str (ofString)
open PySem PySem.Spec PyProof.Rows L2 Pu Rd
abbrev row:Program:=PySem.Challenge.pw_routeboard_k11_whole_best
def stAt (i:Nat):Stmt:=row.main.body.getD i (.Pass ⟨0,0,0,0⟩)
abbrev s_has_rest:Stmt:=stAt 2
abbrev N_has_rest:List Str:=[(ofString "pattern")]
abbrev s_writes_number:Stmt:=stAt 3
abbrev N_writes_number:List Str:=[(ofString "word")]
abbrev s_lets_by:Stmt:=stAt 4
abbrev N_lets_by:List Str:=[(ofString "part"),(ofString "word")]
abbrev s_has_fitting_length:Stmt:=stAt 5
abbrev N_has_fitting_length:List Str:=[(ofString "pattern"),(ofString "many")]
abbrev s_does_match:Stmt:=stAt 6
abbrev N_does_match:List Str:=[(ofString "pattern"),(ofString "address")]
abbrev s_all_rows:Stmt:=stAt 9
abbrev N_all_rows:List Str:=[(ofString "table"),(ofString "address")]
abbrev s_first:Stmt:=stAt 10
abbrev N_first:List Str:=[(ofString "table"),(ofString "address"),(ofString "labels")]
abbrev s_rank:Stmt:=stAt 11
abbrev N_rank:List Str:=[(ofString "row")]
abbrev s_by_ranks:Stmt:=stAt 12
abbrev N_by_ranks:List Str:=[(ofString "table")]
abbrev s_best:Stmt:=stAt 13
abbrev N_best:List Str:=[(ofString "table"),(ofString "address")]
abbrev s_law_cell:Stmt:=stAt 15
abbrev N_law_cell:List Str:=[(ofString "_law_script"),(ofString "_law_k")]
abbrev s_law_pick:Stmt:=stAt 16
abbrev N_law_pick:List Str:=[(ofString "_law_script"),(ofString "_law_k"),(ofString "_law_many"),(ofString "_law_drawn")]
abbrev s_law_part:Stmt:=stAt 17
abbrev N_law_part:List Str:=[(ofString "_law_script"),(ofString "_law_at"),(ofString "_law_name"),(ofString "_law_pool"),(ofString "_law_way"),(ofString "_law_some")]
abbrev s_law_pattern:Stmt:=stAt 18
abbrev N_law_pattern:List Str:=[(ofString "_law_script"),(ofString "_law_at"),(ofString "_law_most"),(ofString "_law_names"),(ofString "_law_made")]
abbrev s_law_table:Stmt:=stAt 19
abbrev N_law_table:List Str:=[(ofString "_law_script"),(ofString "_law_at"),(ofString "_law_most"),(ofString "_law_rows"),(ofString "_law_labels"),(ofString "_law_many")]
abbrev s_law_any_word:Stmt:=stAt 20
abbrev N_law_any_word:List Str:=[(ofString "_law_script"),(ofString "_law_at")]
abbrev s_law_near:Stmt:=stAt 21
abbrev N_law_near:List Str:=[(ofString "_law_script"),(ofString "_law_at"),(ofString "_law_pattern_here"),(ofString "_law_made"),(ofString "_law_k"),(ofString "_law_part_here"),(ofString "_law_way")]
abbrev s_law_is_number:Stmt:=stAt 22
abbrev N_law_is_number:List Str:=[(ofString "_law_word")]
abbrev s_law_matched:Stmt:=stAt 23
abbrev N_law_matched:List Str:=[(ofString "_law_pattern_here"),(ofString "_law_address"),(ofString "_law_part_here"),(ofString "_law_word"),(ofString "_law_rest")]
abbrev s_law_ranks:Stmt:=stAt 24
abbrev N_law_ranks:List Str:=[(ofString "_law_pattern_here"),(ofString "_law_words"),(ofString "_law_ranks_here")]
abbrev s_law:Stmt:=stAt 25
abbrev N_law:List Str:=[(ofString "_law_script"),(ofString "_law_table_here"),(ofString "_law_order"),(ofString "_law_one"),(ofString "_law_other"),(ofString "_law_mine"),(ofString "_law_k"),(ofString "_law_address"),(ofString "_law_some"),(ofString "_law_due"),(ofString "_law_row"),(ofString "_law_told"),(ofString "_law_exact")]
structure Env (G:Gw) (call:CallD):Prop where
 f_has_rest:Callee G call 0 (ofString "has_rest")
 f_writes_number:Callee G call 1 (ofString "writes_number")
 f_lets_by:Callee G call 2 (ofString "lets_by")
 f_has_fitting_length:Callee G call 3 (ofString "has_fitting_length")
 f_does_match:Callee G call 4 (ofString "does_match")
 f_all_rows:Callee G call 5 (ofString "all_rows")
 f_first:Callee G call 6 (ofString "first")
 f_rank:Callee G call 7 (ofString "rank")
 f_by_ranks:Callee G call 8 (ofString "by_ranks")
 f_best:Callee G call 9 (ofString "best")
 f_law_cell:Callee G call 10 (ofString "_law_cell")
 f_law_pick:Callee G call 11 (ofString "_law_pick")
 f_law_part:Callee G call 12 (ofString "_law_part")
 f_law_pattern:Callee G call 13 (ofString "_law_pattern")
 f_law_table:Callee G call 14 (ofString "_law_table")
 f_law_any_word:Callee G call 15 (ofString "_law_any_word")
 f_law_near:Callee G call 16 (ofString "_law_near")
 f_law_is_number:Callee G call 17 (ofString "_law_is_number")
 f_law_matched:Callee G call 18 (ofString "_law_matched")
 f_law_ranks:Callee G call 19 (ofString "_law_ranks")
 f_law:Callee G call 20 (ofString "law")
 b_all:G.mg (ofString "all") = none
 b_enumerate:G.mg (ofString "enumerate") = none
 b_int:G.mg (ofString "int") = none
 b_len:G.mg (ofString "len") = none
 b_list:G.mg (ofString "list") = none
 b_range:G.mg (ofString "range") = none
 b_set:G.mg (ofString "set") = none
 b_sorted:G.mg (ofString "sorted") = none
 b_tuple:G.mg (ofString "tuple") = none
 b_zip:G.mg (ofString "zip") = none
 c_FIGURES:GlobC G (ofString "FIGURES") (.str (ofString "0123456789"))
 c_RANKED_KINDS:GlobC G (ofString "RANKED_KINDS") (.tup [(.str (ofString "word")),(.str (ofString "one")),(.str (ofString "number")),(.str (ofString "any")),(.str (ofString "rest"))])
section
variable {X:Cx} {G:Gw} {call:CallD} {H0:Hp}
set_option hygiene false in
local macro_rules
| `(tactic| sleep 1)=>`(tactic| first
 | with_reducible refine @vV _ _ _ _ _ _ _ C _ ?_
 | with_reducible refine @JQ _ _ _ _ _ _ ?_ ?_ ?_
 | with_reducible refine @Jbw _ _
 | with_reducible refine @Jlr _ _ _ _ _
 | with_reducible refine @JkN _ _ _ _ _
 | with_reducible refine @pI_bl _ _ _ _ _
 | with_reducible refine @Jmp _ _ _ _
 | with_reducible refine @JlX _ _ _ _ _ _ ?_
 | with_reducible refine @Jjq _ _ _ _ _ _ _ _ ?_ ?_
 | with_reducible refine @JmJ _ _ _ _
 | with_reducible refine @JmI _ _ _ _ _ _ _ ?_
 | with_reducible refine @sS_if _ _ _ _ _ _ _ _ _ _ _ ?_ ?_ ?_
 | with_reducible refine @cF _ _ _ _ _ _ _ _ _ _ _ C _ ?_ ?_ ?_ ?_ ?_
 | with_reducible refine @eIx _ _ _ _ _ _ _ ?_ ?_ ?_
 | with_reducible refine @JhF _ _ _ _ _ _ _ _ _ _ ?_ ?_ ?_
 | with_reducible refine @eAdd _ _ _ _ _ _ _ ?_ ?_
 | with_reducible refine @eSub _ _ _ _ _ _ _ ?_ ?_
 | with_reducible refine @eMul _ _ _ _ _ _ _ ?_ ?_
 | with_reducible refine @eMod _ _ _ _ _ _ _ ?_ ?_
 | with_reducible refine @eDiv _ _ _ _ _ _ _ ?_ ?_
 | with_reducible refine @JlR _ _ _ _ _ _ ?_
 | with_reducible refine @cSrt _ _ _ _ _ _ _ _ _ _ _ _ _ C ?_ ?_ ?_ ?_ ?_ ?_
 | with_reducible refine @cIdxT _ _ _ _ _ _ _ _ _ _ _ C ?_ ?_ ?_ ?_ ?_ ?_
 | with_reducible refine @tLtL _ _ _ _ _ _ _ _ _ _ C ?_ ?_
 | with_reducible refine @tGtT _ _ _ _ _ _ _ _ _ _ C ?_ ?_
 | with_reducible refine @cSrtT _ _ _ _ _ _ _ _ _ C ?_ ?_ ?_ ?_
 | with_reducible refine @aApp _ _ _ _ _ _ _ _ _ _ _ _ _ _ _ C ?_ ?_ ?_ ?_ ?_
 | with_reducible refine @aExt _ _ _ _ _ _ _ _ _ _ _ _ _ _ _ C ?_ ?_ ?_ ?_ ?_
 | with_reducible refine @aOwnC _ _ _ _ _ _ _ _ _ _ _ _ _ _ _ _ _ _ _ _ _ C ?_ ?_ ?_ ?_ ?_ ?_ ?_
 | with_reducible refine @aOwn _ _ _ _ _ _ _ _ _ _ _ _ _ C ?_ ?_ ?_
 | with_reducible refine @aSetC _ _ _ _ _ _ _ _ _ _ _ _ _ _ _ _ _ _ _ _ _ C ?_ ?_ ?_ ?_ ?_ ?_ ?_ ?_
 | with_reducible refine @aSet _ _ _ _ _ _ _ _ _ _ _ _ _ C ?_ ?_ ?_ ?_
 | with_reducible refine @cAll _ _ _ _ _ _ _ _ _ C E.b_all ?_ ?_ ?_
 | with_reducible refine @cInt _ _ _ _ _ _ _ _ _ C E.b_int ?_ ?_ ?_
 | with_reducible refine @cLen _ _ _ _ _ _ _ _ _ C E.b_len ?_ ?_ ?_
 | with_reducible refine @cList _ _ _ _ _ _ _ _ _ C E.b_list ?_ ?_ ?_
 | with_reducible refine @Jlh _ _ _ _ _ _ _ _ _ C E.b_tuple ?_ ?_ ?_
 | with_reducible refine @eEq _ _ _ _ _ _ _ _ _ _ C ?_ ?_
 | with_reducible refine @eGe _ _ _ _ _ _ _ ?_ ?_
 | with_reducible refine @eGt _ _ _ _ _ _ _ ?_ ?_
 | with_reducible refine @eIn _ _ _ _ _ _ _ _ _ _ C ?_ ?_ ?_
 | with_reducible refine @eNe _ _ _ _ _ _ _ _ _ _ C ?_ ?_
 | with_reducible refine @fComp _ _ _ _ _ _ _ _ _ _ _ _ _ _ _ C ?_ ?_ ?_ ?_ ?_ ?_
 | with_reducible refine @Jli _ _ _ _ _ ?_
 | with_reducible refine @Jme _ _ _ _ _ _ _ _ ?_ ?_
 | with_reducible refine @pI_if _ _ _ _ _ _ _ _ _ ?_ ?_ ?_
 | with_reducible refine @JkC _ _ _ _ _ ?_
 | with_reducible refine @JlD _ _ _ _ _ ?_
 | with_reducible refine @Jly _ _ _ _ _ _ ?_
 | with_reducible refine @pI_or _ _ _ _ _ _ _ _ ?_ ?_
 | with_reducible refine @Jjo _ _ _ _ _ _ _ _ _ _ _ C ?_ ?_ ?_ ?_ ?_ ?_
 | with_reducible refine @JfR _ _ _ _ _ _ _ _ ?_ ?_ ?_ ?_ ?_ ?_
 | with_reducible refine @Jkz _ _
 | with_reducible refine @JjD _ _ _ _ ?_
 | with_reducible refine @JlO _ _ _ _ _ _ _ ?_
 | with_reducible refine @JkQ _ _ _ _ _ ?_
 | with_reducible refine @JjW _ _ _ _ _ _ _ ?_
 | with_reducible refine @Jmc _ _ _ _ _ _ _ _ ?_ ?_
 | with_reducible refine @JjH _ _ _ _ _ _ _ _ _ _ _ _ C ?_ ?_ ?_ ?_
 | with_reducible refine @Jmg _ _ _ _ _ _ ?_
 | with_reducible refine @pW_or _ _ _ _ _ _ _ _ ?_ ?_
 | with_reducible refine @JgQ _ _ _ _ _ _ _ _ _ _ C ?_ ?_ ?_ ?_
 | with_reducible refine @JmG _ _ _ _ _ _ ?_
 | with_reducible refine @JkD _ _ _ _ _ _ _ _ _ _ _ _ _ _ C ?_ ?_ ?_ ?_ ?_ ?_
 | with_reducible refine @Jko _ _
 | with_reducible refine @Jkj _ _ _ _ ?_
 | with_reducible refine @Jlc _ _ _ _ _ _ _ _ _ _ _ _ _ _ _ C ?_ ?_ ?_ ?_ ?_ ?_
 | with_reducible refine @tEq _ _ _ _ _ _ _ _ _ _ C ?_ ?_
 | with_reducible refine @tGt _ _ _ _ _ _ _ ?_ ?_
 | with_reducible refine @tLt _ _ _ _ _ _ _ ?_ ?_
 | with_reducible refine @tNe _ _ _ _ _ _ _ _ _ _ C ?_ ?_
 | with_reducible refine @tNi _ _ _ _ _ _ _ _ _ _ C ?_ ?_ ?_
 | with_reducible refine @vG _ _ _ _ _ _ _ C _ ?_ ?_
 | with_reducible refine @JkS _ _ _ _ _ _ _ _ _ _ _ C ?_ ?_ ?_ ?_ ?_ ?_
 | with_reducible refine @JiG _ _ _ _ ?_ ?_
 | with_reducible refine @JlA _ _ _ _ ?_ ?_
 | with_reducible refine @PW.pt _ _ _ ?_
 | ((with_reducible show _ = _); first | exact dk | exact rfl | (first | exact E.b_all | exact E.b_enumerate | exact E.b_int | exact E.b_len | exact E.b_list | exact E.b_range | exact E.b_set | exact E.b_sorted | exact E.b_tuple | exact E.b_zip))
 | ((with_reducible show True); exact True.intro)
 | ((with_reducible show _ = true -> NoKT _); first | (intro _; exact E.k_T) | (intro z; cases z))
 | ((with_reducible show NoKT _); exact E.k_T)
 | ((with_reducible show ExcC _ _); fail)
 | ((with_reducible show Takes _ _ _); fail)
 | ((with_reducible show IsaC _ _ _); fail)
 | with_reducible intro _ C
 | ((with_reducible intro _); exact rfl)
 | ((with_reducible show _ ≠ _); exact dk)
 | ((with_reducible show _ <= _); exact dk)
 | ((with_reducible show PlainIx _); intro _ _; exact rfl)
 | ((with_reducible show NoSl _); intro _ _; exact rfl)
 | ((with_reducible show OpR _ _ _); first | exact JkH | exact JiO | exact Jjh | exact Jgl)
 | ((with_reducible show Callee _ _ _ _); first | exact E.f_has_rest | exact E.f_writes_number | exact E.f_lets_by | exact E.f_has_fitting_length | exact E.f_does_match | exact E.f_all_rows | exact E.f_first | exact E.f_rank | exact E.f_by_ranks | exact E.f_best | exact E.f_law_cell | exact E.f_law_pick | exact E.f_law_part | exact E.f_law_pattern | exact E.f_law_table | exact E.f_law_any_word | exact E.f_law_near | exact E.f_law_is_number | exact E.f_law_matched | exact E.f_law_ranks | exact E.f_law)
 | ((with_reducible show GlobC _ _ _); first | exact E.c_FIGURES | exact E.c_RANKED_KINDS)
 | ((with_reducible show TgOk _ _ _ _); first | exact gOne C dk | exact gTwo C dk dk)
 | ((with_reducible show PG _ _ _); first | exact lOne C dk | exact lTwo C dk dk | exact Jlq C dk dk dk)
 | with_reducible exact hx.pass)
theorem JeW (E:Env G call) (C:Ctx X G N_has_rest (defScope s_has_rest).names) (hx:HX X (defScope s_has_rest).names):PSs X (defBody s_has_rest) (tS X call [] H0 b_has_rest):=by
 conv=>(arg 2; whnf)
 conv=>(arg 3; arg 5; whnf)
 repeat' sleep 1
theorem JaN (E:Env G call) (C:Ctx X G N_writes_number (defScope s_writes_number).names) (hx:HX X (defScope s_writes_number).names):PSs X (defBody s_writes_number) (tS X call [] H0 b_writes_number):=by
 conv=>(arg 2; whnf)
 conv=>(arg 3; arg 5; whnf)
 repeat' sleep 1
theorem Jgt (E:Env G call) (C:Ctx X G N_lets_by (defScope s_lets_by).names) (hx:HX X (defScope s_lets_by).names):PSs X (defBody s_lets_by) (tS X call [] H0 b_lets_by):=by
 conv=>(arg 2; whnf)
 conv=>(arg 3; arg 5; whnf)
 repeat' sleep 1
theorem JL (E:Env G call) (C:Ctx X G N_has_fitting_length (defScope s_has_fitting_length).names) (hx:HX X (defScope s_has_fitting_length).names):PSs X (defBody s_has_fitting_length) (tS X call [] H0 b_has_fitting_length):=by
 conv=>(arg 2; whnf)
 conv=>(arg 3; arg 5; whnf)
 repeat' sleep 1
theorem Jcf (E:Env G call) (C:Ctx X G N_does_match (defScope s_does_match).names) (hx:HX X (defScope s_does_match).names):PSs X (defBody s_does_match) (tS X call [] H0 b_does_match):=by
 conv=>(arg 2; whnf)
 conv=>(arg 3; arg 5; whnf)
 repeat' sleep 1
theorem JeN (E:Env G call) (C:Ctx X G N_all_rows (defScope s_all_rows).names) (hx:HX X (defScope s_all_rows).names):PSs X (defBody s_all_rows) (tS X call [] H0 b_all_rows):=by
 conv=>(arg 2; whnf)
 conv=>(arg 3; arg 5; whnf)
 repeat' sleep 1
theorem Jkn (E:Env G call) (C:Ctx X G N_first (defScope s_first).names) (hx:HX X (defScope s_first).names):PSs X (defBody s_first) (tS X call [] H0 b_first):=by
 conv=>(arg 2; whnf)
 conv=>(arg 3; arg 5; whnf)
 repeat' sleep 1
theorem Jmy (E:Env G call) (C:Ctx X G N_rank (defScope s_rank).names) (hx:HX X (defScope s_rank).names):PSs X (defBody s_rank) (tS X call [] H0 b_rank):=by
 conv=>(arg 2; whnf)
 conv=>(arg 3; arg 5; whnf)
 repeat' sleep 1
theorem JeY (E:Env G call) (C:Ctx X G N_by_ranks (defScope s_by_ranks).names) (hx:HX X (defScope s_by_ranks).names):PSs X (defBody s_by_ranks) (tS X call [] H0 b_by_ranks):=by
 conv=>(arg 2; whnf)
 conv=>(arg 3; arg 5; whnf)
 repeat' sleep 1
theorem JlU (E:Env G call) (C:Ctx X G N_best (defScope s_best).names) (hx:HX X (defScope s_best).names):PSs X (defBody s_best) (tS X call [] H0 b_best):=by
 conv=>(arg 2; whnf)
 conv=>(arg 3; arg 5; whnf)
 repeat' sleep 1
theorem Jez (E:Env G call) (C:Ctx X G N_law_cell (defScope s_law_cell).names) (hx:HX X (defScope s_law_cell).names):PSs X (defBody s_law_cell) (tS X call [] H0 b_law_cell):=by
 conv=>(arg 2; whnf)
 conv=>(arg 3; arg 5; whnf)
 repeat' sleep 1
theorem JeZ (E:Env G call) (C:Ctx X G N_law_pick (defScope s_law_pick).names) (hx:HX X (defScope s_law_pick).names):PSs X (defBody s_law_pick) (tS X call [] H0 b_law_pick):=by
 conv=>(arg 2; whnf)
 conv=>(arg 3; arg 5; whnf)
 repeat' sleep 1
theorem JeR (E:Env G call) (C:Ctx X G N_law_part (defScope s_law_part).names) (hx:HX X (defScope s_law_part).names):PSs X (defBody s_law_part) (tS X call [] H0 b_law_part):=by
 conv=>(arg 2; whnf)
 conv=>(arg 3; arg 5; whnf)
 repeat' sleep 1
theorem Jbz (E:Env G call) (C:Ctx X G N_law_pattern (defScope s_law_pattern).names) (hx:HX X (defScope s_law_pattern).names):PSs X (defBody s_law_pattern) (tS X call [4] H0 b_law_pattern):=by
 conv=>(arg 2; whnf)
 conv=>(arg 3; arg 5; whnf)
 repeat' sleep 1
theorem Jdu (E:Env G call) (C:Ctx X G N_law_table (defScope s_law_table).names) (hx:HX X (defScope s_law_table).names):PSs X (defBody s_law_table) (tS X call [] H0 b_law_table):=by
 conv=>(arg 2; whnf)
 conv=>(arg 3; arg 5; whnf)
 repeat' sleep 1
theorem Jbj (E:Env G call) (C:Ctx X G N_law_any_word (defScope s_law_any_word).names) (hx:HX X (defScope s_law_any_word).names):PSs X (defBody s_law_any_word) (tS X call [] H0 b_law_any_word):=by
 conv=>(arg 2; whnf)
 conv=>(arg 3; arg 5; whnf)
 repeat' sleep 1
theorem JeO (E:Env G call) (C:Ctx X G N_law_near (defScope s_law_near).names) (hx:HX X (defScope s_law_near).names):PSs X (defBody s_law_near) (tS X call [3] H0 b_law_near):=by
 conv=>(arg 2; whnf)
 conv=>(arg 3; arg 5; whnf)
 repeat' sleep 1
theorem JaU (E:Env G call) (C:Ctx X G N_law_is_number (defScope s_law_is_number).names) (hx:HX X (defScope s_law_is_number).names):PSs X (defBody s_law_is_number) (tS X call [] H0 b_law_is_number):=by
 conv=>(arg 2; whnf)
 conv=>(arg 3; arg 5; whnf)
 repeat' sleep 1
theorem JbE (E:Env G call) (C:Ctx X G N_law_matched (defScope s_law_matched).names) (hx:HX X (defScope s_law_matched).names):PSs X (defBody s_law_matched) (tS X call [] H0 b_law_matched):=by
 conv=>(arg 2; whnf)
 conv=>(arg 3; arg 5; whnf)
 repeat' sleep 1
theorem Jdn (E:Env G call) (C:Ctx X G N_law_ranks (defScope s_law_ranks).names) (hx:HX X (defScope s_law_ranks).names):PSs X (defBody s_law_ranks) (tS X call [] H0 b_law_ranks):=by
 conv=>(arg 2; whnf)
 conv=>(arg 3; arg 5; whnf)
 repeat' sleep 1
theorem d_law (E:Env G call) (C:Ctx X G N_law (defScope s_law).names) (hx:HX X (defScope s_law).names):PSs X (defBody s_law) (tS X call [] H0 b_law):=by
 conv=>(arg 2; whnf)
 conv=>(arg 3; arg 5; whnf)
 repeat' sleep 1
end
end K11
namespace K11
open PySem.Str (ofString)
open PySem PySem.Spec PyProof.Rows L2 Pu Rd
abbrev T:List DefE:=[((ofString "has_rest"),s_has_rest,[(ofString "pattern")]),
 ((ofString "writes_number"),s_writes_number,[(ofString "word")]),
 ((ofString "lets_by"),s_lets_by,[(ofString "part"),(ofString "word")]),
 ((ofString "has_fitting_length"),s_has_fitting_length,[(ofString "pattern"),(ofString "many")]),
 ((ofString "does_match"),s_does_match,[(ofString "pattern"),(ofString "address")]),
 ((ofString "all_rows"),s_all_rows,[(ofString "table"),(ofString "address")]),
 ((ofString "first"),s_first,[(ofString "table"),(ofString "address")]),
 ((ofString "rank"),s_rank,[(ofString "row")]),
 ((ofString "by_ranks"),s_by_ranks,[(ofString "table")]),
 ((ofString "best"),s_best,[(ofString "table"),(ofString "address")]),
 ((ofString "_law_cell"),s_law_cell,[(ofString "_law_script"),(ofString "_law_k")]),
 ((ofString "_law_pick"),s_law_pick,[(ofString "_law_script"),(ofString "_law_k"),(ofString "_law_many")]),
 ((ofString "_law_part"),s_law_part,[(ofString "_law_script"),(ofString "_law_at"),(ofString "_law_name")]),
 ((ofString "_law_pattern"),s_law_pattern,[(ofString "_law_script"),(ofString "_law_at"),(ofString "_law_most")]),
 ((ofString "_law_table"),s_law_table,[(ofString "_law_script"),(ofString "_law_at"),(ofString "_law_most"),(ofString "_law_rows")]),
 ((ofString "_law_any_word"),s_law_any_word,[(ofString "_law_script"),(ofString "_law_at")]),
 ((ofString "_law_near"),s_law_near,[(ofString "_law_script"),(ofString "_law_at"),(ofString "_law_pattern_here")]),
 ((ofString "_law_is_number"),s_law_is_number,[(ofString "_law_word")]),
 ((ofString "_law_matched"),s_law_matched,[(ofString "_law_pattern_here"),(ofString "_law_address")]),
 ((ofString "_law_ranks"),s_law_ranks,[(ofString "_law_pattern_here")]),
 ((ofString "law"),s_law,[(ofString "_law_script")])]
abbrev B:List Str:=[(ofString "all"),(ofString "enumerate"),(ofString "int"),(ofString "len"),(ofString "list"),(ofString "range"),(ofString "set"),(ofString "sorted"),(ofString "tuple"),(ofString "zip")]
theorem bnd:BsOk T:=by
 repeat' apply And.intro
 all_goals first | exact True.intro | exact (fun _ _ _ _ _ _ us hl=>match us,hl with | [_],_=>rfl) | exact (fun _ _ _ _ _ _ us hl=>match us,hl with | [_,_],_=>rfl) | exact (fun _ _ _ _ _ _ us hl=>match us,hl with | [_,_,_],_=>rfl) | exact (fun _ _ _ _ _ _ us hl=>match us,hl with | [_,_,_,_],_=>rfl)
section
variable {P:Program} {w:World} {K:PySem.W.Frag} {mg:Str -> Option Value} {base:Heap}
theorem Jmn (hT:HasD K mg T) (hB:BlN mg B)
 (y0:∃ u,mg (ofString "FIGURES") = some u /\ ∃ v,RelV v u /\ ∀ H,Rep K H (.str (ofString "0123456789")) v)
 (y1:∃ u,mg (ofString "RANKED_KINDS") = some u /\ ∃ v,RelV v u /\ ∀ H,Rep K H (.tup [(.str (ofString "word")),(.str (ofString "one")),(.str (ofString "number")),(.str (ofString "any")),(.str (ofString "rest"))]) v):∀ k,OkD P w K mg base defs k 0 T:=by
 intro k
 induction k with
 | zero=>exact JdQ _ _
 | succ k ih=>
  have E:∀ A,Room (3 * k + 2) A -> Env ⟨P,w,K,mg,base,A⟩ (runD defs k):=fun A hr=>by
   have c:=@Jgd P w K mg base defs T k A hT ih hr
   exact ⟨c 0 rfl,c 1 rfl,c 2 rfl,c 3 rfl,c 4 rfl,c 5 rfl,c 6 rfl,c 7 rfl,c 8 rfl,c 9 rfl,c 10 rfl,c 11 rfl,c 12 rfl,c 13 rfl,c 14 rfl,c 15 rfl,c 16 rfl,c 17 rfl,c 18 rfl,c 19 rfl,c 20 rfl,JE 0 hB rfl,JE 1 hB rfl,JE 2 hB rfl,JE 3 hB rfl,JE 4 hB rfl,JE 5 hB rfl,JE 6 hB rfl,JE 7 hB rfl,JE 8 hB rfl,JE 9 hB rfl,(by obtain ⟨u,e,v,r,g⟩:=y0; exact ⟨v,u,e,r,g⟩),(by obtain ⟨u,e,v,r,g⟩:=y1; exact ⟨v,u,e,r,g⟩)⟩
  exact ⟨fo E @JeW,fo E @JaN,fo E @Jgt,fo E @JL,fo E @Jcf,fo E @JeN,fo E @Jkn,fo E @Jmy,fo E @JeY,fo E @JlU,fo E @Jez,fo E @JeZ,fo E @JeR,fo E @Jbz,fo E @Jdu,fo E @Jbj,fo E @JeO,fo E @JaU,fo E @JbE,fo E @Jdn,fo E @d_law,trivial⟩
end
theorem Jmb {l:PySem.W.OpenLaw} {w:World} {K:PySem.W.Frag} {h:Heap} {mg:Str -> Option Value} {fa:Addr} (X:K.In h) (G:h.Ns mainGlobals mg) (hfa:mg "law" = some (.ref fa)) (dT:DsIn K T) (dB:BlIn K B)
  {t0:Tok} (y0:PySem.W.nsIn K mainGlobals (ofString "FIGURES") = some (some (.str (ofString "0123456789") t0)))
  {ya1:Addr} {yn1:Nat} {ys1:Array (Option Value)} {t1_0 t1_1 t1_2 t1_3 t1_4:Tok} (y1:PySem.W.nsIn K mainGlobals (ofString "RANKED_KINDS") = some (some (.ref ya1))) (v1:K.lookup ya1 = some ⟨.type "tuple",none,.seq #[.str (ofString "word") t1_0,.str (ofString "one") t1_1,.str (ofString "number") t1_2,.str (ofString "any") t1_3,.str (ofString "rest") t1_4] yn1,ys1⟩)
  : ∃ fd:FuncData,(∀ (s:Shared) (v:Value),BindsTo s fd ⟨[v],[]⟩ [((ofString "_law_script"),v)]) /\ ∀ base:Heap,K.In base -> base.Ns mainGlobals mg -> FnOk l.prog w K mg base (CXr l.prog w) 33 fa fd [(ofString "_law_script")] (sp0 K (runD defs 11) 20):=by
 exact JlE (n:=11) X G hfa dT bnd (fl:=20) rfl fun base hT=>Jmn (P:=l.prog) (w:=w) (base:=base) hT (Jlm X G dB) ⟨_,PySem.W.mg_of X G y0,.str (ofString "0123456789"),⟨_,rfl⟩,fun H=>rfl⟩ ⟨_,PySem.W.mg_of X G y1,.ref ya1,rfl,fun H=>Rd.globT y1 (ds:=[(.str (ofString "word")),(.str (ofString "one")),(.str (ofString "number")),(.str (ofString "any")),(.str (ofString "rest"))]) (xs:=[.str (ofString "word"),.str (ofString "one"),.str (ofString "number"),.str (ofString "any"),.str (ofString "rest")]) v1 (by simp) (.cons ⟨_,rfl⟩ (.cons ⟨_,rfl⟩ (.cons ⟨_,rfl⟩ (.cons ⟨_,rfl⟩ (.cons ⟨_,rfl⟩ .nil))))) (fun H=>⟨_,_,rfl,rfl,_,_,rfl,rfl,_,_,rfl,rfl,_,_,rfl,rfl,_,_,rfl,rfl,rfl⟩) H⟩
end K11
def PySem.W.Fast.tw16164044919783001681:=0
def PySem.W.Fast.tw11019224840462935562:=0
def PySem.W.Fast.tw12883104793490170687:=0
def PySem.W.Fast.tw1263447594046631945:=0
def PySem.W.Fast.tw8232607264909083545:=0
def PySem.W.Fast.tw3351971272602868211:=0
def PySem.W.Fast.tw3385322594222458354:=0
def PySem.W.Fast.tw18246285565020811863:=0
def PySem.W.Fast.tw9709678836594371289:=0
def PySem.W.Fast.tw4812166395196825923:=0
def PySem.W.Fast.tw9088154637422217929:=0
def PySem.W.Fast.tw3551695895223145514:=0
def PySem.W.Fast.tw4942450513415649930:=0
def PySem.W.Fast.tw7954441203530895895:=0
def PySem.W.Fast.tw2518736857755562206:=0
def PySem.W.Fast.tw17482795552796784536:=0
def PySem.W.Fast.tw7806657763481178011:=0
def PySem.W.Fast.tw12662085460521601430:=0
def PySem.W.Fast.tw3214755820143005951:=0
def PySem.W.Fast.tw12839178196276847655:=0
def PySem.W.Fast.tw4777715542063644851:=0
def PySem.W.Fast.tw8263013038439704666:=0
def PySem.W.Fast.tw6706091542114440232:=0
def PySem.W.Fast.tw10893469984793447716:=0
def PySem.W.Fast.tw9628375308497734136:=0
def PySem.W.Fast.tw15444277314533038599:=0
def PySem.W.Fast.tw18220711597794003090:=0
def PySem.W.Fast.tw5101685737796885565:=0
def PySem.W.Fast.tw2079833168713179845:=0
def PySem.W.Fast.tw2409771825148638210:=0
def PySem.W.Fast.tw4746854303725939825:=0
def PySem.W.Fast.tw3631217936223132316:=0
def PySem.W.Fast.tw7363007550573736167:=0
def PySem.W.Fast.tw16080333574003619977:=0
def PySem.W.Fast.tw16841238266364143182:=0
def PySem.W.Fast.tw6536710329898224790:=0
def PySem.W.Fast.tw6182642855425018471:=0
def PySem.W.Fast.tw8115366526287938907:=0
def PySem.W.Fast.tw4817400759955724967:=0
def PySem.W.Fast.tw14468326399688604228:=0
def PySem.W.Fast.tw18277554617974628034:=0
def PySem.W.Fast.tw9674272181422688760:=0
def PySem.W.Fast.tw1730807692804496627:=0
def PySem.W.Fast.tw9851851775519272471:=0
def PySem.W.Fast.tw4526095660014423214:=0
def PySem.W.Fast.tw14578615923038590646:=0
def PySem.W.Fast.tw13919246081271747839:=0
def PySem.W.Fast.tw12726040367006558968:=0
open PySem PySem.W PyProof.Rows
theorem PySem.Challenge.cw_routeboard_k11_whole_best_holds : PySem.Challenge.rw_routeboard_k11_whole_best.Holds := by
 w_on; o_law; k_head; (case hw=>w_witness2)
 k_fill
 refine L2.Jku (l:=PySem.Challenge.rw_routeboard_k11_whole_best) (n:=63) (k:=33) (x:=(Str.ofString "_law_script")) (CX:=fun w=>Rd.CXr PySem.Challenge.rw_routeboard_k11_whole_best.prog w) (sp:=fun w=>Rd.sp0 _ (Pu.runD K11.defs 11) 20) rfl (by decide) rfl ⟨rfl,by decide,by decide⟩ (fun w h Y=>PySem.W.kIn_of Y) ?F (fun w H a ns hl _ hS=>Rd.Jhi hS (K11.Jhu ns 0)) fun _ _ _ _ _ z=>Rd.noCX z
 case F=>
  intro w mg fa h KX G hmg
  refine' K11.Jmb KX G hmg ?dT ?dB ?y0 ?y1 ?v1
  (case dT=>(repeat' refine And.intro ⟨_,_,Rd.def_mk (by k_is) (by k_is) (by k_is) (by k_is)⟩ ?_); exact True.intro)
  (case dB=>(repeat' refine And.intro (by k_is) ?_); exact True.intro)
  (case y0=>k_is)
  (case y1=>k_is)
  (case v1=>k_is)
