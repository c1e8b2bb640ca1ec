import PyProof.Rows.All
import Wide.All
import OpenK.AllK
import Wide.FinOn
import Lean
import PyProof.EqAt
import PyProof.EqKinds
import PyProof.TupleCall
import PyProof.NeKinds
import PyProof.StrBlockI
import PyProof.SliceStr2
import PyProof.StrLaws
import PyProof.ListMulRoad
import PyProof.FactsAll.tuple
import PyProof.SetKind
import PyProof.DictKinds
import PyProof.Rows.SetFrom
import PyProof.Rows.SortStr
import PyProof.FactsAll.set
import KE.KDictOf
import PyProof.AttrMissHeap
import PyProof.WalksMore
import PyProof.ListRange
import PyProof.TupleOfSeq
import PyProof.Rows.TupDisplay
import PyProof.DictItems
import KE.KMinBuiltin
import KE.KTupSum
import PyProof.DictWalks
import KE.KSortTup
import PyProof.StrLawsTight
import PyProof.StrLawsChain
import PyProof.StrLawsJoin
import PyProof.StrLawsFirst
import PyProof.StrBlockH
import PyProof.StrCalls2
import PyProof.MeetsStr2
import PyProof.Rows.StrNews2
import PySem.Challenge.RW_routeboard_k65_narrowing_refused
set_option Elab.async false
set_option linter.all false
set_option maxRecDepth 100000
set_option maxHeartbeats 0
noncomputable section
namespace L2
open PySem PySem.Spec PyProof.Rows
abbrev Key:=Sum Int Str
def keyIs:Key -> Value -> Bool
 | .inl k,v=>Value.isInt k v
 | .inr x,v=>Value.isStrOf x v
def keyH (w:World):Key -> Int
 | .inl k=>hashInt k
 | .inr x=>hashStr w x
theorem Jn:∀ {k:Key} {v:Value},keyIs k v = true -> (∃ i t,k = Sum.inl i /\ v = Value.int i t) \/ (∃ x t,k = Sum.inr x /\ v = Value.str x t)
 | .inl i,v,h=>by
  obtain ⟨t,e⟩:=Value.isInt_shape (k:=i) (v:=v) h
  exact .inl ⟨i,t,rfl,e⟩
 | .inr x,v,h=>by
  obtain ⟨t,e⟩:=Value.isStrOf_shape (x:=x) (v:=v) h
  exact .inr ⟨x,t,rfl,e⟩
theorem Jhp (a b:Int):decide ((Sum.inl a:Key) = Sum.inl b) = (a == b):=by
 by_cases e:a = b
 ·subst e; simp
 ·have h:¬ (Sum.inl a:Key) = Sum.inl b:=fun q=>e (Sum.inl.inj q)
  rw [decide_eq_false h]
  exact (beq_eq_false_iff_ne.mpr e).symm
theorem JgW (a b:Str):decide ((Sum.inr a:Key) = Sum.inr b) = decide (a = b):=by
 by_cases e:a = b
 ·subst e; simp
 ·have h:¬ (Sum.inr a:Key) = Sum.inr b:=fun q=>e (Sum.inr.inj q)
  rw [decide_eq_false h,decide_eq_false e]
theorem Jgn (a:Int) (b:Str):decide ((Sum.inl a:Key) = Sum.inr b) = false:=decide_eq_false (fun q=>nomatch q)
theorem JgL (a:Str) (b:Int):decide ((Sum.inr a:Key) = Sum.inl b) = false:=decide_eq_false (fun q=>nomatch q)
def mixKind (prog:Program) (w:World):PySem.KeyKind prog w Key where
 is:=keyIs
 hash:=keyH w
 inj:=fun v a b ha hb=>by
  rcases Jn ha with ⟨i,t,rfl,rfl⟩ | ⟨x,t,rfl,rfl⟩
  ·rcases Jn hb with ⟨j,u,rfl,e⟩ | ⟨y,u,rfl,e⟩
   ·injection e with e1 _; rw [e1]
   ·exact nomatch e
  ·rcases Jn hb with ⟨j,u,rfl,e⟩ | ⟨y,u,rfl,e⟩
   ·exact nomatch e
   ·injection e with e1 _; rw [e1]
 byValue:=fun k v h=>by
  rcases Jn h with ⟨i,t,rfl,rfl⟩ | ⟨x,t,rfl,rfl⟩ <;> rfl
 pyHash:=fun hv h=>by
  rcases Jn hv with ⟨i,t,rfl,rfl⟩ | ⟨x,t,rfl,rfl⟩
  ·exact wpAny_pyHash_int h
  ·exact wpAny_pyHash_str h
 eqBool:=fun hu hv h=>by
  rcases Jn hu with ⟨i,t,rfl,rfl⟩ | ⟨x,t,rfl,rfl⟩
  ·rcases Jn hv with ⟨j,u,rfl,rfl⟩ | ⟨y,u,rfl,rfl⟩
   ·rw [Jhp] at h; exact wpAny_eqBool_int h
   ·rw [Jgn] at h; exact SeqAt.EqAt.int_str i t y u _ _ _ _ h
  ·rcases Jn hv with ⟨j,u,rfl,rfl⟩ | ⟨y,u,rfl,rfl⟩
   ·rw [JgL] at h; exact SeqAt.EqAt.str_int x t j u _ _ _ _ h
   ·rw [JgW] at h; exact wpAny_eqBool_str h
 «strs»:=fun k x t v h=>by
  rcases Jn h with ⟨i,u,rfl,e⟩ | ⟨y,u,rfl,e⟩
  ·exact nomatch e
  ·injection e with e1 _
   subst e1
   cases v <;> rfl
end L2
namespace L2
open PySem PySem.Spec PyProof.Rows
inductive V where
 | non | bl (b:Bool) | int (i:Int) | str (x:Str) | byt (b:Array UInt8) | flt (b:UInt64) | ref (a:Addr) | ty (n:String)
 deriving DecidableEq
def RelV:V -> Value -> Prop
 | .non,u=>u = Value.none
 | .bl b,u=>u = Value.bool b
 | .int i,u=>∃ t,u = Value.int i t
 | .str x,u=>∃ t,u = Value.str x t
 | .byt b,u=>∃ t,u = Value.bytes b t
 | .flt b,u=>∃ t,u = Value.float b t
 | .ref a,u=>u = Value.ref a
 | .ty n,u=>u = Value.type n
abbrev Vals:List V -> List Value -> Prop:=Paired RelV
theorem Vals.length {xs:List V} {us:List Value} (r:Vals xs us):xs.length = us.length:=Paired.length r
theorem Vals.get:∀ {xs:List V} {us:List Value} {i:Nat} {x:V},Vals xs us -> xs[i]? = some x -> ∃ u,us[i]? = some u /\ RelV x u
 | _,_,_,_,.nil,e=>by simp at e
 | _,_,0,_,.cons r _,e=>by simp at e; subst e; exact ⟨_,rfl,r⟩
 | _,_,i + 1,x,.cons _ t,e=>by
  obtain ⟨u,h1,h2⟩:=Vals.get (i:=i) (x:=x) t (by simpa using e)
  exact ⟨u,by simpa using h1,h2⟩
theorem Vals.append:∀ {xs ys:List V} {us ws:List Value},Vals xs us -> Vals ys ws -> Vals (xs ++ ys) (us ++ ws)
 | _,_,_,_,.nil,s=>s
 | _,_,_,_,.cons r t,s=>.cons r (Vals.append t s)
theorem Vals.take:∀ {xs:List V} {us:List Value} (n:Nat),Vals xs us -> Vals (xs.take n) (us.take n)
 | _,_,0,_=>.nil
 | _,_,_ + 1,.nil=>.nil
 | _,_,n + 1,.cons r t=>.cons r (Vals.take n t)
theorem Vals.drop:∀ {xs:List V} {us:List Value} (n:Nat),Vals xs us -> Vals (xs.drop n) (us.drop n)
 | _,_,0,r=>r
 | _,_,_ + 1,.nil=>.nil
 | _,_,n + 1,.cons _ t=>Vals.drop n t
def RelO:Option V -> Option Value -> Prop
 | some v,some u=>RelV v u
 | none,none=>True
 | _,_=>False
def KV {κ:Type}:List (κ × V) -> List (κ × Value) -> Prop:=Paired fun (p:κ × V) (q:κ × Value)=>p.1 = q.1 /\ RelV p.2 q.2
def kV:Key -> V
 | .inl i=>.int i
 | .inr x=>.str x
inductive HO where
 /-- a list -/
 | lst (xs:List V)
 /-- a tuple (never changes) -/
 | tup (xs:List V)
 /-- a dict whose keys are ints and texts; one whose keys are tuples of ints and texts (the empty one is both) -/
 | dK (kvs:List (Key × V)) | dT (kvs:List (List Key × V))
 /-- a set of ints: its members,its size -/
 | set (S:Int -> Bool) (n:Nat)
 /-- an instance of the class at C,its dict at dx,its attributes -/
 | ins (C dx:Addr) (fs:List (Str × V))
 /-- the dict of the instance at x -/
 | own (x:Addr)
 /-- the dict of an exception -/
 | xd (fs:List (Str × V))
 /-- a bound method,f of x -/
 | met (f x:Addr)
 /-- a range object lo,lo + 1,.. below hi -/
 | rng (lo hi:Int)
 /-- a thing that is known to the object (the script; a dict while a loop walks it): read,never written while it is so -/
 | frz (o:Obj) (u:HO)
 /-- a code object's table; ps[0] is the name that all its codes bear (it may grow) -/
 | tbl (ps:Array Value)
 /-- any other thing,by what is true of its one object (a def of one's own: SetO a S n:=HO.ext fun h=>..) -/
 | ext (φ:Heap -> Prop)
abbrev Hp:=Addr -> Option HO
def upd (H:Hp) (a:Addr) (o:HO):Hp:=fun b=>if b = a then some o else H b
theorem Jm {H:Hp} {a:Addr} {o:HO}:upd H a o a = some o:=by unfold upd; rw [if_pos rfl]
theorem Jh {H:Hp} {a b:Addr} {o:HO} (h:b ≠ a):upd H a o b = H b:=by unfold upd; rw [if_neg h]
theorem Je {H:Hp} {a b:Addr} {o:HO} (h:H a = some o) (h':H b = none):a ≠ b:=by
 intro e; subst e; rw [h] at h'; cases h'
section
variable (P:Program) (w:World)
def ObjOk (H:Hp) (h:Heap) (a:Addr):HO -> Prop
 | .lst xs=>xs.length <= sizeLine /\ ∃ (its:List Value) (n:Nat),Vals xs its /\ h.get? a = some { cls:=.type "list",data:=.seq its.toArray n }
 | .tup xs=>(xs.length <= sizeLine /\ ∀ o,h.get? a = some o -> o.dict = none) /\ ∃ its:List Value,Vals xs its /\ IsTup h a its.toArray
 | .dK kvs=>kvs.length <= sizeLine /\ (a == sysModules) = false /\ ∃ vs,KV kvs vs /\ h.DictOf (mixKind P w) a vs
 | .dT kvs=>kvs.length <= sizeLine /\ (a == sysModules) = false /\ ∃ xs:List (List Key × Addr × Value),
   Paired (fun (p:List Key × V) (q:List Key × Addr × Value)=>p.1 = q.1 /\ H q.2.1 = some (.tup (p.1.map kV)) /\ RelV p.2 q.2.2) kvs xs /\
   ∃ o es ep,h.get? a = some o /\ o.ExactDict /\ o.data = .dict es ep /\ es.toList = xs.map (entryOfKey (tupleKind (mixKind P w))) /\ (xs.map (·.1)).Nodup
 | .set S n=>h.SetOf (intKind P w) a S n
 | .ins C dx fs=>H dx = some (.own a) /\ fs.length <= 1000 /\ dx ≠ a /\ h.get? a = some (PySem.W.instObj C dx) /\
   ∃ mA,h.Ns1 dx mA /\ (∀ f,RelO (fs.lookup f) (mA f)) /\ PySem.Within mA (fs.map (·.1))
 | .own _=>∃ o,h.get? a = some o
 | .xd fs=>∃ mA,h.Ns1 a mA /\ ∀ f,RelO (fs.lookup f) (mA f)
 | .rng lo hi=>∃ t u v,h.get? a = some { cls:=.type "range",data:=.fields #[.int lo t,.int hi u,.int 1 v] }
 | .frz o u=>h.get? a = some o /\ ObjOk H h a u
 | .tbl ps=>∃ q qt qs,ps[0]? = some (.str q qt) /\ h.get? a = some { cls:=.none,data:=.fields qs } /\ TriplesOk qs.toList /\ ∀ pos cv,codeAmong pos qs.toList = some cv -> ∃ (c:Addr) (oc:Obj) (vs:Array Value) (t:Tok),cv = .ref c /\ H c = some (.frz oc (.ext fun _=>True)) /\ oc.data = .fields vs /\ vs[1]? = some (.str q t)
 | .met f x=>h.get? a = some (PySem.W.methodObj (.ref f) (.ref x))
 | .ext φ=>φ h /\ (∃ o,h.get? a = some o) /\ ∀ h1 h2:Heap,φ h1 -> (∀ o,h1.get? a = some o -> h2.get? a = some o) -> φ h2
theorem JaF {h:Heap} {z:Array Value} {n:Nat} (o:Obj) (q:(h.push { cls:=.type "tuple",data:=.seq z n }).get? h.objs.size = some o):o.dict = none:=by
 rw [Heap.get?_push_size _ rfl] at q; cases q; rfl
def HOk (H:Hp) (h:Heap):Prop:=∀ a o,H a = some o -> ObjOk P w H h a o
end
section
variable {P:Program} {w:World} {H H':Hp} {h h':Heap} {a:Addr} {o:HO}
theorem ObjOk.lt (x:ObjOk P w H h a o):a < h.objs.size:=by
 cases o with
 | lst xs=>obtain ⟨_,_,_,_,e⟩:=x; exact Heap.lt_size e
 | tup xs=>obtain ⟨_,_,_,p⟩:=x; exact p.lt
 | dK kvs=>obtain ⟨_,_,_,_,o,_,_,e,_⟩:=x; exact Heap.lt_size e
 | dT kvs=>obtain ⟨_,_,_,_,o,_,_,e,_⟩:=x; exact Heap.lt_size e
 | set S n=>obtain ⟨o,_,_,_,e,_⟩:=x; exact Heap.lt_size e
 | ins C dx fs=>obtain ⟨_,_,_,e,_⟩:=x; exact Heap.lt_size e
 | own y=>obtain ⟨_,e⟩:=x; exact Heap.lt_size e
 | xd fs=>obtain ⟨_,⟨_,_,_,e,_⟩,_⟩:=x; exact Heap.lt_size e
 | rng lo hi=>obtain ⟨_,_,_,e⟩:=x; exact Heap.lt_size e
 | frz ob u=>obtain ⟨e,_⟩:=x; exact Heap.lt_size e
 | tbl ps=>obtain ⟨_,_,_,_,e,_⟩:=x; exact Heap.lt_size e
 | met f y=>exact Heap.lt_size (show h.get? a = some _ from x)
 | ext φ=>obtain ⟨_,⟨_,e⟩,_⟩:=x; exact Heap.lt_size e
theorem Paired.mapP {α β:Type} {F G:α -> β -> Prop}:∀ {l₁:List α} {l₂:List β},Paired F l₁ l₂ -> (∀ a b,F a b -> G a b) -> Paired G l₁ l₂
 | _,_,.nil,_=>.nil
 | _,_,.cons r t,f=>.cons (f _ _ r) (Paired.mapP t f)
theorem ObjOk.stay (x:ObjOk P w H h a o) (k:∀ b u,(b = a \/ H b = some (.own a)) -> h.get? b = some u -> h'.get? b = some u)
  (ho:∀ b,H b = some (.own a) -> H' b = some (.own a)) (ht:∀ b xs,H b = some (.tup xs) -> H' b = some (.tup xs))
  (hf:∀ b o u,H b = some (.frz o u) -> H' b = some (.frz o u):=by exact fun _ _ _ q=>q):ObjOk P w H' h' a o:=by
 induction o with
 | lst xs=>obtain ⟨z,its,n,r,e⟩:=x; exact ⟨z,its,n,r,k _ _ (.inl rfl) e⟩
 | tup xs=>obtain ⟨⟨z,zd⟩,its,r,ob,e,c⟩:=x; exact ⟨⟨z,fun o q=>by rw [k _ _ (.inl rfl) e] at q; cases q; exact zd _ e⟩,its,r,ob,k _ _ (.inl rfl) e,c⟩
 | dK kvs=>obtain ⟨z,y,vs,r,ob,es,ep,e,c⟩:=x; exact ⟨z,y,vs,r,ob,es,ep,k _ _ (.inl rfl) e,c⟩
 | dT kvs=>
  obtain ⟨z,y,xs,r,ob,es,ep,e,c⟩:=x
  exact ⟨z,y,xs,Paired.mapP r fun p q z=>⟨z.1,ht _ _ z.2.1,z.2.2⟩,ob,es,ep,k _ _ (.inl rfl) e,c⟩
 | set S n=>obtain ⟨ob,es,ep,t,e,c⟩:=x; exact ⟨ob,es,ep,t,k _ _ (.inl rfl) e,c⟩
 | ins C dx fs=>
  obtain ⟨d,z,ne,e,mA,⟨od,es,ep,e2,c⟩,r⟩:=x
  exact ⟨ho _ d,z,ne,k _ _ (.inl rfl) e,mA,⟨od,es,ep,k _ _ (.inr d) e2,c⟩,r⟩
 | own y=>obtain ⟨ob,e⟩:=x; exact ⟨ob,k _ _ (.inl rfl) e⟩
 | xd fs=>obtain ⟨mA,⟨od,es,ep,e,c⟩,r⟩:=x; exact ⟨mA,⟨od,es,ep,k _ _ (.inl rfl) e,c⟩,r⟩
 | rng lo hi=>obtain ⟨t,u,v,e⟩:=x; exact ⟨t,u,v,k _ _ (.inl rfl) e⟩
 | frz ob u ih=>obtain ⟨e,q⟩:=x; exact ⟨k _ _ (.inl rfl) e,ih q⟩
 | tbl ps=>obtain ⟨q,qt,qs,e0,e,t,c⟩:=x; exact ⟨q,qt,qs,e0,k _ _ (.inl rfl) e,t,fun pos cv z=>let ⟨b,oc,vs,tk,e1,e2,e3⟩:=c pos cv z; ⟨b,oc,vs,tk,e1,hf _ _ _ e2,e3⟩⟩
 | met f y=>
  have e:h.get? a = some (PySem.W.methodObj (.ref f) (.ref y)):=x
  show h'.get? a = some (PySem.W.methodObj (.ref f) (.ref y))
  exact k a _ (.inl rfl) e
 | ext φ=>obtain ⟨p,⟨o,e⟩,st⟩:=x; exact ⟨st _ _ p fun o q=>k _ _ (.inl rfl) q,⟨o,k _ _ (.inl rfl) e⟩,st⟩
theorem HOk.lt (x:HOk P w H h) (e:H a = some o):a < h.objs.size:=(x a o e).lt
theorem HOk.fresh (x:HOk P w H h) (e:h.objs.size <= a):H a = none:=by
 cases q:H a with
 | none=>rfl
 | some u=>exact absurd (Nat.lt_of_lt_of_le (x.lt q) e) (Nat.lt_irrefl _)
theorem HOk.kept (x:HOk P w H h) (k:∀ b u,h.get? b = some u -> h'.get? b = some u):HOk P w H h':=fun a o e=>
 (x a o e).stay (fun b u _ q=>k b u q) (fun _ q=>q) fun _ _ q=>q
theorem HOk.laid (x:HOk P w H h) (k:∀ b u,h.get? b = some u -> h'.get? b = some u) (hp:h.objs.size <= a) (new:ObjOk P w (upd H a o) h' a o):HOk P w (upd H a o) h':=fun b u e=>by
 have hn:=x.fresh hp
 by_cases hb:b = a
 ·subst hb; rw [Jm] at e; cases e; exact new
 ·rw [Jh hb] at e
  exact (x b u e).stay (fun c v _ q=>k c v q) (fun c q=>by rw [Jh (Je q hn)]; exact q) (fun c xs q=>by rw [Jh (Je q hn)]; exact q) fun c o' u' q=>by rw [Jh (Je q hn)]; exact q
end
def Rd (H:Hp) (a:Addr) (u:HO):Prop:=H a = some u \/ ∃ o,H a = some (.frz o u)
theorem Rd.ok {P:Program} {w:World} {H:Hp} {h:Heap} {a:Addr} {u:HO} (r:Rd H a u) (x:HOk P w H h):ObjOk P w H h a u:=by
 rcases r with r | ⟨o,r⟩
 ·exact x a u r
 ·obtain ⟨_,q⟩:=x a _ r
  exact q
def Mut:Option HO -> Prop
 | some (.lst _)=>True
 | some (.dK _)=>True
 | some (.dT _)=>True
 | some (.set _ _)=>True
 | some (.ins _ _ _)=>True
 | some (.ext _)=>True
 | _=>False
section
variable {P:Program} {w:World} {H:Hp} {h h':Heap} {x e:Addr} {o':HO}
theorem HOk.write (ok:HOk P w H h) (mu:Mut (H x)) (he:e = x \/ H e = some (.own x)) (k:∀ b u,b ≠ e -> h.get? b = some u -> h'.get? b = some u) (heo:∃ u,h'.get? e = some u)
  (new:ObjOk P w (upd H x o') h' x o'):HOk P w (upd H x o') h':=fun b u q=>by
 have nown:∀ c y,H c = some (.own y) -> c ≠ x:=fun c y r z=>by subst z; rw [r] at mu; exact mu
 have ntup:∀ c xs,H c = some (.tup xs) -> c ≠ x:=fun c xs r z=>by subst z; rw [r] at mu; exact mu
 by_cases hb:b = x
 ·subst hb; rw [Jm] at q; cases q; exact new
 ·rw [Jh hb] at q
  by_cases hbe:b = e
  ·have q':H b = some (.own x):=by
    rcases he with z | z
    ·exact absurd (hbe.trans z) hb
    ·rw [hbe]; exact z
   rw [q] at q'; cases q'
   obtain ⟨v,hv⟩:=heo
   exact ⟨v,by rw [hbe]; exact hv⟩
  ·refine (ok b u q).stay (fun c v hc r=>k c v ?_ r) (fun c r=>by rw [Jh (nown c b r)]; exact r) (fun c xs r=>by rw [Jh (ntup c xs r)]; exact r) fun c o' u' r=>by rw [Jh (fun z=>by subst z; rw [r] at mu; exact mu)]; exact r
   rcases hc with rfl | hc
   ·exact hbe
   ·rintro rfl
    rcases he with z | z
    ·exact nown c b hc z
    ·rw [hc] at z; cases z; exact hb rfl
end
structure Un (fs ex:List Addr) (H H':Hp) (h h':Heap):Prop where
 keep:∀ b o,h.get? b = some o -> H b = none -> b ∉ fs -> b ∉ ex -> h'.get? b = some o
 slot:∀ b o,h.get? b = some o -> H b = none -> b ∈ fs -> b ∉ ex -> ∃ sl,h'.get? b = some { o with slots:=sl }
 free:∀ b o,h.get? b = some o -> H b = none -> b ∉ ex -> H' b = none
 there:∀ b o,h.get? b = some o -> b ∉ ex -> ∃ o',h'.get? b = some o'
 tups:∀ b xs,H b = some (.tup xs) -> H' b = some (.tup xs)
 frzs:∀ b o u,H b = some (.frz o u) -> H' b = some (.frz o u)
 tbls:∀ b ps,H b = some (.tbl ps) -> ∃ more,H' b = some (.tbl (ps ++ more))
section
variable {fs fs' ex ex':List Addr} {H H1 H2:Hp} {h h1 h2 h':Heap} {a x e:Addr} {o:HO}
theorem Un.any (u:Un fs ex H H1 h h1) {b:Addr} {ob:Obj} (q:h.get? b = some ob) (n:H b = none) (hx:b ∉ ex):∃ sl,h1.get? b = some { ob with slots:=sl }:=by
 by_cases hb:b ∈ fs
 ·exact u.slot b ob q n hb hx
 ·exact ⟨ob.slots,u.keep b ob q n hb hx⟩
theorem Un.trans (a:Un fs ex H H1 h h1) (b:Un fs ex H1 H2 h1 h2):Un fs ex H H2 h h2 where
 keep:=fun c ob q n hc hx=>b.keep c ob (a.keep c ob q n hc hx) (a.free c ob q n hx) hc hx
 slot:=fun c ob q n hc hx=>by
  obtain ⟨sl,e1⟩:=a.slot c ob q n hc hx
  obtain ⟨sl',e2⟩:=b.slot c _ e1 (a.free c ob q n hx) hc hx
  exact ⟨sl',e2⟩
 free:=fun c ob q n hx=>by
  obtain ⟨o',e1⟩:=a.there c ob q hx
  exact b.free c o' e1 (a.free c ob q n hx) hx
 there:=fun c ob q hx=>by
  obtain ⟨o',e1⟩:=a.there c ob q hx
  exact b.there c o' e1 hx
 tups:=fun c xs q=>b.tups c xs (a.tups c xs q)
 frzs:=fun c ob xs q=>b.frzs c ob xs (a.frzs c ob xs q)
 tbls:=fun c ps q=>by
  obtain ⟨m1,e1⟩:=a.tbls c ps q
  obtain ⟨m2,e2⟩:=b.tbls c _ e1
  exact ⟨m1 ++ m2,by rw [e2,Array.append_assoc]⟩
theorem Un.kept (k:∀ b u,h.get? b = some u -> h'.get? b = some u):Un fs ex H H h h':=
 ⟨fun b ob q _ _ _=>k b ob q,fun b ob q _ _ _=>⟨ob.slots,k b ob q⟩,fun _ _ _ n _=>n,fun b ob q _=>⟨ob,k b ob q⟩,fun _ _ q=>q,fun _ _ _ q=>q,fun _ ps q=>⟨#[],by rw [q]; simp⟩⟩
theorem Un.refl:Un fs ex H H h h:=Un.kept fun _ _ q=>q
theorem Un.laid (k:∀ b u,h.get? b = some u -> h'.get? b = some u) (hp:h.objs.size <= a) (hn:H a = none):Un fs ex H (upd H a o) h h' where
 keep:=fun b u q _ _ _=>k b u q
 slot:=fun b u q _ _ _=>⟨u.slots,k b u q⟩
 free:=fun b u q n _=>by rw [Jh (Nat.ne_of_lt (Nat.lt_of_lt_of_le (Heap.lt_size q) hp))]; exact n
 there:=fun b u q _=>⟨u,k b u q⟩
 tups:=fun b xs q=>by rw [Jh (Je q hn)]; exact q
 frzs:=fun b u xs q=>by rw [Jh (Je q hn)]; exact q
 tbls:=fun b ps q=>⟨#[],by rw [Jh (Je q hn),q]; simp⟩
theorem Un.write (mu:Mut (H x)) (he:e = x \/ H e = some (.own x)) (k:∀ b u,b ≠ e -> h.get? b = some u -> h'.get? b = some u) (heo:∃ u,h'.get? e = some u):Un fs ex H (upd H x o) h h':=by
 have hx:∀ b,H b = none -> b ≠ x:=fun b n z=>by subst z; rw [n] at mu; exact mu
 have hb:∀ b,H b = none -> b ≠ e:=fun b n z=>by
  subst z
  rcases he with r | r
  ·exact hx b n r
  ·rw [n] at r; cases r
 have hm:∀ b u,H b = some u -> ¬ Mut (some u) -> b ≠ x:=fun b u q nm z=>by subst z; rw [q] at mu; exact nm mu
 refine ⟨fun b u q n _ _=>k b u (hb b n) q,fun b u q n _ _=>⟨u.slots,k b u (hb b n) q⟩,fun b u q n _=>by rw [Jh (hx b n)]; exact n,fun b u q _=>?_,
  fun b xs q=>by rw [Jh (hm b _ q fun z=>z)]; exact q,fun b u xs q=>by rw [Jh (hm b _ q fun z=>z)]; exact q,fun b ps q=>⟨#[],by rw [Jh (hm b _ q fun z=>z),q]; simp⟩⟩
 by_cases hbe:b = e
 ·subst hbe; exact heo
 ·exact ⟨u,k b u hbe q⟩
end
def trk (h:Heap) (H:Hp):List Addr:=(List.range h.objs.size).filter fun a=>(H a).isSome
def hidT (h:Heap) (H:Hp):Heap:=PySem.W.hideAll h (trk h H)
theorem Jbk (h:Heap) (H:Hp):(hidT h H).objs.size = h.objs.size:=PySem.W.hideAll_size _ _
theorem JbY {h:Heap} {H:Hp} {b:Addr} {o:Obj} (e:h.get? b = some o) (n:H b = none):(hidT h H).get? b = some o:=
 PySem.W.hideAll_get _ e fun hm=>by
  have q:(H b).isSome = true:=(List.mem_filter.mp hm).2
  rw [n] at q; simp at q
theorem Jds {h:Heap} {H:Hp} {b:Addr} {o:Obj} (e:(hidT h H).get? b = some o):h.get? b = some o /\ H b = none:=by
 have e':h.get? b = some o:=PySem.W.of_hideAll (trk h H) e
 refine ⟨e',?_⟩
 cases q:H b with
 | none=>rfl
 | some x=>
  have hm:b ∈ trk h H:=List.mem_filter.mpr ⟨List.mem_range.mpr (Heap.lt_size e'),by simp [q]⟩
  have z:(hidT h H).get? b = none:=PySem.W.hideAll_none (trk h H) hm
  rw [z] at e; cases e
def allNews (g h:Heap) (L:Addr):List (Addr × Obj):=(List.range h.objs.size).filterMap fun a=>if a = L \/ (g.get? a).isSome = true then none else (h.get? a).map fun o=>(a,o)
def rest (g h:Heap) (L d:Addr):List (Addr × Obj):=(allNews g h L).filter fun p=>decide (p.1 ≠ d)
end L2
namespace L2
open PySem PySem.Spec PyProof.Rows
structure Mod (K:PySem.W.Frag) (mg:Str -> Option Value) (base:Heap):Prop where
 kin:K.In base
 glob:base.Ns mainGlobals mg
 blt:∃ mb,base.Ns builtinsNs mb /\ ∀ x:Str,x ≠ "__name__" -> mb x = bootBuiltins x
 nolimit:base.NoLimit
structure Cx where
 prog:Program
 w:World
 K:PySem.W.Frag
 mg:Str -> Option Value
 base:Heap
 A:Around
 N:List Str
 s₀:Shared
 H₀:Hp
 env:Env
 outer:List Env
 stack:List Env
 ex:List Addr
 fn:Str -> Bool
 calm:Bool
 pn:List (Addr × Obj)
 xe:Value -> Shared -> Prop
def frs (l:List Env):List Addr:=l.filterMap (·.frame)
abbrev Cx.fs (X:Cx):List Addr:=frs X.outer
def Vis (sc:Scope) (x:Str):Prop:=sc.names.lookup x = some .local \/ sc.names.lookup x = some .cell \/ sc.names.lookup x = some .free
def Loc (sc:Scope) (x:Str):Prop:=sc.names.lookup x = some .local \/ sc.names.lookup x = some .cell
def Look (env:Env) (h:Heap) (m:Str -> Option Value) (x:Str) (u:Value):Prop:=
 (env.kindOf x = some .local /\ m x = some u) \/ ((env.kindOf x = some .cell \/ env.kindOf x = some .free) /\ ∃ c,env.cells.lookup x = some c /\ h.IsCell c (some u))
structure Cx.Ok (X:Cx):Prop where
 mod:Mod X.K X.mg X.base
 kind:X.env.scope.kind = .function
 glob:X.env.globals = mainGlobals
 blt:X.env.builtins = builtinsNs
 above:X.s₀.heap.objs.size <= X.env.locals
 inj:∀ x y c,X.env.cells.lookup x = some c -> X.env.cells.lookup y = some c -> x = y
 has:∀ x,(X.env.kindOf x = some .cell \/ X.env.kindOf x = some .free) -> ∃ c,X.env.cells.lookup x = some c
 cab:∀ x c,X.fn x = true -> X.env.cells.lookup x = some c -> X.s₀.heap.objs.size <= c
 hd:X.calm = true -> X.A.handled = none
 frames:X.A.frames = some X.stack
 stk:X.stack = X.outer \/ (X.stack = X.env :: X.outer /\ X.env.frame = some X.env.locals)
 exf:∀ b ∈ X.ex,b ≠ X.env.locals /\ ∀ x c,X.env.cells.lookup x = some c -> c ≠ b
 bs:∀ b o,X.base.get? b = some o -> X.s₀.heap.get? b = some o /\ X.H₀ b = none
 bsz:X.base.objs.size <= X.s₀.heap.objs.size
 noex:∀ b o,X.base.get? b = some o -> b ∉ X.ex
 exfs:∀ b ∈ X.ex,b ∉ X.fs
 funs:X.s₀.heap.FunFrames X.base X.outer
 frf:∀ b ∈ X.fs,X.H₀ b = none
structure Inv (X:Cx) (pins:List (Addr × Obj)) (σ:List (Option V)) (H:Hp) (s:Shared):Prop where
 ok:X.Ok
 os:s.os = X.s₀.os
 bare:AllBare s.gens
 base:Un X.fs X.ex X.H₀ H X.s₀.heap s.heap
 loc:∃ m,s.heap.Ns X.env.locals m /\ ∀ (i:Nat) (x:Str) (v:V),X.N[i]? = some x -> σ[i]? = some (some v) -> Vis X.env.scope x -> ∃ u,RelV v u /\ Look X.env s.heap m x u
 cell:∀ x c,X.env.cells.lookup x = some c -> ∃ v,s.heap.IsCell c v
 free:H X.env.locals = none
 freeC:∀ x c,X.env.cells.lookup x = some c -> H c = none
 pin:∀ p ∈ X.pn ++ pins,s.heap.get? p.1 = some p.2 /\ H p.1 = none /\ p.1 ≠ X.env.locals /\ p.1 ∉ X.fs /\ ∀ v,p.2.data ≠ .cell v
 hok:HOk X.prog X.w H s.heap
 len:σ.length = X.N.length
section
variable {X:Cx} {pins:List (Addr × Obj)} {σ:List (Option V)} {H H':Hp} {s:Shared} {h':Heap}
theorem Cx.Ok.nofr (ok:X.Ok) {b:Addr} {o:Obj} (e:X.base.get? b = some o):b ∉ X.fs:=fun hb=>by
 have:=(ok.funs.mem hb).1
 rw [e] at this; cases this
theorem Inv.bs (I:Inv X pins σ H s):∀ b o,X.base.get? b = some o -> s.heap.get? b = some o /\ H b = none:=fun b o e=>
 ⟨I.base.keep b o (I.ok.bs b o e).1 (I.ok.bs b o e).2 (I.ok.nofr e) (I.ok.noex b o e),I.base.free b o (I.ok.bs b o e).1 (I.ok.bs b o e).2 (I.ok.noex b o e)⟩
theorem Inv.bk (I:Inv X pins σ H s):∀ b o,X.base.get? b = some o -> s.heap.get? b = some o:=fun b o e=>(I.bs b o e).1
theorem Inv.mod (I:Inv X pins σ H s):Mod X.K X.mg X.base:=I.ok.mod
theorem Inv.kIn (I:Inv X pins σ H s):X.K.In s.heap:=I.ok.mod.kin.keeps I.bk
theorem Inv.nolimit (I:Inv X pins σ H s):s.heap.NoLimit:=I.ok.mod.nolimit.keeps I.bk
theorem Inv.lt (I:Inv X pins σ H s):X.env.locals < s.heap.objs.size:=let ⟨_,hn,_⟩:=I.loc; hn.lt
theorem Inv.sz (I:Inv X pins σ H s):X.s₀.heap.objs.size <= s.heap.objs.size:=Nat.le_trans I.ok.above (Nat.le_of_lt I.lt)
theorem Inv.nofs (I:Inv X pins σ H s) {a:Addr} (h:s.heap.objs.size <= a):a ∉ X.fs:=fun hb=>by
 obtain ⟨_,o,ho,_⟩:=I.ok.funs.mem hb
 exact absurd (Nat.lt_of_lt_of_le (Heap.lt_size ho) (Nat.le_trans I.sz h)) (Nat.lt_irrefl _)
theorem Inv.cne (I:Inv X pins σ H s):∀ x c,X.env.cells.lookup x = some c -> c ≠ X.env.locals:=fun x c e z=>by
 obtain ⟨v,o,ho,hd⟩:=I.cell x c e
 obtain ⟨m,⟨o',es,ep,ho',hd',_⟩,_⟩:=I.loc
 rw [z,ho'] at ho; cases ho; rw [hd'] at hd; cases hd
theorem Inv.funs (I:Inv X pins σ H s):s.heap.FunFrames X.base X.outer:=by
 have all:∀ (l:List Env),(∀ b ∈ frs l,b ∈ X.fs) -> X.s₀.heap.FunFrames X.base l -> s.heap.FunFrames X.base l:=by
  intro l
  induction l with
  | nil=>intro _ _; trivial
  | cons env r ih=>
   intro hs hl
   obtain ⟨hk,⟨L,o,hf,hn,ho,hd⟩,hr⟩:=hl
   have hL:L ∈ X.fs:=hs L (by unfold frs; rw [List.filterMap_cons,hf]; exact List.mem_cons_self)
   obtain ⟨sl,e⟩:=I.base.slot L o ho (I.ok.frf L hL) hL fun z=>I.ok.exfs L z hL
   exact ⟨hk,⟨L,_,hf,hn,e,hd⟩,ih (fun b hb=>hs b (by unfold frs; rw [List.filterMap_cons,hf]; exact List.mem_cons_of_mem _ hb)) hr⟩
 exact all X.outer (fun _ hb=>hb) I.ok.funs
theorem Inv.stack (I:Inv X pins σ H s):s.heap.FunFrames X.base X.stack:=by
 rcases I.ok.stk with e | ⟨e,hf⟩
 ·rw [e]; exact I.funs
 ·rw [e]
  obtain ⟨m,hn,_⟩:=I.loc
  refine .cons (by rw [I.ok.kind]; decide) hf hn ?_ I.funs
  exact Heap.get?_none_of_le (Nat.le_trans I.ok.bsz I.ok.above)
theorem Inv.stkSub (I:Inv X pins σ H s):∀ b ∈ frs X.stack,b ∈ X.env.locals :: X.fs:=fun b hb=>by
 rcases I.ok.stk with e | ⟨e,hf⟩
 ·rw [e] at hb; exact List.mem_cons_of_mem _ hb
 ·rw [e] at hb
  unfold frs at hb
  rw [List.filterMap_cons,hf] at hb
  exact hb
theorem Inv.stkFree (I:Inv X pins σ H s):∀ b ∈ frs X.stack,H b = none:=fun b hb=>by
 rcases List.mem_cons.mp (I.stkSub b hb) with e | hb
 ·rw [e]; exact I.free
 ·obtain ⟨_,o,ho,_⟩:=I.ok.funs.mem hb
  exact I.base.free b o ho (I.ok.frf b hb) fun z=>I.ok.exfs b z hb
theorem Inv.step {g':Array GenState} {t':Nat} {d':Drawn} {ch:List Addr} (I:Inv X pins σ H s)
  (hch:∀ b ∈ ch,(b ∈ X.ex \/ X.s₀.heap.objs.size <= b) /\ b ≠ X.env.locals /\ (∀ x c,X.env.cells.lookup x = some c -> c ≠ b) /\ ∀ p ∈ X.pn ++ pins,p.1 ≠ b)
  (keep:∀ b o,b ≠ X.env.locals -> b ∉ X.fs -> b ∉ ch -> s.heap.get? b = some o -> H b = none -> h'.get? b = some o)
  (slot:∀ b o,b ≠ X.env.locals -> b ∈ X.fs -> b ∉ ch -> s.heap.get? b = some o -> H b = none -> ∃ sl,h'.get? b = some { o with slots:=sl }) (free:∀ b o,b ∉ ch -> s.heap.get? b = some o -> H b = none -> H' b = none)
  (there:∀ b o,b ∉ ch -> s.heap.get? b = some o -> ∃ o',h'.get? b = some o')
  (tups:∀ b xs,H b = some (.tup xs) -> H' b = some (.tup xs)) (frzs:∀ b o u,H b = some (.frz o u) -> H' b = some (.frz o u)) (tbls:∀ b ps,H b = some (.tbl ps) -> ∃ more,H' b = some (.tbl (ps ++ more)))
  (ns:∀ m,s.heap.Ns X.env.locals m -> h'.Ns X.env.locals m) (hok:HOk X.prog X.w H' h') (hg:AllBare g') :
  Inv X pins σ H' { s with heap:=h',gens:=g',drawn:=d',toks:=t' }:=by
 have neL:∀ b o,X.s₀.heap.get? b = some o -> b ≠ X.env.locals:=fun b o e=>Nat.ne_of_lt (Nat.lt_of_lt_of_le (Heap.lt_size e) I.ok.above)
 have neC:∀ b o,X.s₀.heap.get? b = some o -> b ∉ X.ex -> b ∉ ch:=fun b o e hx hb=>by
  rcases (hch b hb).1 with z | z
  ·exact hx z
  ·exact absurd (Nat.lt_of_lt_of_le (Heap.lt_size e) z) (Nat.lt_irrefl _)
 have cellK:∀ x c,X.env.cells.lookup x = some c -> ∀ v,s.heap.IsCell c v -> h'.IsCell c v:=fun x c e v ⟨o,ho,hd⟩=>by
  have nch:c ∉ ch:=fun z=>(hch c z).2.2.1 x c e rfl
  by_cases hc:c ∈ X.fs
  ·obtain ⟨sl,q⟩:=slot c o (I.cne x c e) hc nch ho (I.freeC x c e)
   exact ⟨_,q,hd⟩
  ·exact ⟨o,keep c o (I.cne x c e) hc nch ho (I.freeC x c e),hd⟩
 refine ⟨I.ok,I.os,hg,⟨fun b o e n hb hx=>?_,fun b o e n hb hx=>?_,fun b o e n hx=>?_,fun b o e hx=>?_,fun b xs e=>tups b xs (I.base.tups b xs e),fun b o xs e=>frzs b o xs (I.base.frzs b o xs e),fun b ps e=>?_⟩,?_,fun x c e=>?_,?_,fun x c e=>?_,fun p hp=>?_,hok,I.len⟩
 ·exact keep b o (neL b o e) hb (neC b o e hx) (I.base.keep b o e n hb hx) (I.base.free b o e n hx)
 ·obtain ⟨sl,e1⟩:=I.base.slot b o e n hb hx
  obtain ⟨sl',e2⟩:=slot b _ (neL b o e) hb (neC b o e hx) e1 (I.base.free b o e n hx)
  exact ⟨sl',e2⟩
 ·obtain ⟨o',e1⟩:=I.base.there b o e hx
  exact free b o' (neC b o e hx) e1 (I.base.free b o e n hx)
 ·obtain ⟨o',e1⟩:=I.base.there b o e hx
  exact there b o' (neC b o e hx) e1
 ·obtain ⟨m1,e1⟩:=I.base.tbls b ps e
  obtain ⟨m2,e2⟩:=tbls b _ e1
  exact ⟨m1 ++ m2,by rw [e2,Array.append_assoc]⟩
 ·obtain ⟨m,hn,hl⟩:=I.loc
  refine ⟨m,ns m hn,fun i x v e1 e2 e3=>?_⟩
  obtain ⟨u,r,l⟩:=hl i x v e1 e2 e3
  refine ⟨u,r,?_⟩
  rcases l with l | ⟨k,c,e,z⟩
  ·exact .inl l
  ·exact .inr ⟨k,c,e,cellK x c e _ z⟩
 ·obtain ⟨v,z⟩:=I.cell x c e
  exact ⟨v,cellK x c e v z⟩
 ·obtain ⟨m,⟨o,_,_,ho,_⟩,_⟩:=I.loc
  exact free _ o (fun z=>(hch _ z).2.1 rfl) ho I.free
 ·obtain ⟨v,o,ho,hd⟩:=I.cell x c e
  exact free c o (fun z=>(hch c z).2.2.1 x c e rfl) ho (I.freeC x c e)
 ·obtain ⟨e,n,ne,nf,d⟩:=I.pin p hp
  have nch:p.1 ∉ ch:=fun z=>(hch p.1 z).2.2.2 p hp rfl
  exact ⟨keep p.1 p.2 ne nf nch e n,free p.1 p.2 nch e n,ne,nf,d⟩
theorem Inv.un {t':Nat} (I:Inv X pins σ H s) (u:Un X.fs [] H H' s.heap h') (hok:HOk X.prog X.w H' h'):Inv X pins σ H' { s with heap:=h',toks:=t' }:=by
 obtain ⟨m,⟨o,es,ep,ho,r⟩,_⟩:=id I.loc
 obtain ⟨sl,hL⟩:=u.any ho I.free (by simp)
 exact I.step (g':=s.gens) (d':=s.drawn) (ch:=[]) (fun _ z=>nomatch z) (fun b o _ hb _ e n=>u.keep b o e n hb (by simp)) (fun b o _ hb _ e n=>u.slot b o e n hb (by simp)) (fun b o _ e n=>u.free b o e n (by simp)) (fun b o _ e=>u.there b o e (by simp)) u.tups u.frzs u.tbls (fun m' hm=>by
  obtain ⟨o',es',ep',ho',r'⟩:=hm
  rw [ho] at ho'; cases ho'
  exact ⟨_,es',ep',hL,r'⟩) hok I.bare
theorem Inv.call {g':Array GenState} {t':Nat} {d':Drawn} {ch:List Addr} (I:Inv X pins σ H s) (u:Un (frs X.stack) ch H H' s.heap h') (hok:HOk X.prog X.w H' h') (hg:AllBare g')
  (hch:∀ b ∈ ch,(b ∈ X.ex \/ X.s₀.heap.objs.size <= b) /\ b ≠ X.env.locals /\ (∀ x c,X.env.cells.lookup x = some c -> c ≠ b) /\ ∀ p ∈ X.pn ++ pins,p.1 ≠ b) :
  Inv X pins σ H' { s with heap:=h',gens:=g',drawn:=d',toks:=t' }:=by
 obtain ⟨m,⟨o,es,ep,ho,r⟩,_⟩:=id I.loc
 obtain ⟨sl,hL⟩:=u.any ho I.free fun z=>(hch _ z).2.1 rfl
 exact I.step (ch:=ch) hch (fun b o hL hb hc e n=>u.keep b o e n (fun z=>(List.mem_cons.mp (I.stkSub b z)).elim hL hb) hc) (fun b o _ _ hc e n=>u.any e n hc) (fun b o hc e n=>u.free b o e n hc) (fun b o hc e=>u.there b o e hc) u.tups u.frzs u.tbls (fun m' hm=>by
  obtain ⟨o',es',ep',ho',r'⟩:=hm
  rw [ho] at ho'; cases ho'
  exact ⟨_,es',ep',hL,r'⟩) hok hg
theorem Inv.turned {t':Nat} {it:Addr} (I:Inv X pins σ H s) (k:∀ b o,b ≠ it -> s.heap.get? b = some o -> h'.get? b = some o) (hn:H it = none) (hL:it ≠ X.env.locals)
  (h1:it ∈ X.ex \/ X.s₀.heap.objs.size <= it) (h2:∀ x c,X.env.cells.lookup x = some c -> c ≠ it) (h3:∀ p ∈ X.pn ++ pins,p.1 ≠ it):Inv X pins σ H { s with heap:=h',toks:=t' }:=by
 have nit:∀ b u,H b = some u -> b ≠ it:=fun b u e z=>by rw [z,hn] at e; cases e
 refine I.step (g':=s.gens) (d':=s.drawn) (ch:=[it]) (fun b hb=>?_) (fun b o _ _ hc e _=>k b o (fun z=>hc (by simp [z])) e) (fun b o _ _ hc e _=>⟨o.slots,k b o (fun z=>hc (by simp [z])) e⟩) (fun _ _ _ _ n=>n)
  (fun b o hc e=>⟨o,k b o (fun z=>hc (by simp [z])) e⟩) (fun _ _ e=>e) (fun _ _ _ e=>e) (fun b ps e=>⟨#[],by rw [e]; simp⟩) (fun m hm=>?_) (fun b u e=>?_) I.bare
 ·have e:b = it:=by simpa using hb
  subst e
  exact ⟨h1,hL,h2,h3⟩
 ·obtain ⟨o,es,ep,ho,r⟩:=hm
  exact ⟨o,es,ep,k _ o (Ne.symm hL) ho,r⟩
 ·refine (I.hok b u e).stay (fun c v hc q=>k c v ?_ q) (fun _ q=>q) fun _ _ q=>q
  rcases hc with z | z
  ·rw [z]; exact nit b u e
  ·exact nit c _ z
theorem Inv.tok (I:Inv X pins σ H s) (t:Nat):Inv X pins σ H { s with toks:=t }:=I.un (h':=s.heap) (t':=t) Un.refl I.hok
theorem Inv.kept {t':Nat} (I:Inv X pins σ H s) (k:∀ b u,s.heap.get? b = some u -> h'.get? b = some u):Inv X pins σ H { s with heap:=h',toks:=t' }:=I.un (Un.kept k) (I.hok.kept k)
theorem Inv.laid {a:Addr} {o:HO} {t':Nat} (I:Inv X pins σ H s) (k:∀ b u,s.heap.get? b = some u -> h'.get? b = some u) (hp:s.heap.objs.size <= a) (new:ObjOk X.prog X.w (upd H a o) h' a o) :
  Inv X pins σ (upd H a o) { s with heap:=h',toks:=t' }:=I.un (Un.laid k hp (I.hok.fresh hp)) (I.hok.laid k hp new)
theorem Inv.write {x e:Addr} {o:HO} {t':Nat} (I:Inv X pins σ H s) (mu:Mut (H x)) (he:e = x \/ H e = some (.own x)) (k:∀ b u,b ≠ e -> s.heap.get? b = some u -> h'.get? b = some u) (heo:∃ u,h'.get? e = some u)
  (new:ObjOk X.prog X.w (upd H x o) h' x o):Inv X pins σ (upd H x o) { s with heap:=h',toks:=t' }:=I.un (Un.write mu he k heo) (I.hok.write mu he k heo new)
theorem Inv.pins_of {pins':List (Addr × Obj)} (I:Inv X pins σ H s) (h:∀ p ∈ pins',s.heap.get? p.1 = some p.2 /\ H p.1 = none /\ p.1 ≠ X.env.locals /\ p.1 ∉ X.fs /\ ∀ v,p.2.data ≠ .cell v):Inv X pins' σ H s:=
 ⟨I.ok,I.os,I.bare,I.base,I.loc,I.cell,I.free,I.freeC,fun p hp=>(List.mem_append.mp hp).elim (fun z=>I.pin p (List.mem_append_left _ z)) (h p),I.hok,I.len⟩
theorem JbU {N:List Str} (hN:N.Nodup) {i j:Nat} {x:Str} (a:N[i]? = some x) (b:N[j]? = some x):i = j:=by
 obtain ⟨h1,e1⟩:=List.getElem?_eq_some_iff.mp a
 obtain ⟨h2,e2⟩:=List.getElem?_eq_some_iff.mp b
 exact (List.getElem_inj hN).mp (e1.trans e2.symm)
theorem Jdy {M:Model} {A:Around} {E:Value -> Shared -> Prop} {i:Nat} {x:Str} {v:V} {u:Value} {Q:Unit -> Shared -> Prop} (I:Inv X pins σ H s) (hN:X.N.Nodup) (hi:X.N[i]? = some x) (hx:Loc X.env.scope x) (r:RelV v u)
  (h:∀ s',Inv X pins (σ.set i (some v)) H s' -> (∃ a,Heap.SameBut a s.heap s'.heap /\ (a = X.env.locals \/ X.env.cells.lookup x = some a)) -> Q () s') (hf:X.fn x = true \/ X.env.scope.names.lookup x = some .local:=by first | exact .inl rfl | exact .inr rfl | assumption):wpAny M A (storeName X.env x u) Q E s:=by
 obtain ⟨m,hn,hl⟩:=id I.loc
 have hcls:(X.env.scope.kind == .class || (X.env.scope.kind == .module && X.env.locals != X.env.globals)) = false:=by rw [I.ok.kind]; rfl
 have hiσ:i < σ.length:=by rw [I.len]; exact (List.getElem?_eq_some_iff.mp hi).1
 have cne:=I.cne
 have tracked:∀ {a:Addr} {h':Heap},(∃ o,s.heap.get? a = some o /\ H a = none) -> Heap.SameBut a s.heap h' -> HOk X.prog X.w H h':=fun {a h'} ha hs b ob e=>by
  obtain ⟨_,_,hfree⟩:=ha
  refine (I.hok b ob e).stay (fun c w' hc q=>(hs.2 c ?_).trans q) (fun _ q=>q) fun _ _ q=>q
  rintro rfl
  rcases hc with rfl | hc
  ·rw [hfree] at e; cases e
  ·rw [hfree] at hc; cases hc
 rcases hx with hk | hk
 ·refine wpAny_storeName_local hk hn (fun h' hn' hs=>?_) hcls
  obtain ⟨oL,_,_,hoL,_⟩:=id hn
  refine h _ ⟨I.ok,I.os,I.bare,⟨fun b o e n hb hx=>?_,fun b o e n hb hx=>?_,I.base.free,fun b o e hx=>?_,I.base.tups,I.base.frzs,I.base.tbls⟩,⟨_,hn',fun j y v' e1 e2 e3=>?_⟩,fun y c e=>?_,I.free,I.freeC,fun p hp=>?_,tracked ⟨oL,hoL,I.free⟩ hs,by simpa using I.len⟩ ⟨_,hs,.inl rfl⟩
  ·exact (hs.2 b (Nat.ne_of_lt (Nat.lt_of_lt_of_le (Heap.lt_size e) I.ok.above))).trans (I.base.keep b o e n hb hx)
  ·obtain ⟨sl,e1⟩:=I.base.slot b o e n hb hx
   exact ⟨sl,(hs.2 b (Nat.ne_of_lt (Nat.lt_of_lt_of_le (Heap.lt_size e) I.ok.above))).trans e1⟩
  ·obtain ⟨o',e1⟩:=I.base.there b o e hx
   exact ⟨o',(hs.2 b (Nat.ne_of_lt (Nat.lt_of_lt_of_le (Heap.lt_size e) I.ok.above))).trans e1⟩
  ·by_cases hj:j = i
   ·subst hj
    rw [hi] at e1; cases e1
    rw [List.getElem?_set_self hiσ] at e2
    cases e2
    exact ⟨u,r,.inl ⟨hk,by simp⟩⟩
   ·rw [List.getElem?_set_ne (Ne.symm hj)] at e2
    obtain ⟨u',r',q⟩:=hl j y v' e1 e2 e3
    refine ⟨u',r',?_⟩
    rcases q with ⟨k,e⟩ | ⟨k,c,e,z⟩
    ·refine .inl ⟨k,?_⟩
     have:y ≠ x:=fun e=>hj (JbU hN e1 (e ▸ hi))
     simp [this,e]
    ·exact .inr ⟨k,c,e,z.sameBut hs (cne y c e)⟩
  ·obtain ⟨w',z⟩:=I.cell y c e
   exact ⟨w',z.sameBut hs (cne y c e)⟩
  ·obtain ⟨e,n,ne,nf,d⟩:=I.pin p hp
   exact ⟨(hs.2 p.1 ne).trans e,n,ne,nf,d⟩
 ·have hfn:X.fn x = true:=by
   rcases hf with z | z
   ·exact z
   ·rw [z] at hk; cases hk
  obtain ⟨c,hc⟩:=I.ok.has x (.inl hk)
  obtain ⟨w',z⟩:=I.cell x c hc
  refine wpAny_storeName_cell I.ok.kind hk hc z (fun h' hc' hs=>?_)
  obtain ⟨oc,hoc,hocd⟩:=id z
  refine h { s with heap:=h' } ⟨I.ok,I.os,I.bare,⟨fun b o e n hb hx=>?_,fun b o e n hb hx=>?_,I.base.free,fun b o e hx=>?_,I.base.tups,I.base.frzs,I.base.tbls⟩,⟨m,hn.sameBut hs (Ne.symm (cne x c hc)),fun j y v' e1 e2 e3=>?_⟩,fun y c' e=>?_,I.free,I.freeC,fun p hp=>?_,tracked ⟨oc,hoc,I.freeC x c hc⟩ hs,by simpa using I.len⟩ ⟨c,hs,.inr hc⟩
  ·exact (hs.2 b (Nat.ne_of_lt (Nat.lt_of_lt_of_le (Heap.lt_size e) (I.ok.cab x c hfn hc)))).trans (I.base.keep b o e n hb hx)
  ·obtain ⟨sl,e1⟩:=I.base.slot b o e n hb hx
   exact ⟨sl,(hs.2 b (Nat.ne_of_lt (Nat.lt_of_lt_of_le (Heap.lt_size e) (I.ok.cab x c hfn hc)))).trans e1⟩
  ·obtain ⟨o',e1⟩:=I.base.there b o e hx
   exact ⟨o',(hs.2 b (Nat.ne_of_lt (Nat.lt_of_lt_of_le (Heap.lt_size e) (I.ok.cab x c hfn hc)))).trans e1⟩
  ·by_cases hj:j = i
   ·subst hj
    rw [hi] at e1; cases e1
    rw [List.getElem?_set_self hiσ] at e2
    cases e2
    exact ⟨u,r,.inr ⟨.inl hk,c,hc,hc'⟩⟩
   ·rw [List.getElem?_set_ne (Ne.symm hj)] at e2
    obtain ⟨u',r',q⟩:=hl j y v' e1 e2 e3
    refine ⟨u',r',?_⟩
    rcases q with q | ⟨k,c',e,z'⟩
    ·exact .inl q
    ·refine .inr ⟨k,c',e,z'.sameBut hs ?_⟩
     rintro rfl
     exact hj (JbU hN e1 (I.ok.inj _ _ _ e hc ▸ hi))
  ·by_cases hcc:c' = c
   ·subst hcc; exact ⟨_,hc'⟩
   ·obtain ⟨w2,z2⟩:=I.cell y c' e
    exact ⟨w2,z2.sameBut hs hcc⟩
  ·obtain ⟨e,n,ne,nf,d⟩:=I.pin p hp
   refine ⟨(hs.2 p.1 ?_).trans e,n,ne,nf,d⟩
   intro q
   rw [q,hoc] at e
   have q':oc = p.2:=Option.some.inj e
   exact d w' (by rw [<- q']; exact hocd)
theorem JaR {M:Model} {A:Around} {E:Value -> Shared -> Prop} {i:Nat} {x:Str} {v:V} {u:Value} {Q:Unit -> Shared -> Prop} (I:Inv X pins σ H s) (hN:X.N.Nodup) (hi:X.N[i]? = some x) (hx:Loc X.env.scope x) (r:RelV v u)
  (h:∀ s',Inv X pins (σ.set i (some v)) H s' -> Q () s') (hf:X.fn x = true \/ X.env.scope.names.lookup x = some .local:=by first | exact .inl rfl | exact .inr rfl | assumption):wpAny M A (storeName X.env x u) Q E s:=
 Jdy I hN hi hx r (fun s' I' _=>h s' I') hf
theorem Inv.call' {s':Shared} {ch:List Addr} (I:Inv X pins σ H s) (ho:s'.os = s.os) (u:Un (frs X.stack) ch H H' s.heap s'.heap) (hok:HOk X.prog X.w H' s'.heap) (hg:AllBare s'.gens)
  (hch:∀ b ∈ ch,(b ∈ X.ex \/ X.s₀.heap.objs.size <= b) /\ b ≠ X.env.locals /\ (∀ x c,X.env.cells.lookup x = some c -> c ≠ b) /\ ∀ p ∈ X.pn ++ pins,p.1 ≠ b):Inv X pins σ H' s':=by
 obtain ⟨h',g',d',t',o'⟩:=s'
 have e:o' = s.os:=ho
 subst e
 exact I.call (g':=g') (t':=t') (d':=d') u hok hg hch
end
abbrev XK:=Value -> Option Addr -> Hp -> Prop
abbrev St:=List (Option V)
abbrev VK:=V -> Hp -> Prop
abbrev TE:=St -> Hp -> VK -> Prop
abbrev TT:=St -> Hp -> (Bool -> Hp -> Prop) -> Prop
abbrev TA:=St -> Hp -> (List V -> Hp -> Prop) -> Prop
structure Ends where
 nx:St -> Hp -> Prop
 rt:VK
 bk:St -> Hp -> Prop:=fun _ _=>False
 ct:St -> Hp -> Prop:=fun _ _=>False
abbrev TS:=Ends -> St -> Hp -> Prop
def EP (X:Cx) (pins:List (Addr × Obj)) (σ:St) (Q:VK) (u:Value) (s':Shared):Prop:=∃ v H',Inv X pins σ H' s' /\ RelV v u /\ Q v H'
def TP (X:Cx) (pins:List (Addr × Obj)) (σ:St) (Q:Bool -> Hp -> Prop) (b:Bool) (s':Shared):Prop:=∃ H',Inv X pins σ H' s' /\ Q b H'
def AP (X:Cx) (pins:List (Addr × Obj)) (σ:St) (Q:List V -> Hp -> Prop) (us:List Value) (s':Shared):Prop:=∃ vs H',Inv X pins σ H' s' /\ Vals vs us /\ Q vs H'
def SP (X:Cx) (pins:List (Addr × Obj)) (D:Ends) (f:Flow) (s':Shared):Prop:=
 match f with
 | .next=>∃ σ' H',Inv X pins σ' H' s' /\ D.nx σ' H'
 | .brk=>∃ σ' H',Inv X pins σ' H' s' /\ D.bk σ' H'
 | .cont=>∃ σ' H',Inv X pins σ' H' s' /\ D.ct σ' H'
 | .ret u=>∃ v σ' H',Inv X pins σ' H' s' /\ RelV v u /\ D.rt v H'
def PE (X:Cx) (e:Expr) (t:TE):Prop:=
 ∀ (pins:List (Addr × Obj)) (s:Shared) (σ:St) (H:Hp) (Q:VK),Inv X pins σ H s -> t σ H Q -> wpAny (model X.prog X.w) X.A (eval e X.env) (EP X pins σ Q) X.xe s
def PT (X:Cx) (e:Expr) (t:TT):Prop:=
 ∀ (pins:List (Addr × Obj)) (s:Shared) (σ:St) (H:Hp) (Q:Bool -> Hp -> Prop),Inv X pins σ H s -> t σ H Q -> wpAny (model X.prog X.w) X.A (isTrue e X.env (eval e X.env)) (TP X pins σ Q) X.xe s
def PW (X:Cx) (e:Expr) (t:TT):Prop:=
 ∀ (whole:Sem Value) (pins:List (Addr × Obj)) (s:Shared) (σ:St) (H:Hp) (Q:Bool -> Hp -> Prop),Inv X pins σ H s -> t σ H Q -> wpAny (model X.prog X.w) X.A (isTrue e X.env whole) (TP X pins σ Q) X.xe s
theorem PW.pt {X:Cx} {e:Expr} {t:TT} (h:PW X e t):PT X e t:=h _
def PA (X:Cx) (es:List Expr) (t:TA):Prop:=
 ∀ (pos:Pos) (pins:List (Addr × Obj)) (s:Shared) (σ:St) (H:Hp) (Q:List V -> Hp -> Prop),Inv X pins σ H s -> t σ H Q -> wpAny (model X.prog X.w) X.A (spliced (backTo pos (starEach es X.env))) (AP X pins σ Q) X.xe s
def PS (X:Cx) (st:Stmt) (t:TS):Prop:=
 ∀ (pins:List (Addr × Obj)) (s:Shared) (σ:St) (H:Hp) (D:Ends),Inv X pins σ H s -> t D σ H -> wpAny (model X.prog X.w) X.A (exec st X.env) (SP X pins D) X.xe s
def PSs (X:Cx) (st:List Stmt) (t:TS):Prop:=
 ∀ (pins:List (Addr × Obj)) (s:Shared) (σ:St) (H:Hp) (D:Ends),Inv X pins σ H s -> t D σ H -> wpAny (model X.prog X.w) X.A (execs st X.env) (SP X pins D) X.xe s
theorem thn {α:Type} {t:Sem α} {Q Q':α -> Shared -> Prop} {M:Model} {A:Around} {E:Value -> Shared -> Prop} {s:Shared} (h:wpAny M A t Q E s) (hQ:∀ a s,Q a s -> Q' a s):wpAny M A t Q' E s:=wpAny_mono h hQ fun _ _ x=>x
end L2
namespace L2
open PySem PySem.Spec PyProof.Rows
section
variable {X:Cx}
theorem bin {a b:Expr} {ta tb:TE} (ha:PE X a ta) (hb:PE X b tb) {pins:List (Addr × Obj)} {s:Shared} {σ:St} {H:Hp} {R:V -> V -> Hp -> Prop} (I:Inv X pins σ H s) (h:ta σ H fun x H1=>tb σ H1 fun y H2=>R x y H2)
  {α:Type} {Q:α -> Shared -> Prop} {f:Value -> Value -> Sem α}
  (hf:∀ v u s2 x y H2,Inv X pins σ H2 s2 -> RelV x v -> RelV y u -> R x y H2 -> wpAny (model X.prog X.w) X.A (f v u) Q X.xe s2) :
  wpAny (model X.prog X.w) X.A (eval a X.env) (fun v s₁=>wpAny (model X.prog X.w) X.A (eval b X.env) (fun u s₂=>wpAny (model X.prog X.w) X.A (f v u) Q X.xe s₂) X.xe s₁) X.xe s:=by
 refine thn (ha pins s σ H _ I h) fun v s1 ⟨x,H1,I1,r1,q1⟩=>?_
 refine thn (hb pins s1 σ H1 _ I1 q1) fun u s2 ⟨y,H2,I2,r2,q2⟩=>?_
 exact hf v u s2 x y H2 I2 r1 r2 q2
def tVar (i:Nat):TE:=fun σ H Q=>∃ v,σ[i]? = some (some v) /\ Q v H
def tC (v:V):TE:=fun _ H Q=>Q v H
theorem Jbm {i:Nat} {x:Str} {pos:Pos} (hN:X.N[i]? = some x) (hv:Vis X.env.scope x) (hd:(x == ("__debug__" : Str)) = false:=by decide) (hcd:(x == ("__classdict__" : Str)) = false:=by decide):PE X (.Name x pos) (tVar i):=by
 intro pins s σ H Q I h
 obtain ⟨v,e,h⟩:=h
 obtain ⟨m,hn,hl⟩:=I.loc
 obtain ⟨u,r,l⟩:=hl i x v hN e hv
 have fin:EP X pins σ Q u s:=⟨v,H,I,r,h⟩
 rcases l with ⟨hk,hm⟩ | ⟨hk,c,hc,hcell⟩
 ·exact wpAny_Name (wpAny_loadName_local I.ok.kind hk hn hm fin) hd
 ·rcases hk with hk | hk
  ·exact wpAny_Name (wpAny_loadName_cell I.ok.kind hk hc hcell fin) hd
  ·exact wpAny_Name (wpAny_loadName_free I.ok.kind hk hc hcell fin hcd) hd
theorem Jhm {i j pos}:PE X (.Constant (.int i) j pos) (tC (.int i)):=fun _ _ _ H _ I h=>wpAny_Constant_int ⟨.int i,H,I.tok _,⟨_,rfl⟩,h⟩
theorem pe_bl {b j pos}:PE X (.Constant (.bool b) j pos) (tC (.bl b)):=fun _ _ _ H _ I h=>Constant_bool ⟨.bl b,H,I,rfl,h⟩
theorem JgH {j pos}:PE X (.Constant .none j pos) (tC .non):=fun _ _ _ H _ I h=>Constant_none ⟨.non,H,I,rfl,h⟩
theorem Jff {x j pos}:PE X (.Constant (.str x) j pos) (tC (.str x)):=fun _ _ _ H _ I h=>Calls.Constant_str ⟨.str x,H,I.tok _,⟨_,rfl⟩,h⟩
def Gl (X:Cx) (x:Str):Prop:=X.env.kindOf x = some .globalImplicit
theorem JR {E:Value -> Shared -> Prop} {pins:List (Addr × Obj)} {s:Shared} {σ:St} {H:Hp} {x:Str} {u:Value} {pos:Pos} {Q:Value -> Shared -> Prop} (I:Inv X pins σ H s) (hg:Gl X x) (hm:X.mg x = some u) (h:Q u s)
  (hd:(x == ("__debug__" : Str)) = false:=by decide):wpAny (model X.prog X.w) X.A (eval (.Name x pos) X.env) Q E s:=
 Calls.Name_function_global I.ok.kind hg (Calls.loadGlobal_global (by rw [I.ok.glob]; exact I.mod.glob.keeps I.bk) hm h) hd
theorem Jcd {E:Value -> Shared -> Prop} {pins:List (Addr × Obj)} {s:Shared} {σ:St} {H:Hp} {x:Str} {u:Value} {pos:Pos} {Q:Value -> Shared -> Prop} (I:Inv X pins σ H s) (hg:Gl X x) (hm:X.mg x = none) (hv:bootBuiltins x = some u) (h:Q u s)
  (hn:x ≠ "__name__":=by decide) (hd:(x == ("__debug__" : Str)) = false:=by decide):wpAny (model X.prog X.w) X.A (eval (.Name x pos) X.env) Q E s:=by
 obtain ⟨mb,h1,h2⟩:=I.mod.blt
 exact Calls.Name_function_global I.ok.kind hg (Calls.loadGlobal_builtin (by rw [I.ok.glob]; exact I.mod.glob.keeps I.bk) hm (by rw [I.ok.blt]; exact h1.keeps I.bk) ((h2 x hn).trans hv) h) hd
theorem JdK {x:Str} {v:V} {u:Value} {pos:Pos} (hg:Gl X x) (hm:X.mg x = some u) (r:RelV v u) (hd:(x == ("__debug__" : Str)) = false:=by decide):PE X (.Name x pos) (tC v):=
 fun _ _ _ H _ I h=>JR I hg hm ⟨v,H,I,r,h⟩ hd
theorem JdH {x:Str} {v:V} {u:Value} {pos:Pos} (hg:Gl X x) (hm:X.mg x = none) (hv:bootBuiltins x = some u) (r:RelV v u) (hn:x ≠ "__name__":=by decide) (hd:(x == ("__debug__" : Str)) = false:=by decide):PE X (.Name x pos) (tC v):=
 fun _ _ _ H _ I h=>Jcd I hg hm hv ⟨v,H,I,r,h⟩ hn hd
def t2I (ta tb:TE) (k:Int -> Int -> Hp -> Prop):St -> Hp -> Prop:=fun σ H=>ta σ H fun x H1=>tb σ H1 fun y H2=>∃ i j,x = .int i /\ y = .int j /\ k i j H2
variable {a b:Expr} {ta tb:TE} {pos:Pos}
def PC (X:Cx) (op:CmpOp) (a b:Expr) (t:TE):Prop:=
 ∀ (pins:List (Addr × Obj)) (s:Shared) (σ:St) (H:Hp) (Q:VK),Inv X pins σ H s -> t σ H Q ->
  wpAny (model X.prog X.w) X.A (eval a X.env) (fun v s₁=>wpAny (model X.prog X.w) X.A (eval b X.env) (fun u s₂=>wpAny (model X.prog X.w) X.A (compareOp op v u) (EP X pins σ Q) X.xe s₂) X.xe s₁) X.xe s
theorem JeJ (b:Expr) {op:CmpOp} (h:op ≠ .In) (h2:op ≠ .NotIn):behindInMarks op b = false:=by
 have e1:(op == CmpOp.In) = false:=by cases op <;> first | rfl | exact absurd rfl h
 have e2:(op == CmpOp.NotIn) = false:=by cases op <;> first | rfl | exact absurd rfl h2
 cases b <;> simp [behindInMarks,e1,e2]
def tCmp (p:Int -> Int -> Bool) (ta tb:TE):TE:=fun σ H Q=>t2I ta tb (fun i j H2=>Q (.bl (p i j)) H2) σ H
abbrev tLt:TE -> TE -> TE:=tCmp fun i j=>decide (i < j)
abbrev tGt:TE -> TE -> TE:=tCmp fun i j=>decide (j < i)
def tIsN (ta:TE):TE:=fun σ H Q=>ta σ H fun x H1=>Q (.bl (decide (x = .non))) H1
theorem RelV.none_iff {x:V} {v:Value} (r:RelV x v):(v == Value.none) = decide (x = .non):=by
 cases x with
 | non=>cases r; rfl
 | bl _=>cases r; rfl
 | int _=>obtain ⟨t,rfl⟩:=r; rfl
 | str _=>obtain ⟨t,rfl⟩:=r; rfl
 | byt _=>obtain ⟨t,rfl⟩:=r; rfl
 | flt _=>obtain ⟨t,rfl⟩:=r; rfl
 | ref _=>cases r; rfl
 | ty _=>cases r; rfl
theorem Jgs {j pos'} (ha:PE X a ta):PC X .Is a (.Constant .none j pos') (tIsN ta):=by
 intro pins s σ H Q I h
 refine thn (ha pins s σ H _ I h) fun v s1 ⟨x,H1,I1,r1,q1⟩=>?_
 exact Constant_none (is_none_gen ⟨.bl _,H1,I1,by rw [r1.none_iff]; rfl,q1⟩)
def tB (t:TE):TT:=fun σ H Q=>t σ H fun x H1=>∃ c,x = .bl c /\ Q c H1
theorem JgK {op:CmpOp} {t:TE} (h:PC X op a b t) (h1:behindInMarks op b = false:=by first | exact JeJ _ (by decide) (by decide) | rfl):PT X (.Compare a [op] [b] pos) (tB t):=by
 intro pins s σ H Q I hw
 refine wpAny_isTrue_Compare1 (thn (h pins s σ H _ I hw) fun v s1 h1=>thn h1 fun u s2 h2=>thn h2 fun c s3 ⟨x,H1,I1,r1,q1⟩=>?_) h1
 obtain ⟨d,rfl,q⟩:=q1
 cases r1
 exact wpAny_truthy_bool ⟨H1,I1,q⟩
variable {tA tB':TT} {rest:List Expr}
def tAnd (t u:TT):TT:=fun σ H Q=>t σ H fun c H1=>if c = true then u σ H1 Q else Q false H1
def tOr (t u:TT):TT:=fun σ H Q=>t σ H fun c H1=>if c = true then Q true H1 else u σ H1 Q
def tNot (t:TT):TT:=fun σ H Q=>t σ H fun c H1=>Q (!c) H1
theorem JfF (ha:PT X a tA):PW X (.BoolOp .And [a] pos) tA:=by
 intro wh pins s σ H Q I h
 refine isTrue_and (thn (ha pins s σ H Q I h) fun c s1 e=>?_)
 cases c with
 | true=>exact isTrue_and_nil e
 | false=>exact e
theorem JgP (ha:PT X a tA):PW X (.BoolOp .Or [a] pos) tA:=by
 intro wh pins s σ H Q I h
 refine isTrue_or (thn (ha pins s σ H Q I h) fun c s1 e=>?_)
 cases c with
 | false=>exact isTrue_or_nil e
 | true=>exact e
theorem JgR (ha:PT X a tA) (hb:PW X (.BoolOp .And (b :: rest) pos) tB'):PW X (.BoolOp .And (a :: b :: rest) pos) (tAnd tA tB'):=by
 intro wh pins s σ H Q I h
 refine isTrue_and (thn (ha pins s σ H _ I h) fun c s1 ⟨H1,I1,q1⟩=>?_)
 cases c with
 | true=>exact hb wh pins s1 σ H1 Q I1 q1
 | false=>exact ⟨H1,I1,q1⟩
theorem pw_or (ha:PT X a tA) (hb:PW X (.BoolOp .Or (b :: rest) pos) tB'):PW X (.BoolOp .Or (a :: b :: rest) pos) (tOr tA tB'):=by
 intro wh pins s σ H Q I h
 refine isTrue_or (thn (ha pins s σ H _ I h) fun c s1 ⟨H1,I1,q1⟩=>?_)
 cases c with
 | true=>exact ⟨H1,I1,q1⟩
 | false=>exact hb wh pins s1 σ H1 Q I1 q1
theorem Jgq (ha:PT X a tA):PT X (.UnaryOp .Not a pos) (tNot tA):=by
 intro pins s σ H Q I h
 exact isTrue_not (ha pins s σ H (fun c H1=>Q (!c) H1) I h)
def tAndV (ta tb:TE):TE:=fun σ H Q=>ta σ H fun x H1=>∃ c,x = .bl c /\ if c = true then tb σ H1 Q else Q (.bl false) H1
def tOrV (ta tb:TE):TE:=fun σ H Q=>ta σ H fun x H1=>∃ c,x = .bl c /\ if c = true then Q (.bl true) H1 else tb σ H1 Q
def tNotV (ta:TE):TE:=fun σ H Q=>ta σ H fun x H1=>∃ c,x = .bl c /\ Q (.bl (!c)) H1
theorem JhG {op} {t:TE} (h:PE X a t):PE X (.BoolOp op [a] pos) t:=fun pins s σ H Q I hw=>BoolOp_one (h pins s σ H Q I hw)
theorem JgS (ha:PE X a ta) (hb:PE X (.BoolOp .And (b :: rest) pos) tb):PE X (.BoolOp .And (a :: b :: rest) pos) (tAndV ta tb):=by
 intro pins s σ H Q I h
 refine BoolOp_and (thn (ha pins s σ H _ I h) fun v s1 ⟨x,H1,I1,r1,q1⟩=>?_)
 obtain ⟨c,rfl,q1⟩:=q1
 cases r1
 refine wpAny_truthy_bool ?_
 cases c with
 | true=>exact hb pins s1 σ H1 Q I1 q1
 | false=>exact ⟨.bl false,H1,I1,rfl,q1⟩
theorem pe_or (ha:PE X a ta) (hb:PE X (.BoolOp .Or (b :: rest) pos) tb):PE X (.BoolOp .Or (a :: b :: rest) pos) (tOrV ta tb):=by
 intro pins s σ H Q I h
 refine BoolOp_or (thn (ha pins s σ H _ I h) fun v s1 ⟨x,H1,I1,r1,q1⟩=>?_)
 obtain ⟨c,rfl,q1⟩:=q1
 cases r1
 refine wpAny_truthy_bool ?_
 cases c with
 | false=>exact hb pins s1 σ H1 Q I1 q1
 | true=>exact ⟨.bl true,H1,I1,rfl,q1⟩
theorem Jgx (ha:PE X a ta):PE X (.UnaryOp .Not a pos) (tNotV ta):=by
 intro pins s σ H Q I h
 refine UnaryOp_ (thn (ha pins s σ H _ I h) fun v s1 ⟨x,H1,I1,r1,q1⟩=>?_)
 obtain ⟨c,rfl,q1⟩:=q1
 cases r1
 exact not_of (wpAny_truthy_bool ⟨.bl (!c),H1,I1,rfl,q1⟩)
def tIf (t:TT) (ta tb:TE):TE:=fun σ H Q=>t σ H fun c H1=>if c = true then ta σ H1 Q else tb σ H1 Q
theorem JeK {c:Expr} (hc:PT X c tA) (ha:PE X a ta) (hb:PE X b tb):PE X (.IfExp c a b pos) (tIf tA ta tb):=by
 intro pins s σ H Q I h
 refine wpAny_IfExp (thn (hc pins s σ H _ I h) fun d s1 ⟨H1,I1,q1⟩=>?_)
 cases d with
 | true=>exact ha pins s1 σ H1 Q I1 q1
 | false=>exact hb pins s1 σ H1 Q I1 q1
end
end L2
namespace L2
open PySem PySem.Spec PyProof.Rows
def SqL (K:PySem.W.Frag) (H:Hp) (a:Addr) (xs:List V):Prop:=
 Rd H a (.lst xs) \/
  ∃ (o:Obj) (its:Array Value) (n:Nat),K.lookup a = some o /\ o.cls = .type "list" /\ o.dict = none /\ o.data = .seq its n /\ its.size <= sizeLine /\ Vals xs its.toList
def ModT (K:PySem.W.Frag) (y:Str) (a:Addr):Prop:=PySem.W.nsIn K mainGlobals y = some (some (.ref a)) \/
 ∃ (b:Addr) (o:Obj) (its:Array Value) (n:Nat),PySem.W.nsIn K mainGlobals y = some (some (.ref b)) /\ K.lookup b = some o /\ o.cls = .type "tuple" /\ o.data = .seq its n /\ Value.ref a ∈ its.toList
def SqT (K:PySem.W.Frag) (H:Hp) (a:Addr) (xs:List V):Prop:=
 H a = some (.tup xs) \/
  ∃ (y:Str) (o:Obj) (its:Array Value) (n:Nat),ModT K y a /\ K.lookup a = some o /\ o.cls = .type "tuple" /\ o.dict = none /\ o.data = .seq its n /\ its.size <= sizeLine /\ Vals xs its.toList
def absV:Value -> Option V
 | .none=>some .non
 | .bool b=>some (.bl b)
 | .int i _=>some (.int i)
 | .str x _=>some (.str x)
 | .bytes b _=>some (.byt b)
 | .float b _=>some (.flt b)
 | .ref a=>some (.ref a)
 | .type n=>some (.ty n)
 | _=>none
theorem RelV.abs {x:V} {u:Value} (r:RelV x u):absV u = some x:=by
 cases x with
 | non=>cases r; rfl
 | bl _=>cases r; rfl
 | int _=>obtain ⟨t,rfl⟩:=r; rfl
 | str _=>obtain ⟨t,rfl⟩:=r; rfl
 | byt _=>obtain ⟨t,rfl⟩:=r; rfl
 | flt _=>obtain ⟨t,rfl⟩:=r; rfl
 | ref _=>cases r; rfl
 | ty _=>cases r; rfl
theorem RelV.inj {x y:V} {u:Value} (r:RelV x u) (q:RelV y u):x = y:=Option.some.inj (r.abs.symm.trans q.abs)
theorem Vals.inj:∀ {xs ys:List V} {us:List Value},Vals xs us -> Vals ys us -> xs = ys
 | _,_,_,.nil,.nil=>rfl
 | _,_,_,.cons r t,.cons r' t'=>by rw [r.inj r',Vals.inj t t']
section
variable {X:Cx} {pins:List (Addr × Obj)} {σ:St} {H:Hp} {s:Shared} {a:Addr} {xs ys:List V}
theorem SqL.of {K:PySem.W.Frag} (h:H a = some (.lst xs)):SqL K H a xs:=.inl (.inl h)
theorem SqT.of {K:PySem.W.Frag} (h:H a = some (.tup xs)):SqT K H a xs:=.inl h
theorem Inv.list (I:Inv X pins σ H s) (h:SqL X.K H a xs):∃ its:List Value,Vals xs its /\ PlainL s.heap a its.toArray /\ xs.length <= sizeLine:=by
 rcases h with h | ⟨o,its,n,hk,hc,hd,hs,hz,r⟩
 ·obtain ⟨z,its,n,r,e⟩:=h.ok I.hok
  exact ⟨its,r,⟨_,n,e,rfl,rfl,rfl⟩,z⟩
 ·refine ⟨its.toList,r,⟨o,n,I.kIn a o hk,hc,hd,by simpa using hs⟩,?_⟩
  have e:=r.length
  simp only [Array.length_toList] at e
  omega
theorem Inv.tuple (I:Inv X pins σ H s) (h:SqT X.K H a xs):∃ its:List Value,Vals xs its /\ IsTup s.heap a its.toArray /\ xs.length <= sizeLine:=by
 rcases h with h | ⟨_,o,its,n,_,hk,hc,_,hs,hz,r⟩
 ·obtain ⟨⟨z,_⟩,its,r,p⟩:=I.hok a _ h
  exact ⟨its,r,p,z⟩
 ·refine ⟨its.toList,r,⟨o,I.kIn a o hk,hc,n,by simpa using hs⟩,?_⟩
  have e:=r.length
  simp only [Array.length_toList] at e
  omega
theorem Inv.tupleD (I:Inv X pins σ H s) (h:SqT X.K H a xs):∃ (its:List Value) (o:Obj) (n:Nat),Vals xs its /\ s.heap.get? a = some o /\ o.cls = .type "tuple" /\ o.dict = none /\ o.data = .seq its.toArray n /\ xs.length <= sizeLine:=by
 rcases h with h | ⟨_,o,its,n,_,hk,hc,hd,hs,hz,r⟩
 ·obtain ⟨⟨z,zd⟩,its,r,o,e,c,n,d⟩:=I.hok a _ h
  exact ⟨its,o,n,r,e,c,zd _ e,d,z⟩
 ·refine ⟨its.toList,o,n,r,I.kIn a o hk,hc,hd,by simpa using hs,?_⟩
  have e:=r.length
  simp only [Array.length_toList] at e
  omega
theorem Inv.list_inj (I:Inv X pins σ H s) (h:SqL X.K H a xs) (h':SqL X.K H a ys):xs = ys:=by
 obtain ⟨its,r,⟨o,n,e,_,_,d⟩,_⟩:=I.list h
 obtain ⟨its',r',⟨o',n',e',_,_,d'⟩,_⟩:=I.list h'
 rw [e] at e'; cases e'
 rw [d] at d'
 injection d' with d1 _
 have:its = its':=by simpa using congrArg Array.toList d1
 subst this
 exact r.inj r'
theorem Inv.tuple_inj (I:Inv X pins σ H s) (h:SqT X.K H a xs) (h':SqT X.K H a ys):xs = ys:=by
 obtain ⟨its,r,⟨o,e,_,n,d⟩,_⟩:=I.tuple h
 obtain ⟨its',r',⟨o',e',_,n',d'⟩,_⟩:=I.tuple h'
 rw [e] at e'; cases e'
 rw [d] at d'
 injection d' with d1 _
 have:its = its':=by simpa using congrArg Array.toList d1
 subst this
 exact r.inj r'
end
abbrev Cx.wish (X:Cx) (E:Value -> Shared -> Prop):Cx:={ X with xe:=E }
abbrev Cx.nox (X:Cx):Cx:=X.wish fun _ _=>False
theorem Cx.Ok.wish {X:Cx} (ok:X.Ok) (E:Value -> Shared -> Prop):(X.wish E).Ok:=
 ⟨ok.mod,ok.kind,ok.glob,ok.blt,ok.above,ok.inj,ok.has,ok.cab,ok.hd,ok.frames,ok.stk,ok.exf,ok.bs,ok.bsz,ok.noex,ok.exfs,ok.funs,ok.frf⟩
theorem Cx.Ok.unwish {X:Cx} {E:Value -> Shared -> Prop} (ok:(X.wish E).Ok):X.Ok:=
 ⟨ok.mod,ok.kind,ok.glob,ok.blt,ok.above,ok.inj,ok.has,ok.cab,ok.hd,ok.frames,ok.stk,ok.exf,ok.bs,ok.bsz,ok.noex,ok.exfs,ok.funs,ok.frf⟩
section
variable {X:Cx} {pins:List (Addr × Obj)} {σ:St} {H:Hp} {s:Shared} {E:Value -> Shared -> Prop}
theorem Inv.wish (I:Inv X pins σ H s) (E:Value -> Shared -> Prop):Inv (X.wish E) pins σ H s:=⟨I.ok.wish E,I.os,I.bare,I.base,I.loc,I.cell,I.free,I.freeC,I.pin,I.hok,I.len⟩
theorem Inv.unwish (I:Inv (X.wish E) pins σ H s):Inv X pins σ H s:=⟨I.ok.unwish,I.os,I.bare,I.base,I.loc,I.cell,I.free,I.freeC,I.pin,I.hok,I.len⟩
theorem SP.unwish {D:Ends} {f:Flow} {s':Shared} (h:SP (X.wish E) pins D f s'):SP X pins D f s':=by
 cases f with
 | next=>obtain ⟨σ',H',I,q⟩:=h; exact ⟨σ',H',I.unwish,q⟩
 | brk=>obtain ⟨σ',H',I,q⟩:=h; exact ⟨σ',H',I.unwish,q⟩
 | cont=>obtain ⟨σ',H',I,q⟩:=h; exact ⟨σ',H',I.unwish,q⟩
 | ret u=>obtain ⟨v,σ',H',I,r,q⟩:=h; exact ⟨v,σ',H',I.unwish,r,q⟩
theorem PE.nox {e:Expr} {t:TE} (h:PE X.nox e t):PE X e t:=fun pins s σ H Q I hw=>
 wpAny_mono (h pins s σ H Q (I.wish _) hw) (fun _ _ ⟨v,H',I',r,q⟩=>⟨v,H',I'.unwish,r,q⟩) fun _ _ z=>False.elim z
theorem PT.nox {e:Expr} {t:TT} (h:PT X.nox e t):PT X e t:=fun pins s σ H Q I hw=>
 wpAny_mono (h pins s σ H Q (I.wish _) hw) (fun _ _ ⟨H',I',q⟩=>⟨H',I'.unwish,q⟩) fun _ _ z=>False.elim z
theorem PSs.nox {st:List Stmt} {t:TS} (h:PSs X.nox st t):PSs X st t:=fun pins s σ H D I hw=>
 wpAny_mono (h pins s σ H D (I.wish _) hw) (fun _ _ q=>q.unwish) fun _ _ z=>False.elim z
end
section
variable {X:Cx} {st:Stmt} {rest:List Stmt} {t u:TS} {e:Expr} {te:TE} {pos:Pos}
def tNext:TS:=fun D σ H=>D.nx σ H
def tSeq (t u:TS):TS:=fun D σ H=>t { D with nx:=u D } σ H
theorem Jge:PSs X [] tNext:=fun _ _ σ H _ I h=>wpAny_execs_nil ⟨σ,H,I,h⟩
theorem Jek (h1:PS X st t) (h2:PSs X rest u):PSs X (st :: rest) (tSeq t u):=by
 intro pins s σ H D I h
 refine wpAny_execs_cons (thn (h1 pins s σ H { D with nx:=u D } I h) fun f s1 q=>?_)
 cases f with
 | next=>
  obtain ⟨σ',H',I',q⟩:=q
  exact h2 pins s1 σ' H' D I' q
 | ret v=>exact q
 | brk=>exact q
 | cont=>exact q
theorem JaL (h1:PS X st t):PSs X [st] t:=by
 intro pins s σ H D I h
 refine wpAny_execs_cons (thn (h1 pins s σ H D I h) fun f s1 q=>?_)
 cases f with
 | next=>exact wpAny_execs_nil q
 | ret v=>exact q
 | brk=>exact q
 | cont=>exact q
theorem Inv.quiet {pins:List (Addr × Obj)} {σ:St} {H:Hp} {s:Shared} (I:Inv X pins σ H s):interactive X.env = false:=by simp [interactive,I.ok.kind]
def tDrop (te:TE):TS:=fun D σ H=>te σ H fun _ H1=>D.nx σ H1
theorem Jgh (he:PE X e te) (hs:swapsWith e none pos.line X.env = pure false:=by rfl):PS X (.Expr e pos) (tDrop te):=by
 intro pins s σ H D I h
 exact wpAny_Expr_any (thn (he pins s σ H _ I h) fun v s1 ⟨x,H1,I1,r1,q1⟩=>⟨σ,H1,I1,q1⟩) I.quiet hs
def tRet (te:TE):TS:=fun D σ H=>te σ H D.rt
theorem JcV (he:PE X e te):PS X (.Return (some e) pos) (tRet te):=by
 intro pins s σ H D I h
 exact wpAny_Return_some (thn (he pins s σ H _ I h) fun v s1 ⟨x,H1,I1,r1,q1⟩=>⟨x,σ,H1,I1,r1,q1⟩)
def tIfS (c:TT) (t u:TS):TS:=fun D σ H=>c σ H fun b H1=>if b = true then t D σ H1 else u D σ H1
theorem ps_if {c:Expr} {a b:List Stmt} {tc:TT} (hc:PT X c tc) (ha:PSs X a t) (hb:PSs X b u):PS X (.If c a b pos) (tIfS tc t u):=by
 intro pins s σ H D I h
 refine wpAny_If (thn (hc pins s σ H _ I h) fun d s1 ⟨H1,I1,q1⟩=>?_)
 cases d with
 | true=>exact ha pins s1 σ H1 D I1 q1
 | false=>exact hb pins s1 σ H1 D I1 q1
end
abbrev TG:=V -> St -> Hp -> (St -> Hp -> Prop) -> Prop
def PG (X:Cx) (target:Expr) (t:TG):Prop:=
 ∀ (pins:List (Addr × Obj)) (s:Shared) (σ:St) (H:Hp) (v:V) (u:Value) (Q:St -> Hp -> Prop),Inv X pins σ H s -> RelV v u -> t v σ H Q ->
  wpAny (model X.prog X.w) X.A (assign target X.env u) (fun _ s'=>∃ σ' H',Inv X pins σ' H' s' /\ Q σ' H') X.xe s
section
variable {X:Cx} {pos:Pos}
def gName (i:Nat):TG:=fun v σ H Q=>Q (σ.set i (some v)) H
theorem JdF {i:Nat} {x:Str} (hN:X.N.Nodup) (hi:X.N[i]? = some x) (hx:Loc X.env.scope x) (hf:X.fn x = true \/ X.env.scope.names.lookup x = some .local:=by first | exact .inl rfl | exact .inr rfl | assumption):PG X (.Name x pos) (gName i):=by
 intro pins s σ H v u Q I r h
 exact wpAny_assign_Name (JaR I hN hi hx r (fun s' I'=>⟨_,H,I',h⟩) hf)
def tAsg (te:TE) (g:TG):TS:=fun D σ H=>te σ H fun x H1=>g x σ H1 D.nx
theorem JcI {i:Nat} {x:Str} {e:Expr} {te:TE} {pos':Pos} (hN:X.N.Nodup) (hi:X.N[i]? = some x) (hx:Loc X.env.scope x) (he:PE X e te) (hs:swapsWith e (some (.Name x pos')) pos.line X.env = pure false:=by rfl) (hf:X.fn x = true \/ X.env.scope.names.lookup x = some .local:=by first | exact .inl rfl | exact .inr rfl | assumption) :
  PS X (.Assign [.Name x pos'] e pos) (tAsg te (gName i)):=by
 intro pins s σ H D I h
 refine wpAny_Assign_Name (thn (he pins s σ H _ I h) fun v s1 ⟨y,H1,I1,r1,q1⟩=>?_) hs
 exact JaR I1 hN hi hx r1 (fun s2 I2=>⟨_,H1,I2,q1⟩) hf
end
section
variable {X:Cx} {pos:Pos}
end
structure It where
 go:Nat -> Hp -> Prop
 yld:Nat -> Hp -> V -> Hp -> Prop
 stop:Nat -> Hp -> Prop
def FpOk (X:Cx) (pins:List (Addr × Obj)) (H:Hp) (b:Addr):Prop:=
 H b = none /\ b ≠ X.env.locals /\ b ∉ X.fs /\ (b ∈ X.ex \/ X.s₀.heap.objs.size <= b) /\ (∀ x c,X.env.cells.lookup x = some c -> c ≠ b) /\ ∀ p ∈ X.pn ++ pins,p.1 ≠ b
theorem Inv.fpOk {X:Cx} {pins:List (Addr × Obj)} {σ:St} {H H':Hp} {s:Shared} {b:Addr} (I:Inv X pins σ H s) (hb:s.heap.objs.size <= b) (hn:H' b = none):FpOk X pins H' b:=by
 refine ⟨hn,Nat.ne_of_gt (Nat.lt_of_lt_of_le I.lt hb),I.nofs hb,.inr (Nat.le_trans I.sz hb),fun x c e z=>?_,fun p hp z=>?_⟩
 ·obtain ⟨v,q⟩:=I.cell x c e
  exact absurd (Nat.lt_of_lt_of_le q.lt (by rw [z]; exact hb)) (Nat.lt_irrefl _)
 ·exact absurd (Nat.lt_of_lt_of_le (Heap.lt_size (I.pin p hp).1) (by rw [z]; exact hb)) (Nat.lt_irrefl _)
structure Turn (P:Program) (w:World) (K:PySem.W.Frag) (tg:Expr) (J:It) (fp:List Addr) (it:Addr) (tn:Nat -> Heap -> Prop):Prop where
 mem:it ∈ fp
 obj:∀ i h,tn i h -> ∀ b ∈ fp,∃ o,h.get? b = some o /\ ∀ v,o.data ≠ .cell v
 keep:∀ i h h',tn i h -> (∀ b ∈ fp,∀ o,h.get? b = some o -> h'.get? b = some o) -> tn i h'
 item:∀ (X:Cx),X.prog = P -> X.w = w -> X.K = K -> X.calm = true -> ∀ (i:Nat) (pins:List (Addr × Obj)) (s:Shared) (σ:St) (H:Hp) (E:Value -> Shared -> Prop),Inv X pins σ H s -> (∀ b ∈ fp,FpOk X pins H b) -> tn i s.heap -> J.go i H ->
  wpAny (model P w) X.A (pyNext (.ref it)) (fun r s1=>∃ u,r = some u /\
   wpAny (model P w) X.A (letOwnedTupleGo tg (.ref it) u) (fun _ s2=>∃ x H',Inv X pins σ H' s2 /\ RelV x u /\ J.yld i H x H' /\ tn (i + 1) s2.heap /\ ∀ b ∈ fp,H' b = none) E s1) E s
 done:∀ (X:Cx),X.prog = P -> X.w = w -> X.K = K -> X.calm = true -> ∀ (i:Nat) (pins:List (Addr × Obj)) (s:Shared) (σ:St) (H:Hp) (E:Value -> Shared -> Prop),Inv X pins σ H s -> (∀ b ∈ fp,FpOk X pins H b) -> tn i s.heap -> J.stop i H ->
  wpAny (model P w) X.A (pyNext (.ref it)) (fun r s1=>r = none /\ Inv X pins σ H s1) E s
 self:∀ (A:Around) (i:Nat) (s:Shared) (Q:Value -> Shared -> Prop) (E:Value -> Shared -> Prop),tn i s.heap -> Q (.ref it) s -> wpAny (model P w) A (pyIter (.ref it)) Q E s
abbrev TI:=St -> Hp -> (It -> Hp -> Prop) -> Prop
def PIE (X:Cx) (pins:List (Addr × Obj)) (σ:St) (tg:Expr) (R:It -> Hp -> Prop) (itv:Value) (s2:Shared):Prop:=
 ∃ (it:Addr) (fp:List Addr) (tn:Nat -> Heap -> Prop) (J:It) (H':Hp),itv = .ref it /\ Inv X pins σ H' s2 /\ Turn X.prog X.w X.K tg J fp it tn /\ tn 0 s2.heap /\ (∀ b ∈ fp,FpOk X pins H' b) /\ R J H'
def PI (X:Cx) (tg iter:Expr) (wi:TI):Prop:=
 ∀ (pins:List (Addr × Obj)) (s:Shared) (σ:St) (H:Hp) (R:It -> Hp -> Prop),Inv X pins σ H s -> wi σ H R ->
  wpAny (model X.prog X.w) X.A (eval iter X.env) (fun v s1=>wpAny (model X.prog X.w) X.A (pyIter v) (PIE X pins σ tg R) X.xe s1) X.xe s
theorem JfV {M:Model} {A:Around} {E:Value -> Shared -> Prop} {s:Shared} {tg:Expr} {it:Addr} {u:Value} {o:Obj} {n:String} {vs:Array Value} {Q:Unit -> Shared -> Prop} (ho:s.heap.get? it = some o) (hc:o.cls = .type n) (hd:o.data = .fields vs)
  (hn:["enumerate","zip","dict_itemiterator","dict_reverseitemiterator","odict_iterator","itertools.zip_longest","itertools.pairwise"].contains n = false) (hQ:Q () s):wpAny M A (letOwnedTupleGo tg (.ref it) u) Q E s:=by
 unfold letOwnedTupleGo
 cases tg <;> first
  | exact wpAny_pure hQ
  | (cases u <;> first
    | exact wpAny_pure hQ
    | (refine wpAny_bind (wpAny_load ho ?_); rw [hc,hd]; show wpAny M A (if (["enumerate","zip","dict_itemiterator","dict_reverseitemiterator","odict_iterator","itertools.zip_longest","itertools.pairwise"].contains n && vs[0]? == some (rawInt _)) = true then _ else _) Q E s; rw [if_neg (by intro h; rw [hn,Bool.false_and] at h; cases h)]; exact wpAny_pure hQ))
def Itl (K:PySem.W.Frag) (a:Addr):It:=
 ⟨fun i H=>∃ xs x,SqL K H a xs /\ xs[i]? = some x,fun i H x H'=>H' = H /\ ∀ xs,SqL K H a xs -> xs[i]? = some x,fun i H=>∃ xs,SqL K H a xs /\ xs.length <= i⟩
def Itt (K:PySem.W.Frag) (a:Addr):It:=
 ⟨fun i H=>∃ xs x,SqT K H a xs /\ xs[i]? = some x,fun i H x H'=>H' = H /\ ∀ xs,SqT K H a xs -> xs[i]? = some x,fun i H=>∃ xs,SqT K H a xs /\ xs.length <= i⟩
def Itr (lo:Int) (n:Nat):It:=⟨fun i _=>i < n,fun i H x H'=>H' = H /\ x = .int (lo + i),fun i _=>n <= i⟩
theorem JdE {P:Program} {w:World} {K:PySem.W.Frag} {tg:Expr} (a it:Addr):Turn P w K tg (Itl K a) [it] it (fun i h=>h.IsListIter it a i) where
 mem:=by simp
 obj:=fun i h st b hb=>by
  have e:b = it:=by simpa using hb
  subst e
  obtain ⟨o,e,c,d⟩:=st
  exact ⟨o,e,fun v z=>by rw [d] at z; cases z⟩
 keep:=fun i h h' st k=>st.at fun o e=>k it (by simp) o e
 item:=by
  intro X hP hw hK hc i pins s σ H E I hf st hg
  subst hP hw hK
  obtain ⟨xs,x,hq,hx⟩:=hg
  obtain ⟨its,rv,p,hz⟩:=I.list hq
  obtain ⟨u,hu,ru⟩:=rv.get hx
  obtain ⟨f0,f1,f2,f3,f4,f5⟩:=hf it (by simp)
  refine wpAny_pyNext_list_item st p.isList (x:=u) (by simpa using hu) fun h' st' sb=>?_
  have I1:Inv X pins σ H { s with heap:=h' }:=I.turned (t':=s.toks) (fun b o hb e=>(sb.2 b hb).trans e) f0 f1 f3 f4 f5
  obtain ⟨o,e,c,d⟩:=id st'
  exact ⟨u,rfl,JfV (s:={ s with heap:=h' }) e c d (by decide) ⟨x,H,I1,ru,⟨rfl,fun ys hy=>by rw [I.list_inj hy hq]; exact hx⟩,st',fun b hb=>(hf b hb).1⟩⟩
 done:=by
  intro X hP hw hK hc i pins s σ H E I hf st hg
  subst hP hw hK
  obtain ⟨xs,hq,hx⟩:=hg
  obtain ⟨its,rv,p,hz⟩:=I.list hq
  obtain ⟨f0,f1,f2,f3,f4,f5⟩:=hf it (by simp)
  have hl:=rv.length
  exact wpAny_pyNext_list_end (I.ok.hd hc) st p.isList (by simp; omega) fun h' eb=>⟨rfl,I.turned (t':=s.toks) (fun b o hb e=>eb b o hb e) f0 f1 f3 f4 f5⟩
 self:=fun _ _ _ _ _ st h=>wpAny_pyIter_listiter st h
theorem Jck {P:Program} {w:World} {K:PySem.W.Frag} {tg:Expr} (a it:Addr):Turn P w K tg (Itt K a) [it] it (fun i h=>h.IsTupleIter it a i) where
 mem:=by simp
 obj:=fun i h st b hb=>by
  have e:b = it:=by simpa using hb
  subst e
  obtain ⟨o,e,c,d⟩:=st
  exact ⟨o,e,fun v z=>by rw [d] at z; cases z⟩
 keep:=fun i h h' st k=>st.at fun o e=>k it (by simp) o e
 item:=by
  intro X hP hw hK hc i pins s σ H E I hf st hg
  subst hP hw hK
  obtain ⟨xs,x,hq,hx⟩:=hg
  obtain ⟨its,rv,p,hz⟩:=I.tuple hq
  obtain ⟨u,hu,ru⟩:=rv.get hx
  obtain ⟨f0,f1,f2,f3,f4,f5⟩:=hf it (by simp)
  refine wpAny_pyNext_tuple_item st (show s.heap.IsTuple a its.toArray from p) (x:=u) (by simpa using hu) fun h' st' sb=>?_
  have I1:Inv X pins σ H { s with heap:=h' }:=I.turned (t':=s.toks) (fun b o hb e=>(sb.2 b hb).trans e) f0 f1 f3 f4 f5
  obtain ⟨o,e,c,d⟩:=id st'
  exact ⟨u,rfl,JfV (s:={ s with heap:=h' }) e c d (by decide) ⟨x,H,I1,ru,⟨rfl,fun ys hy=>by rw [I.tuple_inj hy hq]; exact hx⟩,st',fun b hb=>(hf b hb).1⟩⟩
 done:=by
  intro X hP hw hK hc i pins s σ H E I hf st hg
  subst hP hw hK
  obtain ⟨xs,hq,hx⟩:=hg
  obtain ⟨its,rv,p,hz⟩:=I.tuple hq
  obtain ⟨f0,f1,f2,f3,f4,f5⟩:=hf it (by simp)
  have hl:=rv.length
  exact wpAny_pyNext_tuple_end (I.ok.hd hc) st (show s.heap.IsTuple a its.toArray from p) (by simp; omega) fun h' eb=>⟨rfl,I.turned (t':=s.toks) (fun b o hb e=>eb b o hb e) f0 f1 f3 f4 f5⟩
 self:=fun _ _ _ _ _ st h=>wpAny_pyIter_tupleiter st h
theorem Jcz {P:Program} {w:World} {K:PySem.W.Frag} {tg:Expr} (it:Addr) (lo:Int) (n:Nat):Turn P w K tg (Itr lo n) [it] it (fun i h=>IsRangeIter h it (lo + (i:Nat) * 1) ((n:Int) - (i:Nat)) 1) where
 mem:=by simp
 obj:=fun i h st b hb=>by
  have e:b = it:=by simpa using hb
  subst e
  exact ⟨_,st,fun v z=>by
   have z':Data.fields _ = Data.cell v:=z
   cases z'⟩
 keep:=fun i h h' st k=>k it (by simp) _ st
 item:=by
  intro X hP hw hK hc i pins s σ H E I hf st hg
  subst hP hw hK
  obtain ⟨f0,f1,f2,f3,f4,f5⟩:=hf it (by simp)
  have W:=Walks.range (prog:=X.prog) (w:=X.w) (I.ok.hd hc) it lo 1 n
  refine W.item i s _ _ hg st fun v h' tk hv st' kk=>?_
  obtain ⟨t,rfl⟩:=hv
  have I1:Inv X pins σ H { s with heap:=h',toks:=tk }:=I.turned (fun b o hb e=>kk b o (by simpa using hb) e) f0 f1 f3 f4 f5
  refine ⟨_,rfl,JfV (s:={ s with heap:=h',toks:=tk }) (n:="range_iterator") st' rfl rfl (by decide) ⟨.int (lo + i),H,I1,⟨t,?_⟩,⟨rfl,rfl⟩,st',fun b hb=>(hf b hb).1⟩⟩
  rw [Int.mul_one]
 done:=by
  intro X hP hw hK hc i pins s σ H E I hf st hg
  subst hP hw hK
  obtain ⟨f0,f1,f2,f3,f4,f5⟩:=hf it (by simp)
  exact wpAny_pyNext_range_end (I.ok.hd hc) st (by have:n <= i:=hg; omega) fun h' eb=>⟨rfl,I.turned (t':=s.toks) (fun b o hb e=>eb b o hb e) f0 f1 f3 f4 f5⟩
 self:=fun _ _ _ _ _ st h=>wpAny_pyIter_rangeiter st h
end L2
namespace L2
open PySem PySem.Spec PyProof.Rows
section
variable {X:Cx} {tg:Expr}
theorem JeI {pins:List (Addr × Obj)} {σ:St} {H:Hp} {s:Shared} {R:It -> Hp -> Prop} {E:Value -> Shared -> Prop} {lo hi:Int} {t u v:Tok} {tk:Nat} (I:Inv X pins σ H s) (h1:-(2 ^ 62) <= lo) (h2:lo < 2 ^ 62) (h3:-(2 ^ 62) <= hi) (h4:hi < 2 ^ 62)
  (q:R (Itr lo (hi - lo).toNat) H):wpAny (model X.prog X.w) X.A (pyIter (.ref s.heap.objs.size)) (PIE X pins σ tg R) E { s with heap:=s.heap.push { cls:=.type "range",data:=.fields #[.int lo t,.int hi u,.int 1 v] },toks:=tk }:=by
 refine wpAny_pyIter_range (IsRange.new ..) (small_one h1 h2 h3 h4) ?_
 have I1:Inv X pins σ H { s with heap:=s.heap.push { cls:=.type "range",data:=.fields #[.int lo t,.int hi u,.int 1 v] },toks:=tk }:=I.kept fun b o e=>Heap.get?_push_of_some _ e
 refine ⟨(s.heap.push { cls:=.type "range",data:=.fields #[.int lo t,.int hi u,.int 1 v] }).objs.size,[(s.heap.push { cls:=.type "range",data:=.fields #[.int lo t,.int hi u,.int 1 v] }).objs.size],_,_,H,rfl,
  I1.kept (t':=tk) fun b o e=>Heap.get?_push_of_some _ e,Jcz _ lo (hi - lo).toNat,?_,fun b hb=>?_,q⟩
 ·have e1:lo + ((0:Nat):Int) * 1 = lo:=by simp
  have e2:(((hi - lo).toNat:Nat):Int) - ((0:Nat):Int) = Builtin.Range.rangeSize lo hi 1:=by rw [rangeSize_one]; split <;> omega
  show IsRangeIter _ _ (lo + ((0:Nat):Int) * 1) ((((hi - lo).toNat:Nat):Int) - ((0:Nat):Int)) 1
  rw [e1,e2]
  exact Heap.get?_push_size _ rfl
 ·have e:b = (s.heap.push { cls:=.type "range",data:=.fields #[.int lo t,.int hi u,.int 1 v] }).objs.size:=by simpa using hb
  subst e
  exact I1.fpOk (Nat.le_refl _) (I1.hok.fresh (Nat.le_refl _))
def iRng1 (ta:TA):TI:=fun σ H R=>ta σ H fun vs H1=>∃ j:Int,vs = [.int j] /\ -(2 ^ 62) <= j /\ j < 2 ^ 62 /\ R (Itr 0 j.toNat) H1
theorem JcU {a:Expr} {ta:TA} {p pos:Pos} (hg:Gl X "range") (hm:X.mg "range" = none) (ha:PA X [a] ta) (hs:starEach [a] X.env = [(false,eval a X.env)]:=by rfl):PI X tg (.Call (.Name "range" p) [a] [] pos) (iRng1 ta):=by
 intro pins s σ H R I h
 refine Call_ (Jcd I hg hm boot_range (PyProof.Rows.callWith_type1 (thn (ha pos pins s σ H _ I h) fun us s1 ⟨vs,H1,I1,r1,q1⟩=>?_) hs rfl))
 obtain ⟨j,e,q1,q2,q⟩:=q1
 subst e
 cases r1 with
 | cons r rr=>
  cases rr
  obtain ⟨t,rfl⟩:=r
  exact call_range_1 (JeI I1 (by omega) (by omega) q1 q2 (by simpa using q))
def tFor (wi:TI) (g:TG) (tb:TS):TS:=fun D σ H=>wi σ H fun J H1=>∃ W:Nat -> Nat -> St -> Hp -> Prop,(∃ m,W 0 m σ H1) /\ ∀ i m σ H,W i m σ H ->
 (J.stop i H /\ D.nx σ H) \/ (J.go i H /\ ∃ N:St -> Hp -> Prop,(∀ σ' H',N σ' H' -> ∃ m',m' < m /\ W (i + 1) m' σ' H') /\ ∀ x H',J.yld i H x H' -> g x σ H' fun σ2 H2=>tb { D with nx:=N,ct:=N,bk:=D.nx } σ2 H2)
def pinsAt (fp:List Addr) (h:Heap):List (Addr × Obj):=fp.filterMap fun b=>(h.get? b).map fun o=>(b,o)
theorem JH {fp:List Addr} {h:Heap} {b:Addr} {o:Obj} (hb:b ∈ fp) (e:h.get? b = some o):(b,o) ∈ pinsAt fp h:=List.mem_filterMap.mpr ⟨b,hb,by rw [e]; rfl⟩
theorem Jbv {fp:List Addr} {h:Heap} {p:Addr × Obj} (hp:p ∈ pinsAt fp h):p.1 ∈ fp /\ h.get? p.1 = some p.2:=by
 obtain ⟨b,hb,e⟩:=List.mem_filterMap.mp hp
 cases q:h.get? b with
 | none=>rw [q] at e; cases e
 | some o=>
  rw [q] at e
  have e':(b,o) = p:=Option.some.inj e
  subst e'
  exact ⟨hb,q⟩
theorem Inv.pinned {pins:List (Addr × Obj)} {σ:St} {H:Hp} {s:Shared} {fp:List Addr} (I:Inv X pins σ H s) (hf:∀ b ∈ fp,FpOk X pins H b) (ho:∀ b ∈ fp,∃ o,s.heap.get? b = some o /\ ∀ v,o.data ≠ .cell v):Inv X (pins ++ pinsAt fp s.heap) σ H s:=
 I.pins_of fun p hp=>(List.mem_append.mp hp).elim (fun z=>I.pin p (List.mem_append_right _ z)) fun z=>by
  obtain ⟨hb,e⟩:=Jbv z
  obtain ⟨f0,f1,f2,_⟩:=hf p.1 hb
  obtain ⟨o,e',d⟩:=ho p.1 hb
  rw [e] at e'; cases e'
  exact ⟨e,f0,f1,f2,d⟩
theorem Inv.unpinned {pins pl:List (Addr × Obj)} {σ:St} {H:Hp} {s:Shared} (I:Inv X (pins ++ pl) σ H s):Inv X pins σ H s:=I.pins_of fun p hp=>I.pin p (List.mem_append_right _ (List.mem_append_left _ hp))
theorem Jhq {iter:Expr} {body:List Stmt} {wi:TI} {g:TG} {tb:TS} {pos:Pos} (hp:PassesOwn (model X.prog X.w) X.A X.env X.xe) (hc:X.calm = true) (hi:PI X tg iter wi) (hg:PG X tg g) (hb:PSs X body tb)
  (hs:∀ x,foldedSetIterable iter X.env x = pure x:=by intro _; rfl):PS X (.For tg iter body [] pos) (tFor wi g tb):=by
 intro pins s σ H D I h
 refine wpAny_For (thn (hi pins s σ H _ I h) fun v s1 h1=>thn h1 fun itv s2 h2=>?_) hs
 obtain ⟨it,fp,tn,J,H2,e,I2,T,st2,f2,W,⟨m0,w0⟩,turn⟩:=h2
 subst e
 have stat:∀ {H':Hp},(∀ b ∈ fp,H' b = none) -> ∀ b ∈ fp,FpOk X pins H' b:=fun hn b hb=>⟨hn b hb,(f2 b hb).2⟩
 refine codeAny_forLoop_any (fun n s'=>∃ i σ' H',Inv X pins σ' H' s' /\ tn i s'.heap /\ (∀ b ∈ fp,H' b = none) /\ W i n σ' H') ?_ m0 ⟨0,σ,H2,I2,st2,fun b hb=>(f2 b hb).1,w0⟩
 rintro n s3 ⟨i,σ3,H3,I3,st3,fr3,w3⟩
 rcases turn i n σ3 H3 w3 with ⟨stop,qn⟩ | ⟨go,N,hN,step⟩
 ·refine wpAny_passesOwn hp (thn (T.done X rfl rfl rfl hc i pins s3 σ3 H3 X.xe I3 (stat fr3) st3 stop) fun r s4 ⟨hr,I4⟩=>?_)
  subst hr
  exact wpAny_execs_nil ⟨σ3,H3,I4,qn⟩
 ·refine wpAny_passesOwn hp (thn (T.item X rfl rfl rfl hc i pins s3 σ3 H3 X.xe I3 (stat fr3) st3 go) fun r s4 ⟨u,hr,h4⟩=>?_)
  subst hr
  refine wpAny_passesOwn hp (thn h4 fun _ s5 ⟨x,H5,I5,r5,y5,st5,fr5⟩=>?_)
  have I5':=I5.pinned (stat fr5) (T.obj _ _ st5)
  refine wpAny_passesOwn hp (thn (hg _ s5 σ3 H5 x u _ I5' r5 (step x H5 y5)) fun _ s6 ⟨σ6,H6,I6,q6⟩=>?_)
  refine wpAny_passesOwn hp (thn (hb _ s6 σ6 H6 _ I6 q6) fun f s7 q7=>?_)
  have again:∀ {σ7:St} {H7:Hp},Inv X (pins ++ pinsAt fp s5.heap) σ7 H7 s7 -> N σ7 H7 -> ∃ m,m < n /\ ∃ i σ' H',Inv X pins σ' H' s7 /\ tn i s7.heap /\ (∀ b ∈ fp,H' b = none) /\ W i m σ' H':=fun {σ7 H7} I7 n7=>by
   obtain ⟨m',hm,w7⟩:=hN σ7 H7 n7
   refine ⟨m',hm,i + 1,σ7,H7,I7.unpinned,T.keep _ _ _ st5 fun b hb o e=>(I7.pin (b,o) (List.mem_append_right _ (List.mem_append_right _ (JH hb e)))).1,fun b hb=>?_,w7⟩
   obtain ⟨o,e,d⟩:=T.obj _ _ st5 b hb
   exact (I7.pin (b,o) (List.mem_append_right _ (List.mem_append_right _ (JH hb e)))).2.1
  cases f with
  | next=>obtain ⟨σ7,H7,I7,n7⟩:=q7; exact again I7 n7
  | cont=>obtain ⟨σ7,H7,I7,n7⟩:=q7; exact again I7 n7
  | brk=>obtain ⟨σ7,H7,I7,q7⟩:=q7; exact ⟨σ7,H7,I7.unpinned,q7⟩
  | ret v=>obtain ⟨x7,σ7,H7,I7,r7,q7⟩:=q7; exact ⟨x7,σ7,H7,I7.unpinned,r7,q7⟩
end
end L2
namespace L2
open PySem PySem.Spec PyProof.Rows
abbrev R2:=V -> V -> Hp -> VK -> Prop
def OpR (X:Cx) (f:Value -> Value -> Sem Value) (r:R2):Prop:=
 ∀ (pins:List (Addr × Obj)) (s:Shared) (σ:St) (H:Hp) (x y:V) (v u:Value) (Q:VK),Inv X pins σ H s -> RelV x v -> RelV y u -> r x y H Q ->
  wpAny (model X.prog X.w) X.A (f v u) (EP X pins σ Q) X.xe s
def UnR (X:Cx) (f:Value -> Sem Value) (r:V -> Hp -> VK -> Prop):Prop:=
 ∀ (pins:List (Addr × Obj)) (s:Shared) (σ:St) (H:Hp) (x:V) (v:Value) (Q:VK),Inv X pins σ H s -> RelV x v -> r x H Q ->
  wpAny (model X.prog X.w) X.A (f v) (EP X pins σ Q) X.xe s
def CallR (X:Cx) (f:Value) (r:List V -> Hp -> VK -> Prop):Prop:=
 ∀ (pins:List (Addr × Obj)) (s:Shared) (σ:St) (H:Hp) (xs:List V) (us:List Value) (Q:VK),Inv X pins σ H s -> Vals xs us -> r xs H Q ->
  wpAny (model X.prog X.w) X.A (call f us) (EP X pins σ Q) X.xe s
def TruR (X:Cx) (r:V -> Hp -> (Bool -> Hp -> Prop) -> Prop):Prop:=
 ∀ (pins:List (Addr × Obj)) (s:Shared) (σ:St) (H:Hp) (x:V) (v:Value) (Q:Bool -> Hp -> Prop),Inv X pins σ H s -> RelV x v -> r x H Q ->
  wpAny (model X.prog X.w) X.A (truthy v) (TP X pins σ Q) X.xe s
def tOp (r:R2) (ta tb:TE):TE:=fun σ H Q=>ta σ H fun x H1=>tb σ H1 fun y H2=>r x y H2 Q
def tUn (r:V -> Hp -> VK -> Prop) (ta:TE):TE:=fun σ H Q=>ta σ H fun x H1=>r x H1 Q
def rI (C:Int -> Int -> Prop) (g:Int -> Int -> V):R2:=fun x y H Q=>∃ i j,x = .int i /\ y = .int j /\ C i j /\ Q (g i j) H
def rI0 (g:Int -> Int -> V):R2:=fun x y H Q=>∃ i j,x = .int i /\ y = .int j /\ Q (g i j) H
def rU (g:Int -> V):V -> Hp -> VK -> Prop:=fun x H Q=>∃ i,x = .int i /\ Q (g i) H
section
variable {X:Cx} {a b c:Expr} {ta tb tc:TE} {pos:Pos}
theorem binT (ha:PE X a ta) (hb:PE X b tb) {pins:List (Addr × Obj)} {s:Shared} {σ:St} {H:Hp} {R:V -> V -> Hp -> Prop} (I:Inv X pins σ H s)
  (h:ta σ H fun x H1=>tb σ H1 fun y H2=>R x y H2) {Q:Value -> Shared -> Prop} {f:Value -> Value -> Sem Value}
  (hf:∀ v u s2 x y H2,Inv X pins σ H2 s2 -> RelV x v -> RelV y u -> R x y H2 -> wpAny (model X.prog X.w) X.A (f v u) Q X.xe s2) :
  wpAny (model X.prog X.w) X.A (eval a X.env) (fun v s₁=>wpAny (model X.prog X.w) X.A (eval b X.env) (fun u s₂=>wpAny (model X.prog X.w) X.A (f v u) Q X.xe s₂) X.xe s₁) X.xe s:=by
 refine thn (ha pins s σ H _ I h) fun v s1 ⟨x,H1,I1,r1,q1⟩=>?_
 refine thn (hb pins s1 σ H1 _ I1 q1) fun u s2 ⟨y,H2,I2,r2,q2⟩=>?_
 exact hf v u s2 x y H2 I2 r1 r2 q2
theorem JhE {op:Operator} {r:R2} (ho:OpR X (binaryOp op) r) (ha:PE X a ta) (hb:PE X b tb):PE X (.BinOp a op b pos) (tOp r ta tb):=by
 intro pins s σ H Q I h
 exact wpAny_BinOp (binT ha hb I h fun v u s2 x y H2 I2 rx ry q=>ho pins s2 σ H2 x y v u Q I2 rx ry q)
theorem pe_un {op:UnaryOp} {r:V -> Hp -> VK -> Prop} (ho:UnR X (unaryOp op) r) (ha:PE X a ta):PE X (.UnaryOp op a pos) (tUn r ta):=by
 intro pins s σ H Q I h
 exact UnaryOp_ (thn (ha pins s σ H _ I h) fun v s1 ⟨x,H1,I1,r1,q1⟩=>ho pins s1 σ H1 x v Q I1 r1 q1)
theorem opI {f:Value -> Value -> Sem Value} {C:Int -> Int -> Prop} {g:Int -> Int -> Int}
  (rule:∀ (i j:Int) (t u:Tok) (s:Shared) (Q:Value -> Shared -> Prop) (E:Value -> Shared -> Prop),C i j -> Q (.int (g i j) s.toks) { s with toks:=s.toks + 1 } -> wpAny (model X.prog X.w) X.A (f (.int i t) (.int j u)) Q E s) :
  OpR X f (rI C fun i j=>.int (g i j)):=by
 intro pins s σ H x y v u Q I rx ry h
 obtain ⟨i,j,rfl,rfl,hc,q⟩:=h
 obtain ⟨t,rfl⟩:=rx
 obtain ⟨t',rfl⟩:=ry
 exact rule i j t t' s _ _ hc ⟨.int (g i j),H,I.tok _,⟨_,rfl⟩,q⟩
theorem opI0 {f:Value -> Value -> Sem Value} {g:Int -> Int -> Int}
  (rule:∀ (i j:Int) (t u:Tok) (s:Shared) (Q:Value -> Shared -> Prop) (E:Value -> Shared -> Prop),Q (.int (g i j) s.toks) { s with toks:=s.toks + 1 } -> wpAny (model X.prog X.w) X.A (f (.int i t) (.int j u)) Q E s) :
  OpR X f (rI0 fun i j=>.int (g i j)):=by
 intro pins s σ H x y v u Q I rx ry h
 obtain ⟨i,j,rfl,rfl,q⟩:=h
 obtain ⟨t,rfl⟩:=rx
 obtain ⟨t',rfl⟩:=ry
 exact rule i j t t' s _ _ ⟨.int (g i j),H,I.tok _,⟨_,rfl⟩,q⟩
theorem opB0 {f:Value -> Value -> Sem Value} {g:Int -> Int -> Bool}
  (rule:∀ (i j:Int) (t u:Tok) (s:Shared) (Q:Value -> Shared -> Prop) (E:Value -> Shared -> Prop),Q (.bool (g i j)) s -> wpAny (model X.prog X.w) X.A (f (.int i t) (.int j u)) Q E s) :
  OpR X f (rI0 fun i j=>.bl (g i j)):=by
 intro pins s σ H x y v u Q I rx ry h
 obtain ⟨i,j,rfl,rfl,q⟩:=h
 obtain ⟨t,rfl⟩:=rx
 obtain ⟨t',rfl⟩:=ry
 exact rule i j t t' s _ _ ⟨.bl (g i j),H,I,rfl,q⟩
def CDiv (i j:Int):Prop:=0 < j /\ j < 1073741824
def CMul (i j:Int):Prop:=(-(2 ^ 64) < i /\ i < 2 ^ 64) \/ (-(2 ^ 64) < j /\ j < 2 ^ 64)
theorem CMul.ok {i j:Int} (h:CMul i j):IntMulOk i j:=by
 rcases h with ⟨h1,h2⟩ | ⟨h1,h2⟩
 ·exact .of_left (intBits_le_64 h1 h2)
 ·exact .of_right (intBits_le_64 h1 h2)
theorem JhK:OpR X (binaryOp .Add) (rI0 fun i j=>.int (i + j)):=opI0 fun _ _ _ _ _ _ _ q=>add_int q
theorem Jgk:OpR X (binaryOp .Mult) (rI CMul fun i j=>.int (i * j)):=opI fun _ _ _ _ _ _ _ hc q=>mul_int q hc.ok
theorem Jgc:OpR X (binaryOp .FloorDiv) (rI CDiv fun i j=>.int (i / j)):=opI fun i j _ _ _ _ _ hc q=>by
 have h1:(0:Int) < j:=hc.1
 have h2:j < 1073741824:=hc.2
 exact floordiv_int (by omega) (by rw [Int.fdiv_eq_ediv_of_nonneg i (by omega)]; exact q) (.inl (PyProof.noPylong_small (by omega)))
theorem JgX:OpR X (binaryOp .Mod) (rI (fun _ j=>0 < j) fun i j=>.int (i % j)):=opI fun i j _ _ _ _ _ hc q=>by
 have h1:(0:Int) < j:=hc
 exact mod_int' (by omega) (by rw [Int.fmod_eq_emod_of_nonneg i (by omega)]; exact q)
theorem unI {f:Value -> Sem Value} {g:Int -> Int}
  (rule:∀ (i:Int) (t:Tok) (s:Shared) (Q:Value -> Shared -> Prop) (E:Value -> Shared -> Prop),Q (.int (g i) s.toks) { s with toks:=s.toks + 1 } -> wpAny (model X.prog X.w) X.A (f (.int i t)) Q E s) :
  UnR X f (rU fun i=>.int (g i)):=by
 intro pins s σ H x v Q I rx h
 obtain ⟨i,rfl,q⟩:=h
 obtain ⟨t,rfl⟩:=rx
 exact rule i t s _ _ ⟨.int (g i),H,I.tok _,⟨_,rfl⟩,q⟩
theorem Jhf:UnR X (unaryOp .USub) (rU fun i=>.int (-i)):=unI fun _ _ _ _ _ q=>neg_int q
end
section
variable {X:Cx} {a b c:Expr} {ta tb tc:TE} {pos:Pos}
theorem JcN {pins:List (Addr × Obj)} {σ:St} {H:Hp} {s:Shared} {Q:VK} {k k':Bool} (I:Inv X pins σ H s) (q:Q (.bl k) H) (e:k = k'):EP X pins σ Q (.bool k') s:=by
 subst e
 exact ⟨.bl k,H,I,rfl,q⟩
theorem op_lt:OpR X (compareOp .Lt) (rI0 fun i j=>.bl (decide (i < j))):=opB0 fun _ _ _ _ _ _ _ q=>lt_int q
theorem op_le:OpR X (compareOp .LtE) (rI0 fun i j=>.bl (decide (i <= j))):=opB0 fun _ _ _ _ _ _ _ q=>le_int q
theorem op_gt:OpR X (compareOp .Gt) (rI0 fun i j=>.bl (decide (j < i))):=opB0 fun _ _ _ _ _ _ _ q=>gt_int q
theorem JdO:OpR X (compareOp .Lt) (fun x y H Q=>∃ i j,x = .str i /\ y = .str j /\ Q (.bl (decide (i.cps.toList < j.cps.toList))) H):=by
 intro pins s σ H x y v u Q I rx ry h
 obtain ⟨i,j,rfl,rfl,q⟩:=h
 obtain ⟨t,rfl⟩:=rx
 obtain ⟨t',rfl⟩:=ry
 exact lt_str (JcN I q rfl)
theorem Jdj:OpR X (compareOp .In) (fun x y H Q=>∃ i j,x = .str i /\ y = .str j /\ Q (.bl (!(Builtin.Str.occurrences j i 0 j.length 1).isEmpty)) H):=by
 intro pins s σ H x y v u Q I rx ry h
 obtain ⟨i,j,rfl,rfl,q⟩:=h
 obtain ⟨t,rfl⟩:=rx
 obtain ⟨t',rfl⟩:=ry
 exact in_str (JcN I q rfl)
theorem Jbo:OpR X (compareOp .NotIn) (fun x y H Q=>∃ i j,x = .str i /\ y = .str j /\ Q (.bl (!(!(Builtin.Str.occurrences j i 0 j.length 1).isEmpty))) H):=by
 intro pins s σ H x y v u Q I rx ry h
 obtain ⟨i,j,rfl,rfl,q⟩:=h
 obtain ⟨t,rfl⟩:=rx
 obtain ⟨t',rfl⟩:=ry
 exact notIn_str (JcN I q rfl)
theorem Jan (b:Expr) {op:CmpOp} (h:op ≠ .In:=by decide) (h2:op ≠ .NotIn:=by decide):behindInMarks op b = false:=by
 have e1:(op == CmpOp.In) = false:=by cases op <;> first | rfl | exact absurd rfl h
 have e2:(op == CmpOp.NotIn) = false:=by cases op <;> first | rfl | exact absurd rfl h2
 cases b <;> simp [behindInMarks,e1,e2]
theorem JfN {op:CmpOp} {r:R2} (ho:OpR X (compareOp op) r) (ha:PE X a ta) (hb:PE X b tb) (hm:behindInMarks op b = false):PE X (.Compare a [op] [b] pos) (tOp r ta tb):=by
 intro pins s σ H Q I h
 exact wpAny_Compare1 (binT ha hb I h fun v u s2 x y H2 I2 rx ry q=>ho pins s2 σ H2 x y v u Q I2 rx ry q) hm
def tTest (t:TE):TT:=fun σ H Q=>t σ H fun x H'=>∃ k,x = .bl k /\ Q k H'
theorem Jga {op:CmpOp} {r:R2} (ho:OpR X (compareOp op) r) (ha:PE X a ta) (hb:PE X b tb) (hm:behindInMarks op b = false):PT X (.Compare a [op] [b] pos) (tTest (tOp r ta tb)):=by
 intro pins s σ H Q I h
 refine wpAny_isTrue_Compare1 (thn (ha pins s σ H _ I h) fun v s1 ⟨x,H1,I1,r1,q1⟩=>thn (hb pins s1 σ H1 _ I1 q1) fun u s2 ⟨y,H2,I2,r2,q2⟩=>
  thn (ho pins s2 σ H2 x y v u _ I2 r1 r2 q2) fun c s3 ⟨z,H3,I3,r3,k,e,q3⟩=>?_) hm
 subst e
 cases r3
 exact wpAny_truthy_bool ⟨H3,I3,q3⟩
def tChain (r r':R2) (ta tb tc:TE):TE:=fun σ H Q=>ta σ H fun x H1=>tb σ H1 fun y H2=>r x y H2 fun z H3=>∃ k,z = .bl k /\
 (if k = true then tc σ H3 fun w' H4=>r' y w' H4 Q else Q (.bl false) H3)
theorem Jet {op op':CmpOp} {r r':R2} (ho:OpR X (compareOp op) r) (ho':OpR X (compareOp op') r') (ha:PE X a ta) (hb:PE X b tb) (hc:PE X c tc)
  (hm:lastMarks [op,op'] [b,c] = false:=by with_unfolding_all rfl):PE X (.Compare a [op,op'] [b,c] pos) (tChain r r' ta tb tc):=by
 intro pins s σ H Q I h
 refine Compare_chain (thn (ha pins s σ H _ I h) fun v s1 ⟨x,H1,I1,r1,q1⟩=>chain_link (thn (hb pins s1 σ H1 _ I1 q1) fun u s2 ⟨y,H2,I2,r2,q2⟩=>
  thn (ho pins s2 σ H2 x y v u _ I2 r1 r2 q2) fun d s3 ⟨z,H3,I3,r3,k,e,q3⟩=>?_)) hm
 subst e
 cases r3
 refine wpAny_truthy_bool ?_
 cases k with
 | false=>exact ite_ff ⟨.bl false,H3,I3,rfl,q3⟩
 | true=>exact ite_tt (chain_last (thn (hc pins s3 σ H3 _ I3 q3) fun w' s4 ⟨z',H4,I4,r4,q4⟩=>ho' pins s4 σ H4 y z' u w' Q I4 r2 r4 q4))
theorem JdW {op op':CmpOp} {r r':R2} (ho:OpR X (compareOp op) r) (ho':OpR X (compareOp op') r') (ha:PE X a ta) (hb:PE X b tb) (hc:PE X c tc)
  (hm:lastMarks [op,op'] [b,c] = false:=by with_unfolding_all rfl):PT X (.Compare a [op,op'] [b,c] pos) (tTest (tChain r r' ta tb tc)):=by
 intro pins s σ H Q I h
 refine isTrue_chain (thn (ha pins s σ H _ I h) fun v s1 ⟨x,H1,I1,r1,q1⟩=>test_link (thn (hb pins s1 σ H1 _ I1 q1) fun u s2 ⟨y,H2,I2,r2,q2⟩=>
  thn (ho pins s2 σ H2 x y v u _ I2 r1 r2 q2) fun d s3 ⟨z,H3,I3,r3,k,e,q3⟩=>?_)) hm
 subst e
 cases r3
 refine wpAny_truthy_bool ?_
 cases k with
 | false=>
  obtain ⟨k',e',q'⟩:=q3
  cases e'
  exact ite_ff ⟨H3,I3,q'⟩
 | true=>
  refine ite_tt (test_last (thn (hc pins s3 σ H3 _ I3 q3) fun w' s4 ⟨z',H4,I4,r4,q4⟩=>thn (ho' pins s4 σ H4 y z' u w' _ I4 r2 r4 q4) fun d' s5 ⟨z2,H5,I5,r5,k2,e2,q5⟩=>?_))
  subst e2
  cases r5
  exact wpAny_truthy_bool ⟨H5,I5,q5⟩
def TruV (K:PySem.W.Frag) (x:V) (H:Hp) (k:Bool):Prop:=
 match x with
 | .non=>k = false
 | .bl b=>k = b
 | .int i=>k = (i != 0)
 | .str y=>y.length <= sizeLine /\ k = ((y.length:Int) != 0)
 | .byt y=>y.size <= sizeLine /\ k = ((y.size:Int) != 0)
 | .ref p=>(∃ xs,SqL K H p xs /\ k = !xs.isEmpty) \/ (∃ xs,SqT K H p xs /\ k = !xs.isEmpty) \/ ∃ kvs,H p = some (.dK kvs) /\ k = !kvs.isEmpty
 | _=>False
theorem Jcp {κ:Type} {kvs:List (κ × V)} {vs:List (κ × Value)} (r:KV kvs vs):(!vs.isEmpty) = !kvs.isEmpty:=by
 cases r <;> rfl
theorem JaC {xs:List V} {its:List Value} (r:Vals xs its):(!its.toArray.isEmpty) = !xs.isEmpty:=by
 cases r <;> simp
theorem JaH:(sizeLine:Nat) < 2 ^ 63:=by rw [sizeLine_eq]; decide
theorem Jhd:TruR X (fun x H Q=>∃ k,TruV X.K x H k /\ Q k H):=by
 intro pins s σ H x v Q I rx h
 obtain ⟨k,e,q⟩:=h
 have hl:=JaH
 have hs:sizeLine = 16777216:=sizeLine_eq
 cases x with
 | non=>
  cases rx
  have e':k = false:=e
  subst e'
  exact truthy_none ⟨H,I,q⟩
 | bl b=>
  cases rx
  have e':k = b:=e
  subst e'
  exact wpAny_truthy_bool ⟨H,I,q⟩
 | int i=>
  obtain ⟨t,rfl⟩:=rx
  have e':k = (i != 0):=e
  subst e'
  exact PySem.P.truthy_int ⟨H,I,q⟩
 | str y=>
  obtain ⟨t,rfl⟩:=rx
  obtain ⟨hy,e'⟩:y.length <= sizeLine /\ k = ((y.length:Int) != 0):=e
  subst e'
  exact PySem.P.truthy_str (by omega) ⟨H,I.tok _,q⟩
 | byt y=>
  obtain ⟨t,rfl⟩:=rx
  obtain ⟨hy,e'⟩:y.size <= sizeLine /\ k = ((y.size:Int) != 0):=e
  subst e'
  exact PySem.W.truthy_bytes (by omega) ⟨H,I.tok _,q⟩
 | ref p=>
  cases rx
  have e':(∃ xs,SqL X.K H p xs /\ k = !xs.isEmpty) \/ (∃ xs,SqT X.K H p xs /\ k = !xs.isEmpty) \/ ∃ kvs,H p = some (.dK kvs) /\ k = !kvs.isEmpty:=e
  rcases e' with ⟨xs,hx,e'⟩ | ⟨xs,hx,e'⟩ | ⟨kvs,hx,e'⟩
  ·subst e'
   obtain ⟨its,r,pl,hz⟩:=I.list hx
   have hlen:=r.length
   exact wpAny_truthy_list pl.isList (by simp only [List.size_toArray]; omega) ⟨H,I.tok _,by rw [JaC r]; exact q⟩
  ·subst e'
   obtain ⟨its,r,pl,hz⟩:=I.tuple hx
   have hlen:=r.length
   exact truthy_tuple pl (by simp only [List.size_toArray]; omega) ⟨H,I.tok _,by rw [JaC r]; exact q⟩
  ·subst e'
   obtain ⟨hz,hS,vs,r,m⟩:kvs.length <= sizeLine /\ (p == sysModules) = false /\ ∃ vs,KV kvs vs /\ s.heap.DictOf (mixKind X.prog X.w) p vs:=I.hok p _ hx
   have hlen:kvs.length = vs.length:=Paired.length r
   exact wpAny_truthy_dict hS m (by omega) ⟨H,I.tok _,by rw [Jcp r]; exact q⟩
 | _=>exact (show False from e).elim
theorem JdS (ha:PE X a ta) (he:∀ whole,isTrue a X.env whole = (do let v <- whole; standAt a.pos; holding [v] (truthy v))) :
  PT X a (fun σ H Q=>ta σ H fun x H'=>∃ k,TruV X.K x H' k /\ Q k H'):=by
 intro pins s σ H Q I h
 exact isTrue_plain (thn (ha pins s σ H _ I h) fun v s1 ⟨x,H1,I1,r1,q1⟩=>Jhd pins s1 σ H1 x v Q I1 r1 q1) (he _)
theorem Jcj:OpR X (binaryOp .Add) (fun x y H Q=>∃ i j,x = .str i /\ y = .str j /\ i.length + j.length <= sizeLine /\ Q (.str (i ++ j)) H):=by
 intro pins s σ H x y v u Q I rx ry h
 obtain ⟨i,j,rfl,rfl,hz,q⟩:=h
 obtain ⟨t,rfl⟩:=rx
 obtain ⟨t',rfl⟩:=ry
 exact add_str (fun t' tk=>⟨.str (i ++ j),H,I.tok _,⟨_,rfl⟩,q⟩) hz
theorem Jbp {x:V} {us:List Value} (r:Vals [x] us):∃ u,us = [u] /\ RelV x u:=by
 cases r with
 | cons r1 r2=>cases r2; exact ⟨_,rfl,r1⟩
theorem Jhk {x y:V} {us:List Value} (r:Vals [x,y] us):∃ u w',us = [u,w'] /\ RelV x u /\ RelV y w':=by
 cases r with
 | cons r1 r2=>
  cases r2 with
  | cons r3 r4=>cases r4; exact ⟨_,_,rfl,r1,r3⟩
end
end L2
namespace L2
open PySem PySem.Spec PyProof.Rows
section
variable {prog:Program} {w:World} {A:Around} {E:Value -> Shared -> Prop} {s:Shared} {K:PySem.W.Frag} {x dx C f:Addr} {mA:Str -> Option Value} {name:Str} {v:Value}
end
section
variable {P:Program} {w:World} {H H':Hp} {h h':Heap} {a C dx:Addr} {fs fs':List (Str × V)}
end
structure Cls (K:PySem.W.Frag) (C:Addr):Prop where
 pg:PySem.W.plainGet K C Str.empty = true
 hd:PySem.W.hasDictIn K C = true
 po:PySem.W.plainOver K C = true
 sa:PySem.W.findIn K (.ref C) "__setattr__" = some (some (.builtin "object.__setattr__"))
theorem Cls.get {K:PySem.W.Frag} {C:Addr} (c:Cls K C) (f:Str):PySem.W.plainGet K C f = true:=c.pg
section
variable {X:Cx} {pins:List (Addr × Obj)} {σ:St} {H:Hp} {s:Shared} {a C dx:Addr} {fs:List (Str × V)} {f:Str} {v:V} {A:Around} {E:Value -> Shared -> Prop}
end
section
variable {X:Cx} {o e value:Expr} {f:Str} {pos pos' tpos:Pos} {ta tv:TE}
end
section
variable {X:Cx} {pins:List (Addr × Obj)} {σ:St} {H:Hp} {s:Shared} {A:Around} {E:Value -> Shared -> Prop} {Q:Value -> Shared -> Prop} {c:Value} {b:Bool}
end
end L2
namespace L2
open PySem PySem.Spec PyProof.Rows
structure Room (k:Nat) (A:Around):Prop where
 hd:A.handled = none
 dp:A.depth + 3 * k + 5 < recursionLimit
 un:A.units + 16 * k + 200 < cLine
theorem Room.mono {j k:Nat} {A:Around} (r:Room k A) (h:j <= k):Room j A:=⟨r.hd,by have:=r.dp; omega,by have:=r.un; omega⟩
theorem Room.deeper {k:Nat} {A:Around} (r:Room (k + 1) A) (env:Env):Room k (A.deeper env):=
 ⟨r.hd,by have:=r.dp; show A.depth + 1 + 3 * k + 5 < _; omega,by have:=r.un; show A.units + 3 + 16 * k + 200 < _; omega⟩
theorem Room.in1 {k:Nat} {A:Around} (r:Room (k + 1) A):Room k A.in1:=
 ⟨r.hd,by have:=r.dp; show A.depth + 3 * k + 5 < _; omega,by have:=r.un; show A.units + 1 + 16 * k + 200 < _; omega⟩
theorem Room.depth {k:Nat} {A:Around} (r:Room k A):A.depth < recursionLimit:=by have:=r.dp; omega
theorem Room.units {k:Nat} {A:Around} (r:Room k A):A.units + 64 < cLine:=by have:=r.un; omega
def tNil:TA:=fun _ H Q=>Q [] H
def tCons (ta:TE) (tr:TA):TA:=fun σ H Q=>ta σ H fun x H1=>tr σ H1 fun xs H2=>Q (x :: xs) H2
section
variable {X:Cx} {e:Expr} {es:List Expr} {te:TE} {t:TA} {pos:Pos}
theorem JJ:PA X [] tNil:=fun _ _ _ _ H Q I h=>Calls.spliced_nil ⟨[],H,I,.nil,h⟩
theorem Jt (ha:PE X e te) (hr:PA X es t) (hs:starEach (e :: es) X.env = (false,eval e X.env) :: starEach es X.env:=by rfl):PA X (e :: es) (tCons te t):=by
 intro pos pins s σ H Q I h
 rw [hs]
 show wpAny _ _ (spliced ((false,eval e X.env) :: backTo pos (starEach es X.env))) _ _ s
 refine Calls.spliced_cons (thn (ha pins s σ H _ I h) fun u s1 ⟨x,H1,I1,r1,q1⟩=>?_)
 exact thn (hr pos pins s1 σ H1 _ I1 q1) fun us s2 ⟨xs,H2,I2,r2,q2⟩=>⟨x :: xs,H2,I2,.cons r1 r2,q2⟩
def tTup (t:TA):TE:=fun σ H Q=>t σ H fun xs H1=>xs.length <= sizeLine /\ ∀ p,H1 p = none -> Q (.ref p) (upd H1 p (.tup xs))
def tLst (t:TA):TE:=fun σ H Q=>t σ H fun xs H1=>xs.length <= sizeLine /\ ∀ p,H1 p = none -> Q (.ref p) (upd H1 p (.lst xs))
theorem JhI {x1} (h:PA X es t):PE X (.Tuple es x1 pos) (tTup t):=by
 intro pins s σ H Q I hq
 refine wpAny_Tuple_spliced (thn (h pos pins s σ H _ I hq) fun us s1 ⟨xs,H1,I1,r,z,q⟩=>⟨by rw [<- r.length]; exact z,?_⟩)
 have hf:H1 s1.heap.objs.size = none:=I1.hok.fresh (Nat.le_refl _)
 refine ⟨.ref s1.heap.objs.size,upd H1 s1.heap.objs.size (.tup xs),I1.laid (t':=s1.toks) (fun b u e=>Heap.get?_push_of_some _ e) (Nat.le_refl _) ?_,rfl,q _ hf⟩
 exact ⟨⟨z,JaF⟩,us,r,⟨_,Heap.get?_push_size _ rfl,rfl,_,rfl⟩⟩
theorem Jho (h:PA X es t):PE X (.List es pos) (tLst t):=by
 intro pins s σ H Q I hq
 refine wpAny_List_spliced (thn (h pos pins s σ H _ I hq) fun us s1 ⟨xs,H1,I1,r,z,q⟩=>⟨by rw [<- r.length]; exact z,?_⟩)
 have hf:H1 s1.heap.objs.size = none:=I1.hok.fresh (Nat.le_refl _)
 refine ⟨.ref s1.heap.objs.size,upd H1 s1.heap.objs.size (.lst xs),I1.laid (t':=s1.toks) (fun b u e=>Heap.get?_push_of_some _ e) (Nat.le_refl _) ?_,rfl,q _ hf⟩
 exact ⟨z,us,0,r,Heap.get?_push_size _ rfl⟩
end
abbrev Sp:=List V -> Hp -> VK -> XK -> Prop
abbrev CXT:=List Env -> Hp -> Shared -> XK -> Value -> Shared -> Prop
structure Env0 (P:Program) (w:World) (K:PySem.W.Frag) (mg:Str -> Option Value) (base:Heap) (A:Around) (outer:List Env) (s:Shared) (H:Hp):Prop where
 frames:A.frames = some outer
 mod:Mod K mg base
 bs:∀ b o,base.get? b = some o -> s.heap.get? b = some o /\ H b = none
 bsz:base.objs.size <= s.heap.objs.size
 funs:s.heap.FunFrames base outer
 frf:∀ b ∈ frs outer,H b = none
 hok:HOk P w H s.heap
 bare:AllBare s.gens
def CE (outer:List Env) (P:Program) (w:World) (H:Hp) (s:Shared) (Q:VK) (u:Value) (s':Shared):Prop:=
 ∃ v H',s'.os = s.os /\ AllBare s'.gens /\ Un (frs outer) [] H H' s.heap s'.heap /\ HOk P w H' s'.heap /\ RelV v u /\ Q v H'
def CR (CX:CXT) (outer:List Env) (P:Program) (w:World) (H:Hp) (s:Shared) (Q:VK) (E:XK) (r:Result) (s':Shared):Prop:=
 match r with
 | .ok (.ret u)=>CE outer P w H s Q u s'
 | .ok _=>False
 | .error e=>CX outer H s E e s'
structure FnOk (P:Program) (w:World) (K:PySem.W.Frag) (mg:Str -> Option Value) (base:Heap) (CX:CXT) (k:Nat) (f:Addr) (fd:FuncData) (ps:List Str) (sp:Sp):Prop where
 len:∀ vs H Q E,sp vs H Q E -> vs.length = ps.length
 run:∀ (A:Around) (outer:List Env) (s:Shared) (H:Hp) (args:Args) (us:List Value) (vs:List V) (Q:VK) (E:XK),Room k A -> Env0 P w K mg base A outer s H -> BindsTo s fd args (ps.zip us) -> Vals vs us -> sp vs H Q E ->
  codeAny (model P w) A (.call (.ref f) args) (CR CX outer P w H s Q E) s
theorem FnOk.imp {P:Program} {w:World} {K:PySem.W.Frag} {mg:Str -> Option Value} {base:Heap} {CX:CXT} {k:Nat} {f:Addr} {fd:FuncData} {ps:List Str} {sp sp':Sp} (F:FnOk P w K mg base CX k f fd ps sp)
  (h:∀ vs H Q E,sp' vs H Q E -> sp vs H Q E):FnOk P w K mg base CX k f fd ps sp':=
 ⟨fun vs H Q E q=>F.len vs H Q E (h _ _ _ _ q),fun A outer s H args us vs Q E hr he hb hv hs=>F.run A outer s H args us vs Q E hr he hb hv (h _ _ _ _ hs)⟩
section
variable {X:Cx} {pins:List (Addr × Obj)} {σ:St} {H:Hp} {s s':Shared}
theorem Inv.env0 (I:Inv X pins σ H s):Env0 X.prog X.w X.K X.mg X.base X.A X.stack s H:=
 ⟨I.ok.frames,I.ok.mod,I.bs,Nat.le_trans I.ok.bsz I.sz,I.stack,I.stkFree,I.hok,I.bare⟩
theorem Inv.after {Q:VK} {u:Value} (I:Inv X pins σ H s) (h:CE X.stack X.prog X.w H s Q u s'):EP X pins σ Q u s':=by
 obtain ⟨v,H',os,bare,un,hok,r,q⟩:=h
 obtain ⟨hh,g,d,t,os'⟩:=s'
 obtain rfl:os' = s.os:=os
 exact ⟨v,H',I.call (h':=hh) (g':=g) (d':=d) (t':=t) (ch:=[]) un hok bare (fun b z=>absurd z (by simp)),r,q⟩
end
def tCall (sp:Sp) (dvs:List V) (E:XK) (t:TA):TE:=fun σ H Q=>t σ H fun vs H1=>sp (vs ++ dvs) H1 Q E
def Binds (K:PySem.W.Frag) (fd:FuncData) (ps:List Str) (ds:List Value):Prop:=
 ∀ (s:Shared) (us:List Value),K.In s.heap -> (us ++ ds).length = ps.length -> BindsTo s fd ⟨us,[]⟩ (ps.zip (us ++ ds))
theorem Binds.all {K:PySem.W.Frag} {fd:FuncData} {ps:List Str} (h:∀ us:List Value,us.length = ps.length -> bindArgs fd ⟨us,[]⟩ = pure (ps.zip us)):Binds K fd ps []:=fun s us _ hl=>by
 rw [List.append_nil] at hl ⊢
 exact .of_eq (h us hl)
def Passes (CX:CXT) (X:Cx) (E:XK):Prop:=∀ (pins:List (Addr × Obj)) (σ:St) (H:Hp) (s:Shared) (e:Value) (s':Shared),Inv X pins σ H s -> CX X.stack H s E e s' -> X.xe e s'
section
variable {X:Cx} {CX:CXT} {k:Nat} {f C:Addr} {fd:FuncData} {ps:List Str} {sp:Sp} {dvs:List V} {ds:List Value} {E:XK} {x m:Str} {p pos apos:Pos} {e o:Expr} {es:List Expr} {ta:TE} {t:TA}
theorem JgE {pins:List (Addr × Obj)} {σ:St} {H:Hp} {s:Shared} {Q:VK} {us:List Value} {vs:List V} (F:FnOk X.prog X.w X.K X.mg X.base CX k f fd ps sp) (hr:Room k X.A) (hb:Binds X.K fd ps ds) (hd:Vals dvs ds) (hx:Passes CX X E)
  (I:Inv X pins σ H s) (r:Vals vs us) (h:sp (vs ++ dvs) H Q E):wpAny (model X.prog X.w) X.A (call (.ref f) us) (EP X pins σ Q) X.xe s:=by
 have r2:Vals (vs ++ dvs) (us ++ ds):=r.append hd
 have hl:(us ++ ds).length = ps.length:=by rw [<- r2.length]; exact F.len _ _ _ _ h
 refine wpAny_call (codeAny_mono (F.run X.A X.stack s H ⟨us,[]⟩ (us ++ ds) (vs ++ dvs) Q E hr I.env0 (hb s us I.kIn hl) r2 h) fun r s' hq=>?_)
 cases r with
 | error e=>exact hx pins σ H s e s' I hq
 | ok fl=>
  cases fl with
  | ret u=>exact I.after hq
  | next=>exact False.elim hq
  | brk=>exact False.elim hq
  | cont=>exact False.elim hq
theorem Jgi (F:FnOk X.prog X.w X.K X.mg X.base CX k f fd ps sp) (hr:Room k X.A) (hg:Gl X x) (hm:X.mg x = some (.ref f)) (hk:PySem.W.keepIn X.K (.ref f) = true) (hb:Binds X.K fd ps ds) (hd:Vals dvs ds) (hx:Passes CX X E)
  (ha:PA X (e :: es) t) (hdb:(x == ("__debug__" : Str)) = false:=by decide) (he:starEach (e :: es) X.env = (false,eval e X.env) :: starEach es X.env:=by rfl) (hpl:(backTo pos (starEach es X.env)).any (·.1) = false:=by rfl) :
  PE X (.Call (.Name x p) (e :: es) [] pos) (tCall sp dvs E t):=by
 intro pins s σ H Q I h
 refine wpAny_Call_Name_kw (JR I hg hm ?_ hdb)
 refine PySem.W.callWith_K (h₀:=X.base) I.ok.mod.kin hk (thn (ha pos pins s σ H _ I h) fun us s1 ⟨vs,H1,I1,r,q⟩=>⟨I1.kIn,?_⟩) he hpl
 exact JgE F hr hb hd hx I1 r q
end
section
variable {X:Cx} {CX:CXT} {k:Nat} {f C:Addr} {fd:FuncData} {ps ks:List Str} {sp:Sp} {E:XK} {x m:Str} {p pos apos kpos:Pos} {e o:Expr} {es:List Expr} {kws:List Keyword} {te ta:TE} {t tk:TA} {nm:Option Str}
variable {g:List Value -> List Value -> List Value} {gV:List V -> List V -> List V}
end
structure FnScope (N P:List Str) (sc:Scope):Prop where
 kind:sc.kind = .function
 co:sc.isCoroutine = false
 gen:sc.isGenerator = false
 nd:N.Nodup
 pre:N.take P.length = P
 par:∀ x ∈ P,sc.names.lookup x = some .local \/ sc.names.lookup x = some .cell
 nofree:∀ y ∈ sc.names,y.2 ≠ .free
theorem Jbh {kindOf:Str -> Option NameKind} {x:Str}:∀ {binds:List (Str × Value)} {m:Str -> Option Value},(∀ v,(x,v) ∉ binds) -> bindL kindOf binds m x = m x
 | [],_,_=>rfl
 | (n,v) :: r,m,h=>by
  unfold bindL
  rw [Jbh fun w hw=>h w (List.mem_cons_of_mem _ hw)]
  split
  ·have:x ≠ n:=by rintro rfl; exact h v List.mem_cons_self
   simp [this]
  ·rfl
theorem Jbu {kindOf:Str -> Option NameKind} {x:Str}:∀ {binds:List (Str × Value)} {m:Str -> Option Value},(∀ v,(x,v) ∉ binds) -> bindC kindOf binds m x = m x
 | [],_,_=>rfl
 | (n,v) :: r,m,h=>by
  unfold bindC
  rw [Jbu fun w hw=>h w (List.mem_cons_of_mem _ hw)]
  split
  ·rfl
  ·have:x ≠ n:=by rintro rfl; exact h v List.mem_cons_self
   simp [this]
theorem Jbs {kindOf:Str -> Option NameKind} {x:Str} {v:Value}:∀ {P:List Str} {vs:List Value} {i:Nat} {m:Str -> Option Value},P.Nodup -> P[i]? = some x -> vs[i]? = some v -> kindOf x = some .local ->
  bindL kindOf (P.zip vs) m x = some v
 | [],_,_,_,_,h,_,_=>by simp at h
 | _ :: _,[],_,_,_,_,h,_=>by simp at h
 | p :: P,w :: vs,0,m,nd,h1,h2,hk=>by
  simp at h1 h2; subst h1; subst h2
  show bindL kindOf ((p,w) :: P.zip vs) m p = _
  unfold bindL
  rw [Jbh fun v hv=>(List.nodup_cons.mp nd).1 (List.of_mem_zip hv).1,if_pos hk]
  simp
 | p :: P,w :: vs,i + 1,m,nd,h1,h2,hk=>by
  show bindL kindOf ((p,w) :: P.zip vs) m x = _
  unfold bindL
  exact Jbs (i:=i) (List.nodup_cons.mp nd).2 (by simpa using h1) (by simpa using h2) hk
theorem Jbr {kindOf:Str -> Option NameKind} {x:Str} {v:Value}:∀ {P:List Str} {vs:List Value} {i:Nat} {m:Str -> Option Value},P.Nodup -> P[i]? = some x -> vs[i]? = some v -> kindOf x ≠ some .local ->
  bindC kindOf (P.zip vs) m x = some v
 | [],_,_,_,_,h,_,_=>by simp at h
 | _ :: _,[],_,_,_,_,h,_=>by simp at h
 | p :: P,w :: vs,0,m,nd,h1,h2,hk=>by
  simp at h1 h2; subst h1; subst h2
  show bindC kindOf ((p,w) :: P.zip vs) m p = _
  unfold bindC
  rw [Jbu fun v hv=>(List.nodup_cons.mp nd).1 (List.of_mem_zip hv).1,if_neg hk]
  simp
 | p :: P,w :: vs,i + 1,m,nd,h1,h2,hk=>by
  show bindC kindOf ((p,w) :: P.zip vs) m x = _
  unfold bindC
  exact Jbr (i:=i) (List.nodup_cons.mp nd).2 (by simpa using h1) (by simpa using h2) hk
def start (N:List Str) (vs:List V):St:=vs.map some ++ List.replicate (N.length - vs.length) none
def cxOf (CX:CXT) (P:Program) (w:World) (K:PySem.W.Frag) (mg:Str -> Option Value) (base:Heap) (N:List Str) (qual:Str) (scope:Scope) (f:Addr) (cd:Value) (A:Around) (outer:List Env) (s:Shared) (H:Hp) (E:XK):Cx where
 prog:=P
 w:=w
 K:=K
 mg:=mg
 base:=base
 A:=A.deeper (envOfC qual scope s.heap.objs.size f cd)
 N:=N
 s₀:=s
 H₀:=H
 env:=envOfC qual scope s.heap.objs.size f cd
 outer:=outer
 stack:=envOfC qual scope s.heap.objs.size f cd :: outer
 ex:=[]
 calm:=true
 fn:=fun _=>true
 pn:=[]
 xe:=fun e s'=>wpAny (model P w) (A.deeper (envOfC qual scope s.heap.objs.size f cd)) (leaving (envOfC qual scope s.heap.objs.size f cd) e) (fun _ s''=>CX outer H s E e s'') (fun e' s''=>CX outer H s E e' s'') s'
theorem JbV {sc:Scope} {n:Nat} {x:Str} (h:sc.names.lookup x = some .cell):∃ c,(cellsFrom n sc.names []).lookup x = some c:=by
 have q:=PySem.W.cellsFrom_some sc.names n [] (.inl h)
 exact Option.isSome_iff_exists.mp q
theorem Jag {CX:CXT} {P:Program} {w:World} {K:PySem.W.Frag} {mg:Str -> Option Value} {base:Heap} {N ps:List Str} {qual:Str} {scope:Scope} {f:Addr} {cd:Value} {A:Around} {outer:List Env} {s s1:Shared} {H:Hp} {E:XK} {us:List Value} {vs:List V}
  (S:FnScope N ps scope) (hd:A.handled = none) (e0:Env0 P w K mg base A outer s H) (hl:vs.length = ps.length) (r:Vals vs us)
  (x:InCallC s s.heap.objs.size (bindL (envOfC qual scope s.heap.objs.size f cd).kindOf (ps.zip us) fun _=>none) (cellsFrom (s.heap.objs.size + 1) scope.names []) (bindC (envOfC qual scope s.heap.objs.size f cd).kindOf (ps.zip us) fun _=>none) s1) :
  Inv (cxOf CX P w K mg base N qual scope f cd A outer s H E) [] (start N vs) H s1:=by
 have hpl:ps.length <= N.length:=by have:=congrArg List.length S.pre; rw [List.length_take] at this; omega
 obtain ⟨h1,tk,rfl,hk⟩:=x.done
 have noA:∀ b:Addr,b ∉ (cxOf CX P w K mg base N qual scope f cd A outer s H E).ex:=fun b z=>absurd (show b ∈ ([]:List Addr) from z) (by simp)
 refine ⟨⟨e0.mod,S.kind,rfl,rfl,Nat.le_refl _,fun y z c h1 h2=>?_,fun y hy=>?_,fun y c _ h=>?_,fun _=>hd,Around.frames_deeper e0.frames,.inr ⟨rfl,rfl⟩,fun b z=>absurd z (noA b),e0.bs,e0.bsz,fun b _ _=>noA b,fun b z=>absurd z (noA b),e0.funs,e0.frf⟩,
  rfl,e0.bare,Un.kept hk,⟨_,x.toInCall.ns,fun i y v h1 h2 h3=>?_⟩,fun y c h=>⟨_,x.cell y c h⟩,e0.hok.fresh (Nat.le_refl _),fun y c h=>?_,fun p hp=>absurd (show p ∈ ([]:List (Addr × Obj)) from hp) (by simp),e0.hok.kept hk,?_⟩
 ·exact name_of_addr x.apart (PySem.mem_of_lookup h1) (PySem.mem_of_lookup h2)
 ·have hy:scope.names.lookup y = some .cell \/ scope.names.lookup y = some .free:=hy
  rcases hy with hy | hy
  ·exact JbV hy
  ·exact absurd rfl (S.nofree _ (PySem.mem_of_lookup hy))
 ·exact Nat.le_of_lt (x.above y c (PySem.mem_of_lookup h))
 ·have hi:i < vs.length:=by
   unfold start at h2
   by_cases hi:i < vs.length
   ·exact hi
   ·rw [List.getElem?_append_right (by simpa using hi)] at h2
    rw [List.getElem?_replicate] at h2
    split at h2 <;> cases h2
  have ha:vs[i]? = some v:=by
   unfold start at h2
   rw [List.getElem?_append_left (by simpa using hi),List.getElem?_map] at h2
   cases e:vs[i]? with
   | none=>rw [e] at h2; cases h2
   | some a=>rw [e] at h2; cases h2; rfl
  obtain ⟨u,hu,rv⟩:=r.get ha
  have hp:ps[i]? = some y:=by
   rw [<- S.pre,List.getElem?_take_of_lt (by omega)]; exact h1
  have ndP:ps.Nodup:=by rw [<- S.pre]; exact S.nd.sublist (List.take_sublist _ _)
  refine ⟨u,rv,?_⟩
  rcases S.par y (List.mem_of_getElem? hp) with k | k
  ·exact .inl ⟨k,Jbs ndP hp hu k⟩
  ·obtain ⟨c,e⟩:=JbV (n:=s.heap.objs.size + 1) k
   refine .inr ⟨.inl k,c,e,?_⟩
   have q:=x.cell y c e
   rw [Jbr ndP hp hu (by show scope.names.lookup y ≠ _; rw [k]; decide)] at q
   exact q
 ·exact e0.hok.fresh (Nat.le_of_lt (x.above y c (PySem.mem_of_lookup h)))
 ·unfold start
  show _ = N.length
  rw [List.length_append,List.length_map,List.length_replicate]
  omega
theorem JfB {CX:CXT} {P:Program} {w:World} {K:PySem.W.Frag} {mg:Str -> Option Value} {base:Heap} {k:Nat} {f:Addr} {name qual:Str} {params:Arguments} {body:List Stmt} {scope:Scope} {dV kV doc pm cdv ct oc:Value} {an od:Option Addr}
  {osl:Array (Option Value)} {N ps:List Str} {sp:Sp} (lk:K.lookup f = some ⟨oc,od,.func (PySem.W.fnOf name qual params body scope dV kV doc pm an cdv ct),osl⟩) (hcd:PySem.W.codeIn K cdv qual = true) (S:FnScope N ps scope)
  (len:∀ vs H Q E,sp vs H Q E -> vs.length = ps.length)
  (hbody:∀ (A:Around) (outer:List Env) (s:Shared) (H:Hp) (vs:List V) (Q:VK) (E:XK),Room k (A.deeper (envOfC qual scope s.heap.objs.size f cdv)) -> sp vs H Q E ->
   ∃ t,PSs (cxOf CX P w K mg base N qual scope f cdv A outer s H E) body t /\ t { nx:=fun _ H'=>Q .non H',rt:=Q } (start N vs) H) :
  FnOk P w K mg base CX (k + 1) f (PySem.W.fnOf name qual params body scope dV kV doc pm an cdv ct) ps sp:=by
 refine ⟨len,fun A outer s H args us vs Q E hr e0 hb r hsp=>?_⟩
 have hl:=len _ _ _ _ hsp
 have KX:K.In s.heap:=e0.mod.kin.keeps fun b o e=>(e0.bs b o e).1
 have lim:s.heap.NoLimit:=e0.mod.nolimit.keeps fun b o e=>(e0.bs b o e).1
 have hkind:∀ y ∈ ps.zip us,scope.names.lookup y.1 = some .local \/ (scope.names.lookup y.1 = some .cell /\ ((cellsFrom (s.heap.objs.size + 1) scope.names []).lookup y.1).isSome = true):=fun ⟨n,v⟩ hy=>by
  rcases S.par n (List.of_mem_zip hy).1 with q | q
  ·exact .inl q
  ·exact .inr ⟨q,PySem.W.cellsFrom_some _ _ _ (.inl q)⟩
 refine codeAny_call_function hr.depth (KX _ _ lk) rfl S.co S.gen rfl (PySem.W.codeRec_of KX hcd) (hb _ _ _ _ ?_)
 refine wpAny_newFunctionEnv_cells S.kind hkind fun env he s1 x=>?_
 subst he
 refine ⟨lim.keeps x.toInCall.keep,codeAny_func ?_⟩
 obtain ⟨t,ht,hq⟩:=hbody A outer s H vs Q E (hr.deeper _) hsp
 have I:Inv (cxOf CX P w K mg base N qual scope f cdv A outer s H E) [] (start N vs) H s1:=Jag S hr.hd e0 hl r x
 refine wpAny_mono (ht [] s1 (start N vs) H _ I hq) (fun fl s' hs=>?_) fun e s' hs=>hs
 have fin:∀ {σ':St} {H':Hp} {v:V} {u:Value},Inv (cxOf CX P w K mg base N qual scope f cdv A outer s H E) [] σ' H' s' -> RelV v u -> Q v H' -> CE outer P w H s Q u s':=
  fun {σ' H' v u} J rv q=>⟨v,H',J.os,J.bare,J.base,J.hok,rv,q⟩
 cases fl with
 | ret u=>
  obtain ⟨v,σ',H',J,rv,q⟩:=hs
  exact fin J rv q
 | next=>
  obtain ⟨σ',H',J,q⟩:=hs
  exact fin (v:=V.non) (u:=Value.none) J rfl q
 | brk=>
  obtain ⟨_,_,_,q⟩:=hs
  exact False.elim q
 | cont=>
  obtain ⟨_,_,_,q⟩:=hs
  exact False.elim q
end L2
namespace L2
open PySem PySem.Spec PyProof.Rows
section
variable {X:Cx} {x:Str} {p pos:Pos} {e:Expr} {es:List Expr} {t:TA} {id T:String} {r:List V -> Hp -> VK -> Prop}
def tCB (r:List V -> Hp -> VK -> Prop) (t:TA):TE:=fun σ H Q=>t σ H fun vs H1=>r vs H1 Q
theorem JaY (hc:CallR X (.builtin id) r) (hg:Gl X x) (hm:X.mg x = none) (hv:bootBuiltins x = some (.builtin id)) (ha:PA X (e :: es) t) (hn:x ≠ "__name__":=by decide) (hdb:(x == ("__debug__" : Str)) = false:=by decide)
  (he:starEach (e :: es) X.env = (false,eval e X.env) :: starEach es X.env:=by rfl) (hpl:(backTo pos (starEach es X.env)).any (·.1) = false:=by rfl):PE X (.Call (.Name x p) (e :: es) [] pos) (tCB r t):=by
 intro pins s σ H Q I h
 refine wpAny_Call_Name_kw (Jcd I hg hm hv ?_ hn hdb)
 exact PyProof.Rows.callWith_builtin1 (thn (ha pos pins s σ H _ I h) fun us s1 ⟨vs,H1,I1,r1,q1⟩=>hc pins s1 σ H1 vs us Q I1 r1 q1) he hpl
theorem Jdp (hc:CallR X (.type T) r) (hg:Gl X x) (hm:X.mg x = none) (hv:bootBuiltins x = some (.type T)) (ha:PA X (e :: es) t) (hn:x ≠ "__name__":=by decide) (hdb:(x == ("__debug__" : Str)) = false:=by decide)
  (he:starEach (e :: es) X.env = (false,eval e X.env) :: starEach es X.env:=by rfl) (hpl:(backTo pos (starEach es X.env)).any (·.1) = false:=by rfl):PE X (.Call (.Name x p) (e :: es) [] pos) (tCB r t):=by
 intro pins s σ H Q I h
 refine wpAny_Call_Name_kw (Jcd I hg hm hv ?_ hn hdb)
 exact PyProof.Rows.callWith_type1 (thn (ha pos pins s σ H _ I h) fun us s1 ⟨vs,H1,I1,r1,q1⟩=>hc pins s1 σ H1 vs us Q I1 r1 q1) he hpl
end
end L2
namespace HT
open PySem PyProof.Rows
section
open PySem.SeqAt
open PySem.AutoSeq1 (wpAny_loadPart')
open PySem.MeetsSeq PySem.MeetsSeq2 PySem.MeetsSeq3
end
section
variable {prog:Program} {w:World} {A:Around} {E:Value -> Shared -> Prop} {s:Shared}
theorem JfE {t b:Addr} {vs ws:List Value} {Q:Value -> Shared -> Prop} (ht:IsTup s.heap t vs.toArray) (hb:IsTup s.heap b ws.toArray) (hv:vs ≠ [])
  (h1:ws = [] -> Q (.ref t) s) (h2:ws ≠ [] -> Q (.ref s.heap.objs.size) { s with heap:=s.heap.push { cls:=.type "tuple",data:=.seq (vs ++ ws).toArray } })
  (hsz:vs.length + ws.length <= sizeLine):wpAny (model prog w) A (binaryOp .Add (.ref t) (.ref b)) Q E s:=by
 obtain ⟨⟨cls,dd,data,sl⟩,ho,hc,n,hd⟩:=id ht
 obtain ⟨⟨cls2,dd2,data2,sl2⟩,ho2,hc2,n2,hd2⟩:=id hb
 simp only at hc hd hc2 hd2
 subst hc hd hc2 hd2
 have e:vs.toArray ++ ws.toArray = (vs ++ ws).toArray:=by simp
 by_cases hw:ws = []
 ·exact concat_meets ⟨_,ho,rfl⟩ ⟨_,ho2,rfl⟩ noFill_tuple_add seq_tuple_add PySem.F.slot_tuple_add PySem.F.entry_tuple_add (PySem.F.args_tuple_add_2 _ _)
   (tuple_addW1 t b vs.toArray ws.toArray n n2 dd dd2 sl sl2 (by simpa using hv) (by simp [hw])) ⟨ho,ho2,h1 hw⟩
 ·refine concat_meets ⟨_,ho,rfl⟩ ⟨_,ho2,rfl⟩ noFill_tuple_add seq_tuple_add PySem.F.slot_tuple_add PySem.F.entry_tuple_add (PySem.F.args_tuple_add_2 _ _)
   (tuple_addW2 t b vs.toArray ws.toArray n n2 dd dd2 sl sl2 (by simpa using hv) (by simpa using hw) (by rw [List.size_toArray,List.size_toArray]; exact hsz)) ⟨ho,ho2,?_⟩
  rw [e]
  exact h2 hw
def sIx (n d:Nat):Option Int -> Nat
 | none=>d
 | some v=>if v < 0 then (v + (n:Int)).toNat else min v.toNat n
theorem Jhv (n d:Nat) (hd:d <= n) (o:Option Int):sIx n d o <= n:=by
 cases o with
 | none=>exact hd
 | some v=>
  show (if v < 0 then (v + (n:Int)).toNat else min v.toNat n) <= n
  by_cases hv:v < 0
  ·rw [if_pos hv]; omega
  ·rw [if_neg hv]; exact Nat.min_le_right _ _
theorem Jde (v:Int) (n d:Nat):(if v < 0 then max (v + (n:Int)) 0 else min v (n:Int)) = ((sIx n d (some v):Nat):Int):=by
 show (if v < 0 then max (v + (n:Int)) 0 else min v (n:Int)) = (((if v < 0 then (v + (n:Int)).toNat else min v.toNat n):Nat):Int)
 by_cases hv:v < 0
 ·simp only [if_pos hv]; omega
 ·simp only [if_neg hv]; omega
theorem Jcs (lo hi:Option Int) (n:Nat):Builtin.Slice.sliceAdjust lo hi 1 (n:Int) = (((sIx n 0 lo:Nat):Int),((sIx n n hi:Nat):Int)):=by
 have h1:¬ ((1:Int) < 0):=by omega
 unfold Builtin.Slice.sliceAdjust
 simp only [h1,if_false]
 refine Prod.ext ?_ ?_
 ·cases lo with
  | none=>rfl
  | some v=>exact Jde v n 0
 ·cases hi with
  | none=>rfl
  | some v=>exact Jde v n n
theorem Jct (i j:Nat):Builtin.Slice.slicePlaces (i:Int) (j:Int) 1 = j - i:=by
 unfold Builtin.Slice.slicePlaces
 have h1:(1:Int) > 0:=by omega
 simp only [h1,if_true,Int.ediv_one]
 split <;> omega
theorem JaG {v:Value} {o:Option Int} {Q:Option Int -> Shared -> Prop} (p:IsPart v o) (h:Q o s):wpAny (model prog w) A (Builtin.Slice.slicePartIndex v) Q E s:=by
 cases p with
 | none=>exact slicePart_none h
 | int i t=>exact slicePart_int h
theorem JC {sl:Addr} {vl vu:Value} {lo hi:Option Int} {n:Nat} {Q:Int × Int × Nat -> Shared -> Prop} (hs:s.heap.IsSliceOf sl vl vu .none) (pl:IsPart vl lo) (pu:IsPart vu hi)
  (h:Q (((sIx n 0 lo:Nat):Int),1,sIx n n hi - sIx n 0 lo) s):wpAny (model prog w) A (Builtin.Slice.sliceApplied (.ref sl) (pure (n:Int))) Q E s:=by
 obtain ⟨os,hos,hcs,hds⟩:=id hs
 unfold Builtin.Slice.sliceApplied Builtin.Slice.sliceFields
 refine wpAny_bind (wpAny_bind (wpAny_field hos hds (x:=vl) rfl (wpAny_bind (wpAny_field hos hds (x:=vu) rfl (wpAny_bind (wpAny_field hos hds (x:=.none) rfl (wpAny_pure ?_)))))))
 refine wpAny_bind (slicePart_none ?_)
 show wpAny _ _ (if ((1:Int) == 0) = true then _ else _) _ _ s
 rw [if_neg (by decide)]
 refine wpAny_bind (JaG pl (wpAny_bind (JaG pu (wpAny_bind (wpAny_pure ?_)))))
 show wpAny _ _ (match Builtin.Slice.sliceAdjust lo hi 1 (n:Int) with | (lo,hi)=>pure (lo,(1:Int),Builtin.Slice.slicePlaces lo hi 1)) _ _ s
 rw [Jcs lo hi n]
 show wpAny _ _ (pure (((sIx n 0 lo:Nat):Int),(1:Int),Builtin.Slice.slicePlaces ((sIx n 0 lo:Nat):Int) ((sIx n n hi:Nat):Int) 1)) _ _ s
 rw [Jct]
 exact wpAny_pure h
theorem Jem (xs:Array Value) (i k:Nat):((List.range k).filterMap fun (m:Nat)=>xs[((i:Int) + (m:Int) * 1).toNat]?).toArray = ((xs.toList.drop i).take k).toArray:=by
 have e:(fun (m:Nat)=>xs[((i:Int) + (m:Int) * 1).toNat]?) = fun m=>xs[i + m]?:=by
  funext m
  have:((i:Int) + (m:Int) * 1).toNat = i + m:=by omega
  rw [this]
 rw [e]
 have:=pick_run xs i k
 rw [List.filterMap_map] at this
 have e2:((fun x=>xs[x]?) ∘ fun x=>i + x) = fun m=>xs[i + m]?:=rfl
 rw [e2] at this
 rw [this]
theorem JV {t sl:Addr} {items:Array Value} {vl vu:Value} {lo hi:Option Int} {Q:Value -> Shared -> Prop} (ht:IsTup s.heap t items) (hs:s.heap.IsSliceOf sl vl vu .none) (pl:IsPart vl lo) (pu:IsPart vu hi)
  (hw:¬ (sIx items.size 0 lo = 0 /\ sIx items.size items.size hi = items.size))
  (h:Q (.ref s.heap.objs.size) { s with heap:=s.heap.push { cls:=.type "tuple",data:=.seq ((items.toList.drop (sIx items.size 0 lo)).take (sIx items.size items.size hi - sIx items.size 0 lo)).toArray } })
  (hsz:items.size <= sizeLine):wpAny (model prog w) A (getItem (.ref t) (.ref sl)) Q E s:=by
 have htake:sizeOk (.seq ((items.toList.drop (sIx items.size 0 lo)).take (sIx items.size items.size hi - sIx items.size 0 lo)).toArray):=by
  show ((items.toList.drop (sIx items.size 0 lo)).take (sIx items.size items.size hi - sIx items.size 0 lo)).toArray.size <= sizeLine
  rw [List.size_toArray,List.length_take,List.length_drop,Array.length_toList]
  omega
 have hj:sIx items.size items.size hi <= items.size:=Jhv _ _ (Nat.le_refl _) hi
 obtain ⟨os,hos,hcs,hds⟩:=id hs
 have hTs:s.TypeIs (.ref sl) "slice":=⟨os,hos,hcs⟩
 unfold getItem
 try with_reducible refine wpAny_holding ?_
 first | refine wpAny_bind (wpAny_pure ?_) | skip
 refine wpAny_bind (wpAny_sequenceKey ht.typeIs (by decide) ?_)
 refine wpAny_bind (wpAny_callSpecial?_slot (name:=Str.ofString "__getitem__") ht.typeIs PyProof.Rows.slot_tuple_getitem
  (wpAny_call_entry PyProof.Rows.slot_tuple_getitem ht.typeIs entry_tuple_getitem ?_ (args_tuple_getitem _ _)))
 show wpAny _ _ (Builtin.Tuple.tupleItemsOf (.ref t) >>= _) _ _ s
 refine wpAny_bind (tupleItemsOf_ ht ?_)
 refine wpAny_bind (wpAny_typeOf hTs ?_)
 rw [if_pos (by decide)]
 refine wpAny_bind (JC hs pl pu ?_)
 have hno:¬ ((((sIx items.size 0 lo:Nat):Int) == 0 && (1:Int) == 1 && (sIx items.size items.size hi - sIx items.size 0 lo) == items.size) = true):=by
  intro q
  rw [Bool.and_eq_true,Bool.and_eq_true] at q
  have q1:((sIx items.size 0 lo:Nat):Int) = 0:=eq_of_beq q.1.1
  have q2:sIx items.size items.size hi - sIx items.size 0 lo = items.size:=eq_of_beq q.2
  exact hw ⟨by omega,by omega⟩
 show wpAny _ _ (if (((sIx items.size 0 lo:Nat):Int) == 0 && (1:Int) == 1 && (sIx items.size items.size hi - sIx items.size 0 lo) == items.size) = true then _ else _) _ _ s
 rw [if_neg hno,Jem]
 first
  | exact wpAny_bind (m:=Builtin.Tuple.tupleExact _) (wpAny_newObj_type (wpAny_pure ⟨_,rfl,wpAny_pure h⟩) htake)
  | exact wpAny_bind (m:=Builtin.Tuple.tupleExact _) (wpAny_newObj_type (wpAny_bind (wpAny_pure (wpAny_pure ⟨_,rfl,wpAny_pure h⟩))) htake)
  | exact wpAny_bind (wpAny_bind (m:=Builtin.Tuple.tupleExact _) (wpAny_newObj_type (wpAny_pure (wpAny_pure ⟨_,rfl,wpAny_pure h⟩)) htake))
  | exact wpAny_bind (wpAny_bind (m:=Builtin.Tuple.tupleExact _) (wpAny_newObj_type (wpAny_pure ⟨_,rfl,wpAny_pure h⟩) htake))
end
end HT
namespace L2
open PySem PySem.Spec PyProof.Rows
abbrev TO:=St -> Hp -> (Option Int -> Hp -> Prop) -> Prop
def PO (X:Cx) (e:Option Expr) (t:TO):Prop:=
 ∀ (pins:List (Addr × Obj)) (s:Shared) (σ:St) (H:Hp) (Q:Option Int -> Hp -> Prop),Inv X pins σ H s -> t σ H Q ->
  wpAny (model X.prog X.w) X.A (evalPart e X.env) (fun u s'=>∃ o H',Inv X pins σ H' s' /\ IsPart u o /\ Q o H') X.xe s
def tNoPart:TO:=fun _ H Q=>Q none H
def tPart (t:TE):TO:=fun σ H Q=>t σ H fun x H1=>∃ i,x = .int i /\ Q (some i) H1
section
variable {X:Cx} {e:Expr} {te:TE} {lo hi:Option Expr} {tl th:TO} {pos p2:Pos}
theorem Jfq:PO X none tNoPart:=by
 intro pins s σ H Q I h
 rw [evalPart_none]
 exact wpAny_pure ⟨none,H,I,.none,h⟩
theorem Jgg (h:PE X e te):PO X (some e) (tPart te):=by
 intro pins s σ H Q I hw
 rw [evalPart_some]
 refine thn (h pins s σ H _ I hw) fun u s1 ⟨x,H1,I1,r1,q1⟩=>?_
 obtain ⟨i,rfl,q⟩:=q1
 obtain ⟨t,rfl⟩:=r1
 exact ⟨some i,H1,I1,.int i t,q⟩
def SlR (X:Cx) (r:V -> Option Int -> Option Int -> Hp -> VK -> Prop):Prop:=
 ∀ (pins:List (Addr × Obj)) (s:Shared) (σ:St) (H:Hp) (x:V) (v vl vu:Value) (lo hi:Option Int) (sl:Addr) (Q:VK),Inv X pins σ H s -> RelV x v -> s.heap.IsSliceOf sl vl vu .none -> IsPart vl lo -> IsPart vu hi -> r x lo hi H Q ->
  ∃ T id,typeLookup (.type T) "__getitem__" = pure (some (.builtin id)) /\ s.TypeIs v T /\ wpAny (model X.prog X.w) X.A (getItem v (.ref sl)) (EP X pins σ Q) X.xe s
def tSl (r:V -> Option Int -> Option Int -> Hp -> VK -> Prop) (te:TE) (tl th:TO):TE:=fun σ H Q=>te σ H fun x H1=>tl σ H1 fun l H2=>th σ H2 fun u H3=>r x l u H3 Q
theorem JeF {r:V -> Option Int -> Option Int -> Hp -> VK -> Prop} (hr:SlR X r) (he:PE X e te) (hl:PO X lo tl) (hu:PO X hi th):PE X (.Subscript e (.Slice lo hi none p2) pos) (tSl r te tl th):=by
 intro pins s σ H Q I h
 refine Subscript_ (thn (he pins s σ H _ I h) fun v s1 ⟨x,H1,I1,r1,q1⟩=>?_)
 refine wpAny_Slice (thn (hl pins s1 σ H1 _ I1 q1) fun vl s2 ⟨l,H2,I2,pl,q2⟩=>thn (hu pins s2 σ H2 _ I2 q2) fun vu s3 ⟨u,H3,I3,pu,q3⟩=>?_)
 rw [evalPart_none]
 refine wpAny_pure ?_
 have I4:Inv X pins σ H3 { s3 with heap:=s3.heap.push { cls:=.type "slice",data:=.fields #[vl,vu,.none] } }:=I3.kept (t':=s3.toks) fun b ob q=>Heap.get?_push_of_some _ q
 obtain ⟨T,id,hT,ht,hg⟩:=hr pins { s3 with heap:=s3.heap.push { cls:=.type "slice",data:=.fields #[vl,vu,.none] } } σ H3 x v vl vu l u s3.heap.objs.size Q I4 r1 (Heap.IsSliceOf.new ..) pl pu q3
 show wpAny (model X.prog X.w) X.A (subscriptTail e (.Slice lo hi none p2) v (.ref s3.heap.objs.size)) (EP X pins σ Q) X.xe { s3 with heap:=s3.heap.push { cls:=.type "slice",data:=.fields #[vl,vu,.none] } }
 exact tail_any (ops:=[.ref s3.heap.objs.size,v]) ht hT hg (by with_unfolding_all rfl)
def cutV (xs:List V) (lo hi:Option Int):List V:=(xs.drop (HT.sIx xs.length 0 lo)).take (HT.sIx xs.length xs.length hi - HT.sIx xs.length 0 lo)
theorem Jaf (xs:List V) (lo hi:Option Int):(cutV xs lo hi).length <= xs.length:=by
 unfold cutV
 rw [List.length_take,List.length_drop]
 omega
def rSlT (K:PySem.W.Frag):V -> Option Int -> Option Int -> Hp -> VK -> Prop:=fun x lo hi H Q=>∃ a xs,x = .ref a /\ SqT K H a xs /\
 ¬ (HT.sIx xs.length 0 lo = 0 /\ HT.sIx xs.length xs.length hi = xs.length) /\ ∀ p,H p = none -> Q (.ref p) (upd H p (.tup (cutV xs lo hi)))
theorem JgT:SlR X (rSlT X.K):=by
 intro pins s σ H x v vl vu lo hi sl Q I rx hs pl pu h
 obtain ⟨a,xs,rfl,hx,hw,q⟩:=h
 cases rx
 obtain ⟨its,r,ht,hz⟩:=I.tuple hx
 have hlen:its.toArray.size = xs.length:=by rw [List.size_toArray]; exact r.length.symm
 refine ⟨"tuple",_,PyProof.Rows.slot_tuple_getitem.lookup,ht.typeIs,?_⟩
 refine HT.JV ht hs pl pu (by rw [hlen]; exact hw) ?_ (by rw [hlen]; exact hz)
 rw [hlen]
 refine ⟨.ref s.heap.objs.size,_,I.laid (t':=s.toks) (o:=.tup (cutV xs lo hi)) (fun b ob q=>Heap.get?_push_of_some _ q) (Nat.le_refl _) ?_,rfl,q _ (I.hok.fresh (Nat.le_refl _))⟩
 exact ⟨⟨Nat.le_trans (Jaf xs lo hi) hz,JaF⟩,_,(r.drop (HT.sIx xs.length 0 lo)).take (HT.sIx xs.length xs.length hi - HT.sIx xs.length 0 lo),IsTup.new _ _⟩
def rCatT (K:PySem.W.Frag):R2:=fun x y H Q=>∃ a b xs ys,x = .ref a /\ y = .ref b /\ SqT K H a xs /\ SqT K H b ys /\ xs ≠ [] /\ xs.length + ys.length <= sizeLine /\
 (ys = [] -> Q (.ref a) H) /\ (ys ≠ [] -> ∀ p,H p = none -> Q (.ref p) (upd H p (.tup (xs ++ ys))))
theorem Vals.nil_iff {xs:List V} {us:List Value} (r:Vals xs us):us = [] ↔ xs = []:=by
 cases r with
 | nil=>simp
 | cons _ _=>simp
theorem JfP:OpR X (binaryOp .Add) (rCatT X.K):=by
 intro pins s σ H x y v u Q I rx ry h
 obtain ⟨a,b,xs,ys,rfl,rfl,ha,hb,hx,hz,q1,q2⟩:=h
 cases rx
 cases ry
 obtain ⟨its,r1,p1,_⟩:=I.tuple ha
 obtain ⟨its2,r2,p2,_⟩:=I.tuple hb
 refine HT.JfE p1 p2 (fun z=>hx (r1.nil_iff.mp z)) (fun z=>⟨.ref a,H,I,rfl,q1 (r2.nil_iff.mp z)⟩) (fun z=>?_) (by rw [<- r1.length,<- r2.length]; exact hz)
 refine ⟨.ref s.heap.objs.size,_,I.laid (t':=s.toks) (o:=.tup (xs ++ ys)) (fun b ob q=>Heap.get?_push_of_some _ q) (Nat.le_refl _) ?_,rfl,q2 (fun w=>z (r2.nil_iff.mpr w)) _ (I.hok.fresh (Nat.le_refl _))⟩
 exact ⟨⟨by rw [List.length_append]; exact hz,JaF⟩,_,r1.append r2,IsTup.new _ _⟩
end
end L2
namespace L2
open PySem PySem.Spec PyProof.Rows
def ixN (n:Nat) (i:Int):Option Nat:=if 0 <= i then (if i < n then some i.toNat else none) else if -(n:Int) <= i then some (i + n).toNat else none
def atI {α:Type} (xs:List α) (i:Int):Option α:=(ixN xs.length i).bind fun j=>xs[j]?
theorem Jfo {n:Nat} {i:Int} {j:Nat} (h:ixN n i = some j):seqIndex? i n = some j /\ j < n /\ -(n:Int) <= i /\ i < n:=by
 unfold ixN at h
 by_cases h0:0 <= i
 ·rw [if_pos h0] at h
  by_cases h1:i < n
  ·rw [if_pos h1] at h
   have e:i.toNat = j:=Option.some.inj h
   exact ⟨by rw [seqIndex_of h0 h1,e],by omega,by omega,h1⟩
  ·rw [if_neg h1] at h; cases h
 ·rw [if_neg h0] at h
  by_cases h1:-(n:Int) <= i
  ·rw [if_pos h1] at h
   have e:(i + n).toNat = j:=Option.some.inj h
   exact ⟨by rw [seqIndex_neg (by omega) h1,e],by omega,h1,by omega⟩
  ·rw [if_neg h1] at h; cases h
theorem JbF {α:Type} {xs:List α} {i:Int} {v:α} (h:atI xs i = some v):∃ j,seqIndex? i xs.length = some j /\ xs[j]? = some v /\ j < xs.length /\ -(xs.length:Int) <= i /\ i < xs.length:=by
 unfold atI at h
 cases e:ixN xs.length i with
 | none=>rw [e] at h; cases h
 | some j=>
  rw [e] at h
  obtain ⟨h1,h2,h3,h4⟩:=Jfo e
  exact ⟨j,h1,h,h2,h3,h4⟩
def PlainIx (b:Expr):Prop:=∀ o i,subscripted b false o i = operate [o,i] (getItem o i)
def IxR (X:Cx) (r:R2):Prop:=
 ∀ (value slice:Expr) (pins:List (Addr × Obj)) (s:Shared) (σ:St) (H:Hp) (x y:V) (v u:Value) (Q:VK),Inv X pins σ H s -> RelV x v -> RelV y u -> r x y H Q ->
  subscripted slice false v u = operate [v,u] (getItem v u) -> wpAny (model X.prog X.w) X.A (subscriptTail value slice v u) (EP X pins σ Q) X.xe s
def MtR (X:Cx) (id:String) (r:V -> List V -> Hp -> VK -> Prop):Prop:=
 ∀ (pins:List (Addr × Obj)) (s:Shared) (σ:St) (H:Hp) (x:V) (xs:List V) (v:Value) (us:List Value) (Q:VK),Inv X pins σ H s -> RelV x v -> Vals xs us -> r x xs H Q ->
  wpAny (model X.prog X.w) X.A (call (.builtin id) (v :: us)) (EP X pins σ Q) X.xe s
section
variable {X:Cx} {a b:Expr} {ta tb:TE} {pos:Pos}
theorem pe_ix {r:R2} (hr:IxR X r) (ha:PE X a ta) (hb:PE X b tb) (hs:PlainIx b):PE X (.Subscript a b pos) (tOp r ta tb):=by
 intro pins s σ H Q I h
 exact Subscript_ (binT ha hb I h fun v u s2 x y H2 I2 rx ry q=>hr a b pins s2 σ H2 x y v u Q I2 rx ry q (hs _ _))
def rIxL (K:PySem.W.Frag):R2:=fun x y H Q=>∃ p xs i v,x = .ref p /\ y = .int i /\ SqL K H p xs /\ atI xs i = some v /\ Q v H
def rIxT (K:PySem.W.Frag):R2:=fun x y H Q=>∃ p xs i v,x = .ref p /\ y = .int i /\ SqT K H p xs /\ atI xs i = some v /\ Q v H
def rIxS:R2:=fun x y H Q=>∃ z i c,x = .str z /\ y = .int i /\ z.length <= sizeLine /\ atI z.cps.toList i = some c /\ Q (.str ⟨#[c]⟩) H
theorem JfT:IxR X (rIxL X.K):=by
 intro value slice pins s σ H x y v u Q I rx ry h hs
 obtain ⟨p,xs,i,z,rfl,rfl,hq,he,q⟩:=h
 cases rx
 obtain ⟨t,rfl⟩:=ry
 obtain ⟨its,r,pl,hz⟩:=I.list hq
 obtain ⟨j,h1,h2,h3,h4,h5⟩:=JbF he
 obtain ⟨w,ew,rw'⟩:=r.get h2
 have hl:=r.length
 have hn:=JaH
 have fin:EP X pins σ Q w s:=⟨z,H,I,rw',q⟩
 by_cases h0:0 <= i
 ·have hj:i.toNat = j:=by
   rw [seqIndex_of h0 h5] at h1
   exact Option.some.inj h1
  exact item_listR pl.isList h0 (by omega) (by rw [hj]; simpa using ew) fin hs
 ·have hj:(i + (its.toArray.size:Int)).toNat = j:=by
   rw [seqIndex_neg (by omega) h4] at h1
   rw [List.size_toArray,<- hl]
   exact Option.some.inj h1
  exact subscriptTail_builtinR (x:=w) pl.isList.typeIs slot_list_getitem.lookup
   (wpAny_getItem_list_neg (Q:=fun r s'=>r = w /\ EP X pins σ Q r s') pl.isList (by omega) (by rw [List.size_toArray] <;> omega) (by omega) (by rw [hj]; simpa using ew) ⟨rfl,fin⟩) hs
theorem JgC:IxR X (rIxT X.K):=by
 intro value slice pins s σ H x y v u Q I rx ry h hs
 obtain ⟨p,xs,i,z,rfl,rfl,hq,he,q⟩:=h
 cases rx
 obtain ⟨t,rfl⟩:=ry
 obtain ⟨its,r,pl,hz⟩:=I.tuple hq
 obtain ⟨j,h1,h2,h3,h4,h5⟩:=JbF he
 obtain ⟨w,ew,rw'⟩:=r.get h2
 have hl:=r.length
 have hn:=JaH
 have fin:EP X pins σ Q w s:=⟨z,H,I,rw',q⟩
 exact subscriptTail_builtinR (x:=w) pl.typeIs slot_tuple_getitem.lookup
  (getItem_tuple (j:=j) (Q:=fun r s'=>r = w /\ EP X pins σ Q r s') pl (by omega) (by omega) (by rw [List.size_toArray,<- hl]; exact h1) (by simpa using ew) ⟨rfl,fin⟩) hs
theorem JhB:IxR X rIxS:=by
 intro value slice pins s σ H x y v u Q I rx ry h hs
 obtain ⟨z,i,c,rfl,rfl,hz,he,q⟩:=h
 obtain ⟨t,rfl⟩:=rx
 obtain ⟨t',rfl⟩:=ry
 obtain ⟨j,h1,h2,h3,h4,h5⟩:=JbF he
 have hl:z.cps.toList.length = z.length:=by simp [Str.length]
 rw [hl] at h1 h4 h5
 have hn:=JaH
 exact tail_any (typeIs_str s z t) slot_str_getitem.lookup (getItem_str (c:=c) (by
  have e1:decide (i < -(2 ^ 63:Int)) = false:=decide_eq_false (by omega)
  have e2:decide (i ≥ 2 ^ 63) = false:=decide_eq_false (by omega)
  rw [e1,e2,Bool.or_false]) (by rw [h1]; simpa using h2) ⟨.str ⟨#[c]⟩,H,I.tok _,⟨_,rfl⟩,q⟩) hs
theorem Jbe (lo hi:Option Int) (n:Nat):(sliceBounds lo hi none n).1 = ((HT.sIx n 0 lo:Nat):Int) /\ (sliceBounds lo hi none n).2.1 = ((HT.sIx n n hi:Nat):Int) /\ (sliceBounds lo hi none n).2.2 = 1:=by
 refine ⟨?_,?_,rfl⟩
 ·cases lo with
  | none=>simp [sliceBounds,HT.sIx]
  | some i=>
   simp only [sliceBounds,HT.sIx,Option.getD_none,show (1:Int) > 0 by decide,if_true]
   by_cases h:i < 0
   ·simp only [h,if_true] <;> omega
   ·simp only [h,if_false] <;> omega
 ·cases hi with
  | none=>simp [sliceBounds,HT.sIx]
  | some i=>
   simp only [sliceBounds,HT.sIx,Option.getD_none,show (1:Int) > 0 by decide,if_true]
   by_cases h:i < 0
   ·simp only [h,if_true] <;> omega
   ·simp only [h,if_false] <;> omega
theorem JaS (its:List Value) (lo hi:Option Int):slicePick its.toArray lo hi none = ((its.drop (HT.sIx its.length 0 lo)).take (HT.sIx its.length its.length hi - HT.sIx its.length 0 lo)).toArray:=by
 obtain ⟨h1,h2,h3⟩:=Jbe lo hi its.toArray.size
 unfold slicePick
 rw [h1,h2,h3]
 simp only [sliceRange_one,pick_run,List.size_toArray] <;> rfl
def rSlL (K:PySem.W.Frag):V -> Option Int -> Option Int -> Hp -> VK -> Prop:=fun x lo hi H Q=>∃ a xs,x = .ref a /\ SqL K H a xs /\ ∀ p,H p = none -> Q (.ref p) (upd H p (.lst (cutV xs lo hi)))
theorem Jfp:SlR X (rSlL X.K):=by
 intro pins s σ H x v vl vu lo hi sl Q I rx hs pl pu h
 obtain ⟨a,xs,rfl,hx,q⟩:=h
 cases rx
 obtain ⟨its,r,ht,hz⟩:=I.list hx
 have hlen:=r.length
 refine ⟨"list",_,slot_list_getitem.lookup,ht.isList.typeIs,?_⟩
 refine wpAny_getItem_list_slice ht.isList hs pl pu .none (by simp) ?_ (by rw [List.size_toArray] <;> omega)
 rw [JaS,<- hlen]
 refine ⟨.ref s.heap.objs.size,_,I.laid (t':=s.toks) (o:=.lst (cutV xs lo hi)) (fun b ob q=>Heap.get?_push_of_some _ q) (Nat.le_refl _) ?_,rfl,q _ (I.hok.fresh (Nat.le_refl _))⟩
 exact ⟨Nat.le_trans (Jaf xs lo hi) hz,_,0,(r.drop (HT.sIx xs.length 0 lo)).take (HT.sIx xs.length xs.length hi - HT.sIx xs.length 0 lo),Heap.get?_push_size _ rfl⟩
theorem JY:CallR X (.builtin "len") (fun xs H Q=>∃ p ys,xs = [.ref p] /\ (SqL X.K H p ys \/ SqT X.K H p ys) /\ Q (.int ys.length) H):=by
 intro pins s σ H xs us Q I r h
 obtain ⟨p,ys,rfl,hq,q⟩:=h
 obtain ⟨u,rfl,rx⟩:=Jbp r
 cases rx
 have hn:=JaH
 rcases hq with hq | hq
 ·obtain ⟨its,r',pl,hz⟩:=I.list hq
  have hlen:=r'.length
  exact Calls.call_len_list pl.isList (by simp only [List.size_toArray] <;> omega) ⟨.int ys.length,H,I.tok _,⟨s.toks + 1,by rw [List.size_toArray,hlen]⟩,q⟩
 ·obtain ⟨its,r',pl,hz⟩:=I.tuple hq
  have hlen:=r'.length
  exact len_tuple pl (by simp only [List.size_toArray] <;> omega) ⟨.int ys.length,H,I.tok _,⟨s.toks + 1,by rw [List.size_toArray,hlen]⟩,q⟩
theorem Jbb:CallR X (.builtin "len") (fun xs H Q=>∃ z,xs = [.str z] /\ z.length <= sizeLine /\ Q (.int z.length) H):=by
 intro pins s σ H xs us Q I r h
 obtain ⟨z,rfl,hz,q⟩:=h
 obtain ⟨u,rfl,t,rfl⟩:=Jbp r
 have hn:=JaH
 exact len_str (by omega) ⟨.int z.length,H,I.tok _,⟨_,rfl⟩,q⟩
theorem JM:CallR X (.type "tuple") (fun xs H Q=>∃ p ys,xs = [.ref p] /\ ((SqL X.K H p ys /\ ∀ l,H l = none -> Q (.ref l) (upd H l (.tup ys))) \/ (SqT X.K H p ys /\ Q (.ref p) H))):=by
 intro pins s σ H xs us Q I r h
 obtain ⟨p,ys,rfl,h⟩:=h
 obtain ⟨u,rfl,rx⟩:=Jbp r
 cases rx
 rcases h with ⟨hq,q⟩ | ⟨hq,q⟩
 ·obtain ⟨its,r',pl,hz⟩:=I.list hq
  have hlen:=r'.length
  refine call_tuple_list pl.isList (fun h' kp=>?_) (by simp only [List.size_toArray] <;> omega)
  have I1:Inv X pins σ H { s with heap:=h' }:=I.kept (t':=s.toks) kp
  have I2:Inv X pins σ (upd H h'.objs.size (.tup ys)) { s with heap:=h'.push { cls:=.type "tuple",data:=.seq its.toArray } }:=
   I1.laid (t':=s.toks) (fun b o e=>Heap.get?_push_of_some _ e) (Nat.le_refl _) (show ObjOk X.prog X.w _ _ _ (.tup ys) from ⟨⟨hz,JaF⟩,its,r',IsTup.new _ _⟩)
  exact ⟨.ref h'.objs.size,_,I2,rfl,q _ (I1.hok.fresh (Nat.le_refl _))⟩
 ·obtain ⟨its,r',pl,hz⟩:=I.tuple hq
  exact call_tuple_same pl ⟨.ref p,H,I,rfl,q⟩
def tyV (K:PySem.W.Frag) (T:String) (x:V) (H:Hp):Prop:=match x with
 | .str _=>T = "str"
 | .int _=>T = "int"
 | .ref p=>(T = "list" /\ ∃ xs,SqL K H p xs) \/ (T = "tuple" /\ ∃ o,K.lookup p = some o /\ o.cls = .type "tuple" /\ o.dict = none) \/
   (T = "dict" /\ ((∃ kvs,H p = some (.dK kvs)) \/ ∃ kvs,H p = some (.dT kvs))) \/ (T = "set" /\ ∃ S n,H p = some (.set S n))
 | _=>False
theorem JgB {pins:List (Addr × Obj)} {σ:St} {H:Hp} {s:Shared} {T:String} {x:V} {v:Value} (I:Inv X pins σ H s) (r:RelV x v) (ty:tyV X.K T x H) :
  s.TypeIs v T /\ ∀ a,v = .ref a -> ∃ ob,s.heap.get? a = some ob /\ ob.dict = none:=by
 cases x with
 | str z=>
  obtain ⟨t,rfl⟩:=r
  cases (show T = "str" from ty)
  exact ⟨typeIs_str s z t,fun _ e=>nomatch e⟩
 | int i=>
  obtain ⟨t,rfl⟩:=r
  cases (show T = "int" from ty)
  exact ⟨typeIs_int s i t,fun _ e=>nomatch e⟩
 | ref p=>
  cases r
  rcases ty with ⟨rfl,xs,hq⟩ | ⟨rfl,o,hk,hc,hd⟩ | ⟨rfl,hk⟩ | ⟨rfl,S,n,hk⟩
  ·obtain ⟨its,_,pl,_⟩:=I.list hq
   refine ⟨pl.isList.typeIs,fun a e=>?_⟩
   cases e
   obtain ⟨o,n,e,c,hd,_⟩:=pl
   exact ⟨o,e,hd⟩
  ·refine ⟨⟨o,I.kIn p o hk,hc⟩,fun a e=>?_⟩
   cases e
   exact ⟨o,I.kIn _ o hk,hd⟩
  ·have z:∃ o,s.heap.get? p = some o /\ o.ExactDict:=by
    rcases hk with ⟨kvs,hk⟩ | ⟨kvs,hk⟩
    ·obtain ⟨_,_,_,_,o,_,_,e,ex,_⟩:=I.hok p _ hk
     exact ⟨o,e,ex⟩
    ·obtain ⟨_,_,_,_,o,_,_,e,ex,_⟩:=I.hok p _ hk
     exact ⟨o,e,ex⟩
   obtain ⟨o,e,ex⟩:=z
   refine ⟨⟨o,e,ex.1⟩,fun a e2=>?_⟩
   cases e2
   exact ⟨o,e,ex.2.1⟩
  ·obtain ⟨o,_,_,_,e,ex,_⟩:=I.hok p _ hk
   refine ⟨⟨o,e,ex.1⟩,fun a e2=>?_⟩
   cases e2
   exact ⟨o,e,ex.2.1⟩
 | _=>exact False.elim ty
def tBM (K:PySem.W.Frag) (T:String) (r:V -> List V -> Hp -> VK -> Prop) (to:TE) (t:TA):TE:=fun σ H Q=>to σ H fun x H1=>tyV K T x H1 /\ t σ H1 fun xs H2=>r x xs H2 Q
variable {o e:Expr} {es:List Expr} {to:TE} {t:TA} {name:Str} {apos cpos:Pos} {T id:String} {r:V -> List V -> Hp -> VK -> Prop}
theorem JfG (pa:PlainAttrs T) (slot:Slot T name id) (hty:typeOf (.builtin id) = pure (.type "method_descriptor")) (hm:MtR X id r) (ho:PE X o to) (ha:PA X (e :: es) t)
  (hbase:attributeBase o name X.env (eval o X.env) = eval o X.env:=by rfl)
  (hfew:((backTo cpos (starEach (e :: es) X.env)).all (fun x=>!x.1) && (backToKw cpos (keywordEach [] X.env)).all (fun x=>x.1.isSome)
   && decide ((e :: es).length + ([]:List Keyword).length + (if ([]:List Keyword).isEmpty then 0 else 1) < 30)) = true:=by rfl)
  (hline:(apos.endLine == cpos.line) = true:=by rfl) (hs:starEach (e :: es) X.env = (false,eval e X.env) :: starEach es X.env:=by rfl) (hplain:(backTo cpos (starEach es X.env)).any (·.1) = false:=by rfl) :
  PE X (.Call (.Attribute o name apos) (e :: es) [] cpos) (tBM X.K T r to t):=by
 intro pins s σ H Q I h
 refine wpAny_Call_method_late hbase hfew hline rfl (thn (ho pins s σ H _ I h) fun v s1 ⟨x,H1,I1,r1,ty,q1⟩=>?_)
 obtain ⟨h1,h2⟩:=JgB I1 r1 ty
 refine ⟨T,id,pa,slot,hty,h1,h2,?_⟩
 have hA:=ha cpos pins s1 σ H1 _ I1 q1
 rw [hs] at hA ⊢
 refine Calls.callWith_builtin (by show (false || (backTo cpos (starEach es X.env)).any (·.1)) = false; rw [hplain] <;> rfl) (Calls.evalArgs_plain ?_)
 exact thn hA fun us s2 ⟨vs,H2,I2,r2,q2⟩=>hm pins s2 σ H2 x vs v us Q I2 r1 r2 q2
end
end L2
namespace L2
open PySem PySem.Spec PyProof.Rows
def MtM (X:Cx) (id:String) (r:V -> List V -> Hp -> VK -> Prop):Prop:=
 ∀ (pins:List (Addr × Obj)) (s:Shared) (σ:St) (H:Hp) (x:V) (xs:List V) (v:Value) (us:List Value) (Q:VK),Inv X pins σ H s -> RelV x v -> Vals xs us -> r x xs H Q ->
  wpAny (model X.prog X.w) X.A (call (.builtin id) (v :: us)) (EP X pins σ Q) X.xe s
theorem Vals.one:∀ {x:V} {us:List Value},Vals [x] us -> ∃ u,us = [u] /\ RelV x u
 | _,_,.cons r .nil=>⟨_,rfl,r⟩
theorem Vals.rep {xs:List V} {us:List Value} (h:Vals xs us):∀ k:Nat,Vals (List.replicate k xs).flatten (List.replicate k us).flatten
 | 0=>.nil
 | k + 1=>by
  rw [List.replicate_succ,List.replicate_succ,List.flatten_cons,List.flatten_cons]
  exact Vals.append h (Vals.rep h k)
theorem Jap (its:List Value):∀ (k:Nat) (acc:List Value),
  List.foldl (fun x1 x2=>x1 ++ x2) acc.toArray (List.replicate k its.toArray) = (acc ++ (List.replicate k its).flatten).toArray
 | 0,acc=>by simp
 | k + 1,acc=>by
  have e:acc.toArray ++ its.toArray = (acc ++ its).toArray:=by simp
  have e2:(acc ++ its) ++ (List.replicate k its).flatten = acc ++ (List.replicate (k + 1) its).flatten:=by
   rw [List.replicate_succ,List.flatten_cons,List.append_assoc]
  rw [<- e2,<- Jap its k (acc ++ its),<- e,List.replicate_succ,List.foldl_cons]
section
variable {X:Cx} {pins:List (Addr × Obj)} {σ:St} {H:Hp} {s:Shared} {l b:Addr} {xs ys zs:List V}
theorem Inv.lset {its its':List Value} {n:Nat} {f:Array Value -> Array Value} {t':Nat} (I:Inv X pins σ H s) (hH:H l = some (.lst xs))
  (e:s.heap.get? l = some { cls:=.type "list",data:=.seq its.toArray n }) (hf:f its.toArray = its'.toArray) (hv:Vals ys its') (hz:ys.length <= sizeLine) :
  Inv X pins σ (upd H l (.lst ys)) { s with heap:=s.heap.update l (Obj.mapSeq f),toks:=t' }:=by
 have q:=PySem.IsL.update e f
 rw [hf] at q
 refine I.write (x:=l) (e:=l) (by rw [hH]; exact trivial) (.inl rfl) (fun b' u hb hu=>(Heap.get?_update_other s.heap (Obj.mapSeq f) (Ne.symm hb)).trans hu) ⟨_,q⟩ ?_
 exact ⟨hz,its',_,hv,q⟩
theorem Inv.lnew {its:List Value} {t':Nat} (I:Inv X pins σ H s) (hv:Vals ys its) (hz:ys.length <= sizeLine) :
  Inv X pins σ (upd H s.heap.objs.size (.lst ys)) { s with heap:=s.heap.push { cls:=.type "list",data:=.seq its.toArray },toks:=t' }:=
 I.laid (fun _ _ q=>Heap.get?_push_of_some _ q) (Nat.le_refl _) ⟨hz,its,0,hv,Heap.get?_push_size _ rfl⟩
theorem Inv.fresh (I:Inv X pins σ H s):H s.heap.objs.size = none:=I.hok.fresh (Nat.le_refl _)
theorem Inv.lstM (I:Inv X pins σ H s) (hH:H l = some (.lst xs)):xs.length <= sizeLine /\ ∃ (its:List Value) (n:Nat),Vals xs its /\ xs.length = its.length /\ s.heap.get? l = some { cls:=.type "list",data:=.seq its.toArray n }:=by
 obtain ⟨z,its,n,r,e⟩:=I.hok l _ hH
 exact ⟨z,its,n,r,r.length,e⟩
theorem Jeq {n:Nat} (h:n <= sizeLine):Builtin.List.listTooLong n = false:=by
 unfold Builtin.List.listTooLong
 exact decide_eq_false (by omega)
end
section
variable {X:Cx}
def rAppend:V -> List V -> Hp -> VK -> Prop:=fun x vs H Q=>∃ l xs y,x = .ref l /\ vs = [y] /\ H l = some (.lst xs) /\ xs.length < sizeLine /\ Q .non (upd H l (.lst (xs ++ [y])))
theorem JdA:MtM X "list.append" rAppend:=by
 intro pins s σ H x vs v us Q I rx rv h
 obtain ⟨l,xs,y,rfl,rfl,hH,hz,q⟩:=h
 cases rx
 obtain ⟨u,rfl,ru⟩:=rv.one
 obtain ⟨z,its,n,r,hl,e⟩:=I.lstM hH
 refine call_meets F.slot_list_append ⟨_,e,rfl⟩ F.entry_list_append (F.args_list_append_2 _ _) (PySem.list_append l its.toArray n u (by rw [List.size_toArray]; omega)) ⟨e,?_⟩
 refine ⟨.non,_,I.lset (its':=its ++ [u]) hH e (by simp) (r.append (.cons ru .nil)) ?_,rfl,q⟩
 rw [List.length_append,List.length_singleton]
 omega
def rRep:R2:=fun x y H Q=>∃ l k xs,x = .ref l /\ y = .int k /\ H l = some (.lst xs) /\ -(2 ^ 63) <= k /\ k < 2 ^ 63 /\ xs.length * k.toNat <= sizeLine /\
 ∀ p,H p = none -> Q (.ref p) (upd H p (.lst (List.replicate k.toNat xs).flatten))
theorem JbB {α:Type} (xs:List α) (k:Nat):(List.replicate k xs).flatten.length = k * xs.length:=by
 induction k with
 | zero=>simp
 | succ k ih=>rw [List.replicate_succ,List.flatten_cons,List.length_append,ih,Nat.succ_mul,Nat.add_comm]
theorem Jgo:OpR X (binaryOp .Mult) rRep:=by
 intro pins s σ H x y v u Q I rx ry h
 obtain ⟨l,k,xs,rfl,rfl,hH,h1,h2,hz,q⟩:=h
 cases rx
 obtain ⟨t,rfl⟩:=ry
 obtain ⟨z,its,n,r,hl,e⟩:=I.lstM hH
 have hlen:its.toArray.size * k.toNat <= sizeLine:=by rw [List.size_toArray,<- hl]; exact hz
 have hcap:¬ its.toArray.size * k.toNat > (2 ^ 63 - 1) / 8:=by
  have:(sizeLine:Nat) <= (2 ^ 63 - 1) / 8:=by decide
  omega
 have hfit:¬ (!Builtin.List.listFitsIndex k) = true:=by
  rw [fitsIndex_both h1 h2]
  exact Bool.false_ne_true
 have hlong:¬ Builtin.List.listTooLong (its.toArray.size * k.toNat) = true:=by
  rw [Jeq hlen]
  exact Bool.false_ne_true
 have hnew:List.foldl (fun x1 x2=>x1 ++ x2) #[] (List.replicate (if its.toArray.isEmpty = true then 0 else k.toNat) its.toArray) = (List.replicate k.toNat its).flatten.toArray:=by
  have f0:∀ m:Nat,List.foldl (fun x1 x2=>x1 ++ x2) #[] (List.replicate m its.toArray) = (List.replicate m its).flatten.toArray:=fun m=>by
   have:=Jap its m []
   rw [List.nil_append] at this
   exact this
  rw [f0]
  cases its with
  | nil=>simp
  | cons a r'=>rw [if_neg (by simp)]
 refine wpAny_binaryOp_repeat_ref (T:="list") (U:="int") (by decide) ⟨_,e,rfl⟩ (fun s'=>typeIs_int s' k t) noFill_list_mul F.fills_int_mul F.slot_int_rmul repeat_list F.slot_int_index.lookup
  (call_meets F.slot_int_rmul (typeIs_int s k t) F.entry_int_rmul (F.args_int_rmul_2 _ _) (int___rmul___int_list k t l its.toArray n)
   ⟨e,rfl,⟨_,e,rfl⟩,call_meets F.slot_list_mul ⟨_,e,rfl⟩ F.entry_list_mul (F.args_list_mul_2 _ _) (AutoListH.list___mul___list_int_3 l its.toArray n k t hfit hcap hlong) ⟨e,?_⟩⟩)
 rw [hnew]
 exact ⟨.ref _,_,I.lnew (t':=s.toks) (r.rep k.toNat) (by rw [JbB,Nat.mul_comm]; exact hz),rfl,q _ I.fresh⟩
end
section
variable {prog:Program} {w:World} {A:Around} {E:Value -> Shared -> Prop} {s:Shared}
end
section
variable {X:Cx}
end
end L2
namespace Att
open PySem PySem.W PySem.Calls PyProof.Rows
theorem Jav {P:Params} {h:Heap}:∀ (ns:List Int) (vs:List Value),WellAll P h vs (ns.map WData.int) -> IntsAre vs ns:=by
 intro ns
 induction ns with
 | nil=>
  intro vs w
  rw [List.map_nil] at w
  cases w
  exact .nil
 | cons n ns ih=>
  intro vs w
  rw [List.map_cons] at w
  cases w with
  | cons a b=>
   cases a
   exact .cons _ _ (ih _ b)
theorem JcM {l:OpenLaw} {n:Nat} (hn:l.most = some n) {P:Params} {h:Heap} {args:List WData} {vals:List Value}
  (hpre:l.row.toRowW.claim.pre args = true) (hwl:WellAll P h vals args) :
  ∃ a vs ns,vals = [Value.ref a] /\ args = [WData.list (ns.map WData.int)] /\ h.get? a = some { cls:=.type "list",data:=.seq vs.toArray } /\ IntsAre vs ns /\ ns.length <= n:=by
 have hsh:WShape.hasAll [] args [.list .int] = true:=(pre_splitW hpre).1
 have hc:l.pre.holds [] { args:=args } = true:=(pre_splitW hpre).2
 obtain ⟨d,r,rfl,h1,h2⟩:=hasAllW_cons hsh
 obtain rfl:=hasAllW_nil h2
 obtain ⟨xs,rfl,h3⟩:=hasW_list h1
 obtain ⟨ns,rfl⟩:=items_int h3
 have hlen:ns.length <= n:=by
  unfold OpenLaw.pre at hc
  have h4:(WTm.not (.lt (.lit (.int (n:Int))) (.len (.arg 0)))).holds [] { args:=[.list (ns.map .int)] } = true:=by
   have h4:=(holds_andW hc).1
   rw [hn] at h4
   exact h4
  have h5:=condW_of h4 (w_not (w_lt w_lit (w_len_list (w_arg rfl))))
  rw [List.length_map] at h5
  refine Nat.le_of_not_lt fun q=>?_
  have q':(n:Int) < ((ns.length:Nat):Int):=by omega
  first
   | (rw [decide_eq_true q'] at h5; exact absurd h5 (by decide))
   | (simp at h5; omega)
 cases hwl with
 | cons w1 w2=>
  cases w2
  cases w1 with
  | list ho hall=>exact ⟨_,_,ns,rfl,rfl,ho,Jav ns _ hall,hlen⟩
theorem JcQ (l:OpenLaw) (args:List WData):l.row.toRowW.claim.post args (.bool true) args = true:=
 postW_of (r:=l.row.toRowW) (X:=(true == true))
  (show WShape.has [] (.bool true) .bool = true by first | rfl | decide | simp [WShape.has,WShape.arms,WShape.armsAll])
  (show (WTm.eq .res (.lit (.bool true))).value [] { args:=args,res:=some (.bool true),after:=args } = some (.bool (true == true)) from w_eq_bool (w_res rfl) w_lit) rfl
theorem Jaw {l:OpenLaw} {n:Nat} {q:Program} {loose:List Str} {XP:(Str -> Option Value) -> Heap -> Prop} {YP:World -> Heap -> Prop} {d:DefRec}
  (hn:l.most = some n) (hdf:d.params.defaults = [])
  (call:∀ (w:World) (s₀ s₁:Shared) (mg mb:Str -> Option Value) (fa:Addr) (o:Obj) (pm cd doc:Value) (a:Addr) (vs:List Value) (ns:List Int),
   Ground q loose [] XP w s₀ mg mb s₁.heap -> YP w s₁.heap ->
   s₁.heap.get? fa = some o -> o.data = .func (docDef d.name d.params d.body d.scope pm cd doc) -> s₁.heap.CodeRec cd d.name -> mg d.name = some (.ref fa) ->
   s₁.heap.get? a = some { cls:=.type "list",data:=.seq vs.toArray } -> IntsAre vs ns -> ns.length <= n -> s₁.gens = #[] ->
   codeAny (model l.prog w) callerA (.call (.ref fa) ⟨[.ref a],[]⟩) (fun r s'=>r = .ok (.ret (.bool true)) /\ OldK s₁.heap s'.heap /\ s'.os = s₁.os /\ AllBare s'.gens) s₁) :
  WalkO q loose XP YP l.row.toRowW d [] (fun f vs=>PySem.call f vs):=by
 intro w s₀ s₁ mg mb G Y fa o pm cd doc dV kV ho hd hcd hD hmg hg args vals as hpre hlay hrd hwl hlo
 obtain rfl:dV = .none:=Dflts.none hD hdf
 obtain rfl:kV = .none:=Dflts.noKw hD
 obtain ⟨a,vs,ns,rfl,rfl,hobj,hints,hlen⟩:=JcM hn hpre hwl
 refine enter_call (codeAny_mono (call w s₀ s₁ mg mb fa o pm cd doc a vs ns G Y ho (fd_plain hd) hcd hmg hobj hints hlen hg) fun r s' hq=>?_)
 obtain ⟨rfl,h2,h3,h4⟩:=hq
 exact ⟨.inl ⟨.bool true,.bool true,[],rfl,fun _=>rfl,.bool true,JcQ l _,fun _=>⟨List.Pairwise.nil,fun _ hm=>(nomatch hm)⟩⟩,h2,h3,h4⟩
section
variable {prog:Program} {w:World} {A:Around} {E:Value -> Shared -> Prop} {s:Shared} {K:Frag}
def ledger (h:Heap) (L d:Addr):List (Addr × Obj):=(List.range h.objs.size).filterMap fun a=>if a = L \/ a = d then none else (h.get? a).map fun o=>(a,o)
end
end Att
namespace L2
open PySem PySem.Spec PyProof.Rows
theorem Jat:∀ {vs:List Value} {ns:List Int},IntsAre vs ns -> Vals (ns.map V.int) vs
 | _,_,.nil=>.nil
 | _,_,.cons n t h=>.cons ⟨t,rfl⟩ (Jat h)
def Only (H:Hp):Prop:=∀ b,H b = none \/ ∃ o xs,H b = some (.frz o (.lst xs))
theorem JdX {P:Program} {w:World} {K:PySem.W.Frag} {mg mb:Str -> Option Value} {CX:CXT} {k:Nat} {fa a:Addr} {fd:FuncData} {x:Str} {sp:Sp} {s₁:Shared} {vs:List Value} {ns:List Int}
  (KX:K.In s₁.heap) (hns:s₁.heap.Ns mainGlobals mg) (hb:s₁.heap.Ns builtinsNs mb) (hbb:∀ x:Str,x ≠ "__name__" -> mb x = bootBuiltins x) (hlim:s₁.heap.NoLimit) (hg:s₁.gens = #[])
  (ha:s₁.heap.get? a = some { cls:=.type "list",data:=.seq vs.toArray }) (hi:IntsAre vs ns) (hl:ns.length <= sizeLine) (hr:Room k callerA)
  (F:∀ base:Heap,K.In base -> base.Ns mainGlobals mg -> FnOk P w K mg base CX k fa fd [x] sp) (hbind:∀ (s:Shared) (u:Value),BindsTo s fd ⟨[u],[]⟩ [(x,u)])
  (hsp:∀ H:Hp,Only H -> SqL K H a (ns.map V.int) -> sp [.ref a] H (fun v _=>v = .bl true) fun _ _ _=>False)
  (hCX:∀ H e s',CX [] H s₁ (fun _ _ _=>False) e s' -> False) :
  codeAny (model P w) callerA (.call (.ref fa) ⟨[.ref a],[]⟩) (fun r s'=>r = .ok (.ret (.bool true)) /\ OldK s₁.heap s'.heap /\ s'.os = s₁.os /\ AllBare s'.gens) s₁:=by
 have rv:=Jat hi
 have lenV:=hi.length
 have core:∀ H:Hp,Only H -> SqL K H a (ns.map V.int) -> HOk P w H s₁.heap -> (∀ b,H b ≠ none -> b = a) -> (H a ≠ none -> K.lookup a = none) ->
   codeAny (model P w) callerA (.call (.ref fa) ⟨[.ref a],[]⟩) (fun r s'=>r = .ok (.ret (.bool true)) /\ OldK s₁.heap s'.heap /\ s'.os = s₁.os /\ AllBare s'.gens) s₁:=by
  intro H hO hS hok hA hK
  have base_of:∀ {b:Addr} {o:Obj},s₁.heap.get? b = some o -> H b = none -> (hidT s₁.heap H).get? b = some o:=fun e n=>JbY e n
  have noA:∀ {b:Addr} {o:Obj} {es:Array DictEntry} {ep:Nat},s₁.heap.get? b = some o -> o.data = .dict es ep -> H b = none:=fun {b o es ep} e d=>by
   cases q:H b with
   | none=>rfl
   | some u=>
    have e':b = a:=hA b (by rw [q]; simp)
    subst e'
    rw [ha] at e; cases e
    have d':Data.seq vs.toArray _ = Data.dict es ep:=d
    cases d'
  have nsK:∀ {b:Addr} {m:Str -> Option Value},s₁.heap.Ns b m -> (hidT s₁.heap H).Ns b m:=fun {b m} ⟨o,es,ep,e,d,r⟩=>⟨o,es,ep,base_of e (noA e d),d,r⟩
  have hKb:K.In (hidT s₁.heap H):=fun b o e=>base_of (KX b o e) (by
   cases q:H b with
   | none=>rfl
   | some u=>
    have e':b = a:=hA b (by rw [q]; simp)
    subst e'
    rw [hK (by rw [q]; simp)] at e; cases e)
  have hM:Mod K mg (hidT s₁.heap H):=⟨hKb,nsK hns,⟨mb,nsK hb,hbb⟩,let ⟨mc,h1,h2⟩:=hlim; ⟨mc,nsK h1,h2⟩⟩
  have e0:Env0 P w K mg (hidT s₁.heap H) callerA [] s₁ H:=⟨rfl,hM,fun b o e=>Jds e,Nat.le_of_eq (Jbk _ _),trivial,fun b hb=>absurd (show b ∈ ([]:List Addr) from hb) (by simp),hok,.of_eq hg⟩
  refine codeAny_mono ((F _ hKb (nsK hns)).run callerA [] s₁ H ⟨[.ref a],[]⟩ [.ref a] [.ref a] _ _ hr e0 (hbind s₁ (.ref a)) (.cons rfl .nil) (hsp H hO hS)) fun r s' h=>?_
  cases r with
  | error e=>exact (hCX H e s' h).elim
  | ok fl=>
   cases fl with
   | next=>exact False.elim h
   | brk=>exact False.elim h
   | cont=>exact False.elim h
   | ret u=>
    obtain ⟨v,H',os,bare,un,hok',r',q⟩:=h
    have q':v = .bl true:=q
    subst q'
    obtain rfl:u = Value.bool true:=r'
    refine ⟨rfl,OldK.of_keep fun b o e=>?_,os,bare⟩
    cases q:H b with
    | none=>exact un.keep b o e q (by intro z; exact absurd (show b ∈ ([]:List Addr) from z) (by simp)) (by simp)
    | some u=>
     rcases hO b with z | ⟨ob,xs,z⟩
     ·rw [q] at z; cases z
     ·have z2:=un.frzs b ob _ z
      obtain ⟨e1,_⟩:=hok b _ z
      obtain ⟨e2,_⟩:=hok' b _ z2
      rw [e] at e1; cases e1
      exact e2
 cases hk:K.lookup a with
 | some o=>
  have e:=KX a o hk
  rw [ha] at e
  cases e
  refine core (fun _=>none) (fun _=>.inl rfl) (.inr ⟨_,vs.toArray,_,hk,rfl,rfl,rfl,by rw [List.size_toArray,lenV]; exact hl,by simpa using rv⟩) (fun b u z=>by have z':(none:Option HO) = some u:=z; cases z') (fun b z=>absurd rfl z) fun z=>absurd rfl z
 | none=>
  refine core (fun b=>if b = a then some (.frz { cls:=.type "list",data:=.seq vs.toArray } (.lst (ns.map V.int))) else none) (fun b=>?_) (.inl (.inr ⟨{ cls:=.type "list",data:=.seq vs.toArray },if_pos rfl⟩)) (fun b u z=>?_) (fun b z=>?_) fun _=>hk
  ·by_cases hb:b = a
   ·exact .inr ⟨_,_,if_pos hb⟩
   ·exact .inl (if_neg hb)
  ·by_cases hb:b = a
   ·have z':=(if_pos hb).symm.trans z
    cases z'
    subst hb
    exact ⟨ha,by rw [List.length_map]; exact hl,vs,_,rv,ha⟩
   ·have z':=(if_neg hb).symm.trans z
    cases z'
  ·by_cases hb:b = a
   ·exact hb
   ·exact absurd (if_neg hb) z
end L2
namespace L2
open PySem PySem.Spec PyProof.Rows
abbrev KOf {K:PySem.W.Frag} {h:Heap} (_:K.In h):PySem.W.Frag:=K
theorem walk_of {l:PySem.W.OpenLaw} {n k:Nat} {q:Program} {loose:List Str} {XP:(Str -> Option Value) -> Heap -> Prop} {YP:World -> Heap -> Prop} {d:DefRec} {K:Params -> PySem.W.Frag} {CX:World -> CXT} {sp:World -> Sp} {x:Str}
  (hn:l.most = some n) (hn2:n <= sizeLine) (hdf:d.params.defaults = []) (hr:Room k callerA)
  (hY:∀ (w:World) (h:Heap),YP w h -> (K w.params).In h)
  (F:∀ (w:World) (mg:Str -> Option Value) (fa:Addr) (h:Heap),(K w.params).In h -> h.Ns mainGlobals mg -> mg d.name = some (.ref fa) ->
   ∃ fd:FuncData,(∀ (s:Shared) (u:Value),BindsTo s fd ⟨[u],[]⟩ [(x,u)]) /\
    ∀ base:Heap,(K w.params).In base -> base.Ns mainGlobals mg -> FnOk l.prog w (K w.params) mg base (CX w) k fa fd [x] (sp w))
  (hsp:∀ (w:World) (H:Hp) (a:Addr) (ns:List Int),ns.length <= n -> Only H -> SqL (K w.params) H a (ns.map V.int) -> sp w [.ref a] H (fun v _=>v = .bl true) fun _ _ _=>False)
  (hCX:∀ (w:World) (H:Hp) (s:Shared) (e:Value) (s':Shared),CX w [] H s (fun _ _ _=>False) e s' -> False) :
  PySem.W.WalkO q loose XP YP l.row.toRowW d [] (fun f vs=>PySem.call f vs):=by
 refine Att.Jaw hn hdf fun w s₀ s₁ mg mb fa o pm cd doc a vs ns G Y ho hd hcd hmg hobj hints hlen hg=>?_
 have KX:=hY w _ Y
 obtain ⟨fd,hb,hF⟩:=F w mg fa _ KX G.T.g hmg
 exact JdX KX G.T.g G.T.b G.T.builtins G.T.nolimit hg hobj hints (Nat.le_trans hlen hn2) hr hF hb (fun H hO hS=>hsp w H a ns hlen hO hS) fun H e s'=>hCX w H s₁ e s'
end L2
namespace L2
open PySem PySem.Spec PyProof.Rows
def defArgs (s:Stmt):Arguments:=match s with
 | .FunctionDef _ a _ _ _ _ _ _ _ _=>a
 | _=>{ posonlyargs:=[],args:=[],vararg:=none,kwonlyargs:=[],kw_defaults:=[],kwarg:=none,defaults:=[] }
def defBody (s:Stmt):List Stmt:=match s with
 | .FunctionDef _ _ b _ _ _ _ _ _ _=>b
 | _=>[]
def defScope (s:Stmt):Scope:=match s with
 | .FunctionDef _ _ _ _ _ _ sc _ _ _=>sc
 | _=>{ kind:=.function,names:=[],isGenerator:=false,isCoroutine:=false }
abbrev CX0:CXT:=fun _ _ _ _ _ _=>False
structure Fun (K:PySem.W.Frag) (x qual:Str) (st:Stmt) (f:Addr) (fd:FuncData):Prop where
 ex:∃ (oc:Value) (od:Option Addr) (kV doc pm:Value) (an:Option Addr) (cdv ct:Value) (osl:Array (Option Value)),
  fd = PySem.W.fnOf x qual (defArgs st) (defBody st) (defScope st) .none kV doc pm an cdv ct /\ K.lookup f = some ⟨oc,od,.func fd,osl⟩ /\ PySem.W.codeIn K cdv qual = true
 kp:PySem.W.keepIn K (.ref f) = true
section
variable {P:Program} {w:World} {K:PySem.W.Frag} {mg:Str -> Option Value} {base:Heap}
theorem Fun.ok {x qual:Str} {st:Stmt} {f:Addr} {fd:FuncData} {N ps:List Str} {k:Nat} {sp:Sp} (F:Fun K x qual st f fd) (S:FnScope N ps (defScope st)) (len:∀ vs H Q E,sp vs H Q E -> vs.length = ps.length)
  (hbody:∀ (cdv:Value) (A:Around) (outer:List Env) (s:Shared) (H:Hp) (vs:List V) (Q:VK) (E:XK),Room k (A.deeper (envOfC qual (defScope st) s.heap.objs.size f cdv)) -> sp vs H Q E ->
   ∃ t,PSs (cxOf CX0 P w K mg base N qual (defScope st) f cdv A outer s H E).nox (defBody st) t /\ t { nx:=fun _ H'=>Q .non H',rt:=Q } (start N vs) H):FnOk P w K mg base CX0 (k + 1) f fd ps sp:=by
 obtain ⟨oc,od,kV,doc,pm,an,cdv,ct,osl,rfl,lk,hcd⟩:=F.ex
 refine JfB lk hcd S len fun A outer s H vs Q E hr hsp=>?_
 obtain ⟨t,h,q⟩:=hbody cdv A outer s H vs Q E hr hsp
 exact ⟨t,h.nox,q⟩
theorem Fun.binds {x qual:Str} {st:Stmt} {f:Addr} {fd:FuncData} {ps:List Str} (F:Fun K x qual st f fd)
  (h:∀ (kV doc pm:Value) (an:Option Addr) (cdv ct:Value) (us:List Value),us.length = ps.length -> bindArgs (PySem.W.fnOf x qual (defArgs st) (defBody st) (defScope st) .none kV doc pm an cdv ct) ⟨us,[]⟩ = pure (ps.zip us)):Binds K fd ps []:=by
 obtain ⟨oc,od,kV,doc,pm,an,cdv,ct,osl,rfl,lk,hcd⟩:=F.ex
 exact .all (h kV doc pm an cdv ct)
theorem JgF {x qual:Str} {st:Stmt} {f:Addr} {oc:Value} {od an:Option Addr} {osl:Array (Option Value)} {kV doc pm cdv ct:Value} (l:K.lookup f = some ⟨oc,od,.func (PySem.W.fnOf x qual (defArgs st) (defBody st) (defScope st) .none kV doc pm an cdv ct),osl⟩)
  (c:PySem.W.codeIn K cdv qual = true) (k:PySem.W.keepIn K (.ref f) = true):Fun K x qual st f (PySem.W.fnOf x qual (defArgs st) (defBody st) (defScope st) .none kV doc pm an cdv ct):=⟨⟨oc,od,kV,doc,pm,an,cdv,ct,osl,rfl,l,c⟩,k⟩
end
section
variable {X:Cx}
theorem pv (i:Nat) {x:Str} {pos:Pos} (hN:X.N[i]? = some x:=by rfl) (hv:Vis X.env.scope x:=by first | exact Or.inl rfl | exact Or.inr (Or.inl rfl) | exact Or.inr (Or.inr rfl)) (hd:(x == ("__debug__" : Str)) = false:=by decide)
  (hcd:(x == ("__classdict__" : Str)) = false:=by decide):PE X (.Name x pos) (tVar i):=Jbm hN hv hd hcd
end
theorem iteF {A B:Prop} (h:B):if false = true then A else B:=by
 rw [if_neg Bool.false_ne_true]
 exact h
theorem iteT {A B:Prop} (h:A):if true = true then A else B:=by
 rw [if_pos rfl]
 exact h
def Same (H H':Hp):Prop:=∀ b o,H b = some o -> H' b = some o
theorem Same.refl (H:Hp):Same H H:=fun _ _ h=>h
theorem Same.trans {H H1 H2:Hp} (a:Same H H1) (b:Same H1 H2):Same H H2:=fun c o h=>b c o (a c o h)
theorem Same.free {H H':Hp} (e:Same H H') {l:Addr} (h:H' l = Option.none):H l = Option.none:=by
 cases q:H l with
 | none=>rfl
 | some o=>
  rw [e l o q] at h
  cases h
theorem Same.seq {K:PySem.W.Frag} {H H':Hp} {a:Addr} {xs:List V} (e:Same H H') (h:SqL K H a xs):SqL K H' a xs:=by
 rcases h with (h | ⟨o,h⟩) | h
 ·exact .inl (.inl (e _ _ h))
 ·exact .inl (.inr ⟨o,e _ _ h⟩)
 ·exact .inr h
end L2
namespace L2
open PySem PySem.Spec PyProof.Rows
section
variable {κ:Type} [DecidableEq κ]
theorem KV.length {kvs:List (κ × V)} {vs:List (κ × Value)} (r:KV kvs vs):kvs.length = vs.length:=Paired.length r
end
section
variable {P:Program} {w:World} {H:Hp} {h:Heap} {a:Addr}
end
section
variable {X:Cx} {pins:List (Addr × Obj)} {σ:St} {H:Hp} {s:Shared} {a:Addr} {y v:V} {u r:Value} {o:Option V} {A:Around} {E:Value -> Shared -> Prop}
end
section
variable {X:Cx} {pins:List (Addr × Obj)} {σ:St} {H:Hp} {s:Shared} {a:Addr} {kvs:List (Key × V)} {k:Key} {u:Value} {A:Around} {E:Value -> Shared -> Prop}
end
section
variable {X:Cx} {o i e value:Expr} {pos pos' tpos:Pos} {td ty tv:TE}
end
section
variable {X:Cx} {pos:Pos}
end
structure M2 (X:Cx) (o:Expr) (m:Str) (apos:Pos) (e f:Expr) (cpos:Pos):Prop where
 base:attributeBase o m X.env (eval o X.env) = eval o X.env
 few:((backTo cpos (starEach [e,f] X.env)).all (fun x=>!x.1) && (backToKw cpos (keywordEach [] X.env)).all (fun x=>x.1.isSome)
  && decide (([e,f]:List Expr).length + ([]:List Keyword).length + (if ([]:List Keyword).isEmpty then 0 else 1) < 30)) = true
 line:(apos.endLine == cpos.line) = true
 trees:backTo cpos (starEach [e,f] X.env) = [(false,eval e X.env),(false,eval f X.env)]
section
variable {X:Cx} {pins:List (Addr × Obj)} {σ:St} {H:Hp} {s:Shared} {a:Addr} {y d:V} {u r:Value} {o:Option V} {A:Around} {E:Value -> Shared -> Prop}
end
section
variable {X:Cx} {o e f:Expr} {apos cpos:Pos} {td ty tx:TE}
end
section
variable {X:Cx} {pins:List (Addr × Obj)} {σ:St} {H:Hp} {s:Shared} {a:Addr} {kvs:List (Key × V)} {A:Around} {E:Value -> Shared -> Prop}
end
section
variable {X:Cx} {pins:List (Addr × Obj)} {σ:St} {H:Hp} {s:Shared} {a:Addr} {y:V} {u:Value} {A:Around} {E:Value -> Shared -> Prop}
end
end L2
namespace L2
open PySem PySem.Spec PyProof.Rows
section
variable {X:Cx}
end
end L2
namespace Pu
open PySem
inductive D where
 | non | bl (b:Bool) | int (i:Int) | str (x:Str) | tup (ds:List D) | lst (ds:List D)
 /-- a dict,whose keys are tuples (t) or ints and texts,that no one changes any more (z) or not; a refusal that was taken; a def -/
 | dct (t z:Bool) (ks vs:List D) | exc (c:Str) | fn (x:Str) (i:Nat)
 deriving Inhabited
inductive Rs (α:Type) where
 | ok (a:α) | ex (c:Str) | stuck
def Rs.bind {α β:Type}:Rs α -> (α -> Rs β) -> Rs β
 | .ok a,f=>f a
 | .ex c,_=>.ex c
 | .stuck,_=>.stuck
def Rs.calm {α:Type}:Rs α -> Rs α
 | .ok a=>.ok a
 | .ex _=>.stuck
 | .stuck=>.stuck
@[simp] theorem Rs.calm_ok {α:Type} (a:α):(Rs.ok a).calm = .ok a:=rfl
def Rs.Good {α:Type} (r:Rs α) (P:α -> Prop) (E:Str -> Prop):Prop:=
 match r with
 | .ok a=>P a
 | .ex c=>E c
 | .stuck=>False
@[simp] theorem Rs.bind_ok {α β:Type} (a:α) (f:α -> Rs β):(Rs.ok a).bind f = f a:=rfl
@[simp] theorem Rs.bind_ex {α β:Type} (c:Str) (f:α -> Rs β):(Rs.ex c:Rs α).bind f = .ex c:=rfl
@[simp] theorem Rs.bind_stuck {α β:Type} (f:α -> Rs β):(Rs.stuck:Rs α).bind f = .stuck:=rfl
theorem Rs.bind_assoc {α β γ:Type} (r:Rs α) (f:α -> Rs β) (g:β -> Rs γ):(r.bind f).bind g = r.bind fun a=>(f a).bind g:=by
 cases r <;> rfl
theorem Rs.good_bind {α β:Type} {r:Rs α} {f:α -> Rs β} {P:β -> Prop} {E:Str -> Prop}:(r.bind f).Good P E ↔ r.Good (fun a=>(f a).Good P E) E:=by
 cases r <;> rfl
theorem Rs.good_calm {α:Type} {r:Rs α} {P:α -> Prop} {E E':Str -> Prop} (h:r.calm.Good P E):r.Good P E':=by
 cases r with
 | ok a=>exact h
 | ex c=>exact h.elim
 | stuck=>exact h
theorem Rs.Good.mono {α:Type} {r:Rs α} {P P':α -> Prop} {E E':Str -> Prop} (h:r.Good P E) (hp:∀ a,P a -> P' a) (he:∀ c,E c -> E' c):r.Good P' E':=by
 cases r with
 | ok a=>exact hp a h
 | ex c=>exact he c h
 | stuck=>exact h
theorem Rs.Good.imp {α:Type} {r:Rs α} {P P':α -> Prop} {E:Str -> Prop} (h:r.Good P E) (hp:∀ a,P a -> P' a):r.Good P' E:=h.mono hp fun _ x=>x
mutual
def D.eqv:D -> D -> Bool
 | .non,.non=>true
 | .bl a,.bl b=>a == b
 | .bl a,.int b=>(if a then 1 else 0) == b
 | .int a,.bl b=>a == (if b then 1 else 0)
 | .int a,.int b=>a == b
 | .str a,.str b=>a == b
 | .tup as,.tup bs=>eqvs as bs
 | .lst as,.lst bs=>eqvs as bs
 | _,_=>false
def eqvs:List D -> List D -> Bool
 | [],[]=>true
 | a :: as,b :: bs=>D.eqv a b && eqvs as bs
 | _,_=>false
end
mutual
def D.imm:D -> Bool
 | .tup ds=>imms ds
 | .lst _=>false
 | .dct _ z _ vs=>z && imms vs
 | _=>true
def imms:List D -> Bool
 | []=>true
 | d :: ds=>D.imm d && imms ds
end
mutual
def D.dep:D -> Nat
 | .tup ds=>deps ds + 1
 | .lst ds=>deps ds + 1
 | .dct _ _ _ _=>1000
 | .exc _=>1000
 | .fn _ _=>1000
 | _=>0
def deps:List D -> Nat
 | []=>0
 | d :: ds=>max (D.dep d) (deps ds)
end
def ixn (n:Nat) (i:Int):Option Nat:=if 0 <= i then (if i < n then some i.toNat else none) else if -(n:Int) <= i then some (i + n).toNat else none
def atD {α:Type} (xs:List α) (i:Int):Option α:=(ixn xs.length i).bind fun j=>xs[j]?
def six (n d:Nat):Option Int -> Nat
 | none=>d
 | some v=>if v < 0 then (v + (n:Int)).toNat else min v.toNat n
def cutD {α:Type} (xs:List α) (lo hi:Option Int):List α:=(xs.drop (six xs.length 0 lo)).take (six xs.length xs.length hi - six xs.length 0 lo)
def lineD:Nat:=16777216
def Rs.ofOpt {α:Type}:Option α -> Rs α
 | some a=>.ok a
 | none=>.stuck
def chars (x:Str):List D:=x.cps.toList.map fun c=>.str ⟨#[c]⟩
def D.walk:D -> Rs (List D)
 | .tup ds=>.ok ds
 | .lst ds=>.ok ds
 | .str x=>.ok (chars x)
 | _=>.stuck
def D.truth:D -> Rs Bool
 | .non=>.ok false
 | .bl b=>.ok b
 | .int i=>.ok (i != 0)
 | .str x=>if x.length <= lineD then .ok ((x.length:Int) != 0) else .stuck
 | .tup ds=>.ok (!ds.isEmpty)
 | .lst ds=>.ok (!ds.isEmpty)
 | _=>.stuck
def D.bound:D -> Rs (Option Int)
 | .non=>.ok none
 | .int i=>.ok (some i)
 | _=>.stuck
def ltS (a b:Str):Bool:=decide (a.cps.toList < b.cps.toList)
def insS (x:Str):List Str -> List Str
 | []=>[x]
 | y :: ys=>if x == y then y :: ys else if ltS x y then x :: y :: ys else y :: insS x ys
def sortS:List Str -> List Str
 | []=>[]
 | x :: xs=>insS x (sortS xs)
def mkS (l:List Nat):Str:=⟨l.toArray⟩
def joinL (sep:List Nat):List (List Nat) -> List Nat
 | []=>[]
 | [x]=>x
 | x :: y :: r=>x ++ (sep ++ joinL sep (y :: r))
def consL (x:Nat):List (List Nat) -> List (List Nat)
 | []=>[[x]]
 | p :: r=>(x :: p) :: r
def splitL (c:Nat):List Nat -> List (List Nat)
 | []=>[[]]
 | x :: l=>if x = c then [] :: splitL c l else consL x (splitL c l)
def cutL (c:Nat):List Nat -> List Nat × Option (List Nat)
 | []=>([],none)
 | x :: l=>if x = c then ([],some l) else (x :: (cutL c l).1,(cutL c l).2)
def partD (x:List Nat) (c:Nat):D:=match cutL c x with
 | (a,some b)=>.tup [.str (mkS a),.str (mkS [c]),.str (mkS b)]
 | (_,none)=>.tup [.str (mkS x),.str (mkS []),.str (mkS [])]
def strsOf:List D -> Option (List Str)
 | []=>some []
 | .str x :: ds=>(strsOf ds).map (x :: ·)
 | _ :: _=>none
inductive O1 where
 | neg | not | isN | notN | isT | notT | isF | notF | len | all | any | tuple | list | sset | lset | truth | isStr | isTup | isLst | isInt | isBool | range | enum | ints | asI | rows | asT
 | isC (cs:List Str) (c:Str) | items | dictP | rev | strI | join | rngT | dLen | minL | sortT | sumI | revT | dKeys | dKeyW | tupL
 deriving DecidableEq
inductive O2 where
 | add | sub | mul | fdiv | mod | pow | eq | ne | lt | le | gt | ge | isin | notin | idx | zip | starts | range2 | rep | repT | repU | repS | index | count | addI | dIn (t:Bool) | dNi (t:Bool) | dGet (t:Bool) | ltL | gtT | indexT | mulI | joinS | splitS | partS | ends | strt
 deriving DecidableEq
def smallI (i:Int):Bool:=decide (-(2 ^ 64) < i) && decide (i < 2 ^ 64)
def midI (i:Int):Bool:=decide (-(2 ^ 62) <= i) && decide (i < 2 ^ 62)
def okDep (a:D):Bool:=decide (a.dep <= 20)
def upTo (lo:Int) (n:Nat):List D:=(List.range n).map fun (k:Nat)=>D.int (lo + (k:Int))
def enumFrom (k:Nat):List D -> List D
 | []=>[]
 | d :: ds=>.tup [.int k,d] :: enumFrom (k + 1) ds
def zipD:List D -> List D -> List D
 | a :: as,b :: bs=>.tup [a,b] :: zipD as bs
 | _,_=>[]
def blsOf:List D -> Option (List Bool)
 | []=>some []
 | .bl b :: ds=>(blsOf ds).map (b :: ·)
 | _ :: _=>none
def digs (cs:List Nat):Nat:=cs.foldl (fun acc c=>acc * 10 + (c - 48)) 0
def isFig (c:Nat):Bool:=decide (48 <= c) && decide (c <= 57)
def pieceD:D -> Option Str
 | .str x=>if x.length <= 1000 then some x else none
 | .int i=>if i.natAbs < 2 ^ 64 then some (toString i:String) else none
 | _=>none
def joinD:List D -> Option Str
 | []=>some Str.empty
 | d :: ds=>match pieceD d,joinD ds with
  | some x,some y=>if x.length + y.length <= 2000 then some (x ++ y) else none
  | _,_=>none
def rowsD:List D -> Option (List D × List D)
 | []=>some ([],[])
 | .tup [.str k,v] :: ds=>match rowsD ds with
  | some (ks,vs)=>some (.str k :: ks,v :: vs)
  | none=>none
 | _ :: _=>none
def banD (x:Str):Bool:=x == Str.ofString "any" || x == Str.ofString "number" || x == Str.ofString "one" || x == Str.ofString "rest" || x == Str.ofString "word"
def keyB:D -> Bool
 | .int _=>true
 | .str _=>true
 | _=>false
def keyI:D -> Bool
 | .int _=>true
 | _=>false
def keyS:D -> Bool
 | .str x=>!banD x
 | _=>false
def keyD (t:Bool):D -> Bool
 | .tup ds=>t && (ds.all keyI || ds.all keyS)
 | d=>!t && keyB d
def lookD (k:D):List D -> List D -> Option D
 | a :: ks,v :: vs=>if a.eqv k then some v else lookD k ks vs
 | _,_=>none
def setD (k v:D):List D -> List D -> List D
 | a :: ks,u :: vs=>(if a.eqv k then v else u) :: setD k v ks vs
 | _,vs=>vs
def putD (k v:D) (ks vs:List D):List D × List D:=if ks.any fun a=>a.eqv k then (ks,setD k v ks vs) else (ks ++ [k],vs ++ [v])
def idxD (x:D):List D -> Option Nat
 | []=>none
 | d :: ds=>if d.eqv x then some 0 else (idxD x ds).map (· + 1)
def minLen:List D -> Option (List D)
 | []=>none
 | .tup xs :: ds=>match minLen ds with
  | some ys=>if ys.length < xs.length then some ys else some xs
  | none=>if ds.isEmpty then some xs else none
 | _ :: _=>none
def rpS (x:Str) (k:Int):Str:=if k < 1 then Str.empty else if (k == 1 || x.length == 0) = true then x else ⟨List.foldl (fun a b=>a ++ b) #[] (List.replicate k.toNat x.cps)⟩
def intsOf:List D -> Option (List Int)
 | []=>some []
 | .int i :: ds=>(intsOf ds).map (i :: ·)
 | _ :: _=>none
def lexI:List Int -> List Int -> Bool
 | [],[]=>false
 | [],_ :: _=>true
 | _ :: _,[]=>false
 | i :: is,j :: js=>if i = j then lexI is js else decide (i < j)
def insK (x:List Int × D):List (List Int × D) -> List (List Int × D)
 | []=>[x]
 | y :: ys=>if lexI y.1 x.1 then y :: insK x ys else x :: y :: ys
def sortK:List (List Int × D) -> List (List Int × D)
 | []=>[]
 | x :: xs=>insK x (sortK xs)
def keysOf:List D -> Option (List (List Int))
 | []=>some []
 | .tup ks :: ds=>match intsOf ks,keysOf ds with
  | some k,some r=>some (k :: r)
  | _,_=>none
 | _ :: _=>none
def headsOf:List D -> Option (List Str)
 | []=>some []
 | .tup (.str x :: _) :: ds=>(headsOf ds).map (x :: ·)
 | _ :: _=>none
def insT (x:Str × D):List (Str × D) -> List (Str × D)
 | []=>[x]
 | y :: ys=>if ltS y.1 x.1 then y :: insT x ys else x :: y :: ys
def sortT:List (Str × D) -> List (Str × D)
 | []=>[]
 | x :: xs=>insT x (sortT xs)
def dictPD (ds:List D):Rs D:=match rowsD ds with
 | some (ks,vs)=>if ks.Pairwise (fun a b=>a.eqv b = false) /\ ks.length <= 1000 then .ok (.dct false true ks vs) else .stuck
 | none=>.stuck
def dspD (t:Bool) (ks vs:List D):Rs D:=match t with
 | true=>match ks,vs with
  | [k],[v]=>if keyD true k then .ok (.dct true true [k] [v]) else .stuck
  | _,_=>.stuck
 | false=>if ks.all keyB && decide (ks.Pairwise fun a b=>a.eqv b = false) && decide (ks.length = vs.length) && decide (ks.length <= 15) then .ok (.dct false true ks vs) else .stuck
def isiD (f:D -> Bool):D -> Rs D
 | .dct _ _ _ _=>.stuck
 | .exc _=>.stuck
 | .fn _ _=>.stuck
 | d=>.ok (.bl (f d))
def op1 (o:O1) (d:D):Rs D:=
 match o with
 | .neg=>match d with
  | .int i=>.ok (.int (-i))
  | _=>.stuck
 | .not=>match d with
  | .bl b=>.ok (.bl !b)
  | _=>.stuck
 | .isN=>match d with
  | .non=>.ok (.bl true)
  | _=>.ok (.bl false)
 | .notN=>match d with
  | .non=>.ok (.bl false)
  | _=>.ok (.bl true)
 | .isT=>match d with
  | .bl b=>.ok (.bl b)
  | _=>.stuck
 | .notT=>match d with
  | .bl b=>.ok (.bl !b)
  | _=>.stuck
 | .isF=>match d with
  | .bl b=>.ok (.bl !b)
  | _=>.stuck
 | .notF=>match d with
  | .bl b=>.ok (.bl b)
  | _=>.stuck
 | .len=>match d with
  | .tup ds=>.ok (.int ds.length)
  | .lst ds=>.ok (.int ds.length)
  | .str x=>if x.length <= lineD then .ok (.int x.length) else .stuck
  | _=>.stuck
 | .all=>match d with
  | .lst ds=>match blsOf ds with
   | some bs=>.ok (.bl (bs.all id))
   | none=>.stuck
  | _=>.stuck
 | .any=>match d with
  | .lst ds=>match blsOf ds with
   | some bs=>.ok (.bl (bs.any id))
   | none=>.stuck
  | _=>.stuck
 | .tuple=>match d with
  | .tup ds=>.ok (.tup ds)
  | .lst ds=>.ok (.tup ds)
  | _=>.stuck
 | .list=>match d with
  | .tup ds=>.ok (.lst ds)
  | .lst ds=>.ok (.lst ds)
  | _=>.stuck
 | .sset=>match d with
  | .lst ds=>match strsOf ds with
   | some ss=>if ss.length < 60 then .ok (.lst ((sortS ss).map .str)) else .stuck
   | none=>.stuck
  | _=>.stuck
 | .lset=>match d with
  | .lst ds=>match strsOf ds with
   | some ss=>if ss.length < 60 then .ok (.int (sortS ss).length) else .stuck
   | none=>.stuck
  | _=>.stuck
 | .truth=>d.truth.bind fun b=>.ok (.bl b)
 | .isStr=>isiD (fun d=>match d with
   | .str _=>true
   | _=>false) d
 | .isTup=>isiD (fun d=>match d with
   | .tup _=>true
   | _=>false) d
 | .isLst=>isiD (fun d=>match d with
   | .lst _=>true
   | _=>false) d
 | .isInt=>isiD (fun d=>match d with
   | .int _=>true
   | .bl _=>true
   | _=>false) d
 | .isBool=>isiD (fun d=>match d with
   | .bl _=>true
   | _=>false) d
 | .range=>match d with
  | .int i=>if midI i then .ok (.lst (upTo 0 i.toNat)) else .stuck
  | _=>.stuck
 | .enum=>match d with
  | .tup ds=>.ok (.lst (enumFrom 0 ds))
  | .lst ds=>.ok (.lst (enumFrom 0 ds))
  | _=>.stuck
 | .ints=>match d with
  | .str x=>if x.cps.toList.all isFig && decide (x.cps.toList ≠ []) && decide (x.cps.toList.length <= 640) then .ok (.int (digs x.cps.toList)) else .stuck
  | _=>.stuck
 | .asI=>match d with
  | .int i=>.ok (.int i)
  | _=>.stuck
 | .rows=>match d with
  | .tup ds=>.ok (.tup ds)
  | .lst ds=>.ok (.lst ds)
  | _=>.stuck
 | .asT=>match d with
  | .tup ds=>.ok (.tup ds)
  | _=>.stuck
 | .dKeys=>match d with
  | .dct true _ ks _=>.ok (.lst ks)
  | _=>.stuck
 | .dKeyW=>match d with
  | .dct _ true ks _=>.ok (.lst ks)
  | _=>.stuck
 | .tupL=>match d with
  | .lst ds=>.ok (.tup ds)
  | _=>.stuck
 | .dLen=>match d with
  | .dct _ _ ks _=>.ok (.int ks.length)
  | _=>.stuck
 | .isC cs c=>match d with
  | .exc c'=>if cs.contains c' then .ok (.bl (c == Str.ofString "ValueError" || c' == c)) else .stuck
  | _=>.stuck
 | .items=>match d with
  | .dct _ true ks vs=>.ok (.lst (zipD ks vs))
  | _=>.stuck
 | .dictP=>match d with
  | .tup ds=>dictPD ds
  | .lst ds=>dictPD ds
  | _=>.stuck
 | .rev=>match d with
  | .lst ds=>.ok (.lst ds.reverse)
  | _=>.stuck
 | .strI=>match d with
  | .str x=>if x.length <= 1000 then .ok (.str x) else .stuck
  | .int i=>if i.natAbs < 2 ^ 64 then .ok (.str (toString i:String)) else .stuck
  | _=>.stuck
 | .join=>match d with
  | .lst ds=>match joinD ds with
   | some x=>.ok (.str x)
   | none=>.stuck
  | _=>.stuck
 | .minL=>match d with
  | .lst []=>.ok .non
  | .lst (d :: ds)=>match minLen (d :: ds) with
   | some xs=>.ok (.tup xs)
   | none=>.stuck
  | _=>.stuck
 | .sortT=>match d with
  | .lst ds=>match headsOf ds with
   | some xs=>if xs.Nodup /\ ds.length <= 6 then .ok (.lst ((sortT (xs.zip ds)).map (·.2))) else .stuck
   | none=>.stuck
  | _=>.stuck
 | .revT=>match d with
  | .tup ds=>.ok (.tup ds.reverse)
  | _=>.stuck
 | .sumI=>match d with
  | .lst ds=>match intsOf ds with
   | some is=>if is.all (fun i=>decide (0 <= i /\ i <= 1000000)) && decide (is.length <= 1000) then .ok (.int is.sum) else .stuck
   | none=>.stuck
  | _=>.stuck
 | .rngT=>match d with
  | .int i=>if 0 <= i /\ i <= 1000 then .ok (.tup (upTo 0 i.toNat)) else .stuck
  | _=>.stuck
def repS (x:Str) (k:Int):Str:=⟨(List.replicate k.toNat x.cps).foldl (· ++ ·) #[]⟩
def hasSign (x:Str) (c:Nat):Bool:=decide (c ∈ x.cps.toList)
def op2 (o:O2) (a b:D):Rs D:=
 match o with
 | .add=>match a,b with
  | .int i,.int j=>.ok (.int (i + j))
  | .str x,.str y=>if x.length + y.length <= lineD then .ok (.str (x ++ y)) else .stuck
  | .tup xs,.tup ys=>if xs.length + ys.length <= lineD then .ok (.tup (xs ++ ys)) else .stuck
  | .lst xs,.lst ys=>if xs.length + ys.length <= lineD then .ok (.lst (xs ++ ys)) else .stuck
  | _,_=>.stuck
 | .addI=>match a,b with
  | .int i,.int j=>.ok (.int (i + j))
  | _,_=>.stuck
 | .sub=>match a,b with
  | .int i,.int j=>.ok (.int (i - j))
  | _,_=>.stuck
 | .mul=>match a,b with
  | .int i,.int j=>if smallI i || smallI j then .ok (.int (i * j)) else .stuck
  | .str x,.int k=>if 2 <= k /\ k <= 1000 /\ 1 <= x.length /\ x.length <= 1000 then .ok (.str (repS x k)) else .stuck
  | _,_=>.stuck
 | .fdiv=>match a,b with
  | .int i,.int j=>if 0 < j /\ j < 1073741824 then .ok (.int (i / j)) else .stuck
  | _,_=>.stuck
 | .mod=>match a,b with
  | .int i,.int j=>if 0 < j then .ok (.int (i % j)) else .stuck
  | _,_=>.stuck
 | .pow=>match a,b with
  | .int i,.int j=>if 0 <= j /\ j <= 1000000 /\ i.natAbs < 2 ^ 64 then .ok (.int (i ^ j.toNat)) else .stuck
  | _,_=>.stuck
 | .eq=>if okDep a && okDep b then .ok (.bl (a.eqv b)) else .stuck
 | .ne=>if okDep a && okDep b then .ok (.bl (!a.eqv b)) else .stuck
 | .lt=>match a,b with
  | .int i,.int j=>.ok (.bl (decide (i < j)))
  | .str x,.str y=>.ok (.bl (ltS x y))
  | _,_=>.stuck
 | .ltL=>match a,b with
  | .lst xs,.lst ys=>match intsOf xs,intsOf ys with
   | some is,some js=>if is.length <= 1000 /\ js.length <= 1000 then .ok (.bl (lexI is js)) else .stuck
   | _,_=>.stuck
  | _,_=>.stuck
 | .gtT=>match a,b with
  | .tup [.lst xs,.int i],.tup [.lst ys,.int j]=>match intsOf xs,intsOf ys with
   | some is,some js=>if is.length <= 1000 /\ js.length <= 1000 then .ok (.bl (if is = js then decide (j < i) else lexI js is)) else .stuck
   | _,_=>.stuck
  | _,_=>.stuck
 | .le=>match a,b with
  | .int i,.int j=>.ok (.bl (decide (i <= j)))
  | _,_=>.stuck
 | .gt=>match a,b with
  | .int i,.int j=>.ok (.bl (decide (j < i)))
  | _,_=>.stuck
 | .ge=>match a,b with
  | .int i,.int j=>.ok (.bl (decide (j <= i)))
  | _,_=>.stuck
 | .isin=>match a,b with
  | .str x,.str y=>if x.cps = #[x.cps.getD 0 0] then .ok (.bl (hasSign y (x.cps.getD 0 0))) else .stuck
  | a,.tup ds=>if okDep (.tup ds) && okDep a then .ok (.bl (ds.any fun d=>d.eqv a)) else .stuck
  | a,.lst ds=>if okDep (.lst ds) && okDep a then .ok (.bl (ds.any fun d=>d.eqv a)) else .stuck
  | _,_=>.stuck
 | .notin=>match a,b with
  | .str x,.str y=>if x.cps = #[x.cps.getD 0 0] then .ok (.bl (!hasSign y (x.cps.getD 0 0))) else .stuck
  | a,.tup ds=>if okDep (.tup ds) && okDep a then .ok (.bl (!ds.any fun d=>d.eqv a)) else .stuck
  | a,.lst ds=>if okDep (.lst ds) && okDep a then .ok (.bl (!ds.any fun d=>d.eqv a)) else .stuck
  | _,_=>.stuck
 | .idx=>match a,b with
  | .tup ds,.int i=>Rs.ofOpt (atD ds i)
  | .lst ds,.int i=>Rs.ofOpt (atD ds i)
  | .str x,.int i=>if x.length <= lineD then Rs.ofOpt ((atD x.cps.toList i).map fun c=>.str ⟨#[c]⟩) else .stuck
  | _,_=>.stuck
 | .zip=>match a,b with
  | .tup xs,.tup ys=>.ok (.lst (zipD xs ys))
  | .lst xs,.lst ys=>.ok (.lst (zipD xs ys))
  | .tup xs,.lst ys=>.ok (.lst (zipD xs ys))
  | .lst xs,.tup ys=>.ok (.lst (zipD xs ys))
  | _,_=>.stuck
 | .starts=>match a,b with
  | .str x,.str y=>.ok (.bl (decide (0 + y.length <= x.length) && (x.cps.extract 0 (0 + y.length) == y.cps)))
  | _,_=>.stuck
 | .rep=>match a,b with
  | .lst ds,.int k=>if midI k && decide (ds.length * k.toNat <= lineD) then .ok (.lst (List.replicate k.toNat ds).flatten) else .stuck
  | _,_=>.stuck
 | .repT=>match a,b with
  | .tup ds,.int k=>if decide (2 <= k) && decide (ds ≠ []) && decide (ds.length * k.toNat <= lineD) then .ok (.tup (List.replicate k.toNat ds).flatten) else .stuck
  | _,_=>.stuck
 | .repU=>match a,b with
  | .tup ds,.int k=>if decide (0 <= k) && decide (ds ≠ []) && decide (ds.length * k.toNat <= lineD) then .ok (.tup (List.replicate k.toNat ds).flatten) else .stuck
  | _,_=>.stuck
 | .repS=>match a,b with
  | .str x,.int k=>if decide (0 <= k) && decide (k <= 100) && decide (x.length <= 100) then .ok (.str (rpS x k)) else .stuck
  | _,_=>.stuck
 | .dIn t'=>match a,b with
  | k,.dct t _ ks _=>if t = t' /\ keyD t k = true then .ok (.bl (ks.any fun d=>d.eqv k)) else .stuck
  | _,_=>.stuck
 | .dNi t'=>match a,b with
  | k,.dct t _ ks _=>if t = t' /\ keyD t k = true then .ok (.bl (!ks.any fun d=>d.eqv k)) else .stuck
  | _,_=>.stuck
 | .dGet t'=>match a,b with
  | .dct t _ ks vs,k=>if t = t' /\ keyD t k = true then Rs.ofOpt (lookD k ks vs) else .stuck
  | _,_=>.stuck
 | .mulI=>match a,b with
  | .int i,.int j=>if smallI i || smallI j then .ok (.int (i * j)) else .stuck
  | _,_=>.stuck
 | .indexT=>match a,b with
  | .tup ds,x=>if okDep (.tup ds) && okDep x && decide (ds.length <= 1000) then Rs.ofOpt ((idxD x ds).map fun n=>.int n) else .stuck
  | _,_=>.stuck
 | .index=>match a,b with
  | .lst ds,x=>if okDep (.lst ds) && okDep x && decide (ds.length <= 1000) then Rs.ofOpt ((idxD x ds).map fun n=>.int n) else .stuck
  | _,_=>.stuck
 | .count=>match a,b with
  | .lst ds,x=>if okDep (.lst ds) && okDep x && decide (ds.length <= 1000) then .ok (.int (ds.countP fun d=>d.eqv x)) else .stuck
  | _,_=>.stuck
 | .joinS=>match a,b with
  | .str s,.lst ds=>match strsOf ds with
   | some xs=>if s.length <= 1000 /\ (joinL s.cps.toList (xs.map (·.cps.toList))).length <= 1000 then .ok (.str (mkS (joinL s.cps.toList (xs.map (·.cps.toList))))) else .stuck
   | none=>.stuck
  | .str s,.tup ds=>match strsOf ds with
   | some xs=>if s.length <= 1000 /\ (joinL s.cps.toList (xs.map (·.cps.toList))).length <= 1000 then .ok (.str (mkS (joinL s.cps.toList (xs.map (·.cps.toList))))) else .stuck
   | none=>.stuck
  | _,_=>.stuck
 | .splitS=>match a,b with
  | .str x,.str y=>if x.length <= 1000 /\ y.cps = #[y.cps.getD 0 0] then .ok (.lst ((splitL (y.cps.getD 0 0) x.cps.toList).map fun l=>.str (mkS l))) else .stuck
  | _,_=>.stuck
 | .partS=>match a,b with
  | .str x,.str y=>if x.length <= 1000 /\ y.cps = #[y.cps.getD 0 0] then .ok (partD x.cps.toList (y.cps.getD 0 0)) else .stuck
  | _,_=>.stuck
 | .ends=>match a,b with
  | .str x,.str y=>.ok (.bl (decide (0 + y.length <= x.length) && (x.cps.extract (x.length - y.length) (x.length - y.length + y.length) == y.cps)))
  | _,_=>.stuck
 | .strt=>match a,b with
  | .str x,.str y=>.ok (.bl (decide (0 + y.length <= x.length) && (x.cps.extract 0 (0 + y.length) == y.cps)))
  | _,_=>.stuck
 | .range2=>match a,b with
  | .int i,.int j=>if midI i && midI j then .ok (.lst (upTo i (j - i).toNat)) else .stuck
  | _,_=>.stuck
inductive Px where
 | var (i:Nat) | con (d:D)
 | un (o:O1) (a:Px) | bi (o:O2) (a b:Px)
 | and (a b:Px) | or (a b:Px) | ite (c a b:Px)
 | nil | cons (a as:Px) | tup (as:Px) | dis (as:Px)
 | call (f:Nat) (as:Px)
 | sl (a lo hi:Px)
 | walk (a:Px)
 | comp (nt:Nat) (src c e:Px)
 | dsp (t:Bool) (ks vs:Px)
 /-- a call of what is in a name; sorted by a def -/
 | callv (fs:List (Str × Nat)) (a as:Px) | sortK (f:Nat) (a:Px)
 /-- a deed told: its value,or what f says of its refusal -/
 | told (f:Nat) (cs:List Str) (a:Px)
 deriving Inhabited
def usesP:Px -> Nat -> Bool
 | .var j,i=>j == i
 | .con _,_=>false
 | .un _ a,i=>usesP a i
 | .bi _ a b,i=>usesP a i || usesP b i
 | .and a b,i=>usesP a i || usesP b i
 | .or a b,i=>usesP a i || usesP b i
 | .ite c a b,i=>usesP c i || usesP a i || usesP b i
 | .nil,_=>false
 | .cons a b,i=>usesP a i || usesP b i
 | .tup a,i=>usesP a i
 | .dis a,i=>usesP a i
 | .call _ a,i=>usesP a i
 | .sl a b c,i=>usesP a i || usesP b i || usesP c i
 | .walk a,i=>usesP a i
 | .comp nt s c e,i=>usesP s i || usesP c (i + (if nt = 0 then 1 else nt)) || usesP e (i + (if nt = 0 then 1 else nt))
 | .dsp _ a b,i=>usesP a i || usesP b i
 | .callv _ a b,i=>usesP a i || usesP b i
 | .sortK _ a,i=>usesP a i
 | .told _ _ a,i=>usesP a i
def sepP (M:List Nat) (p:Px):Bool:=M.all fun i=>!usesP p i
abbrev Fm:=List (Option D)
def bindT (nt:Nat) (d:D):Rs Fm:=
 if nt = 0 then .ok [some d] else match d with
  | .tup ds=>if ds.length = nt then .ok (ds.map some) else .stuck
  | _=>.stuck
theorem Jce {nt:Nat} {d:D} {c:Str} (h:bindT nt d = .ex c):False:=by
 unfold bindT at h
 split at h
 ·cases h
 ·split at h
  ·split at h <;> cases h
  ·cases h
def compL (nt:Nat) (c e:Fm -> Rs D) (env:Fm):List D -> Rs (List D)
 | []=>.ok []
 | d :: ds=>(bindT nt d).bind fun new=>(c (new ++ env)).calm.bind fun b=>match b with
  | .bl true=>(e (new ++ env)).bind fun y=>(compL nt c e env ds).bind fun ys=>.ok (y :: ys)
  | .bl false=>compL nt c e env ds
  | _=>.stuck
abbrev CallD:=Nat -> List D -> Rs D
def D.asL:D -> Rs (List D)
 | .lst ds=>.ok ds
 | _=>.stuck
def mapR (f:D -> Rs D):List D -> Rs (List D)
 | []=>.ok []
 | d :: ds=>(f d).bind fun y=>(mapR f ds).bind fun ys=>.ok (y :: ys)
def evD (call:CallD):Px -> Fm -> Rs D
 | .var i,env=>match env[i]? with
  | some (some d)=>.ok d
  | _=>.stuck
 | .con d,_=>.ok d
 | .un o a,env=>(evD call a env).bind (op1 o)
 | .bi o a b,env=>(evD call a env).bind fun x=>(evD call b env).bind fun y=>op2 o x y
 | .and a b,env=>(evD call a env).bind fun x=>match x with
  | .bl true=>evD call b env
  | .bl false=>.ok (.bl false)
  | _=>.stuck
 | .or a b,env=>(evD call a env).bind fun x=>match x with
  | .bl true=>.ok (.bl true)
  | .bl false=>evD call b env
  | _=>.stuck
 | .ite c a b,env=>(evD call c env).bind fun x=>match x with
  | .bl true=>evD call a env
  | .bl false=>evD call b env
  | _=>.stuck
 | .nil,_=>.ok (.lst [])
 | .cons a as,env=>(evD call a env).bind fun x=>(evD call as env).bind fun y=>y.asL.bind fun ds=>.ok (.lst (x :: ds))
 | .tup as,env=>(evD call as env).bind fun y=>y.asL.bind fun ds=>if ds.length <= lineD then .ok (.tup ds) else .stuck
 | .dis as,env=>(evD call as env).bind fun y=>y.asL.bind fun ds=>if ds.length <= lineD then .ok (.lst ds) else .stuck
 | .call f as,env=>(evD call as env).bind fun y=>y.asL.bind fun ds=>call f ds
 | .sl a lo hi,env=>(evD call a env).bind fun x=>(evD call lo env).bind fun l=>l.bound.bind fun l=>(evD call hi env).bind fun h=>h.bound.bind fun h=>match x with
  | .tup ds=>.ok (.tup (cutD ds l h))
  | .lst ds=>.ok (.lst (cutD ds l h))
  | .str x=>if x.length <= 1000 then .ok (.str (mkS (cutD x.cps.toList l h))) else .stuck
  | _=>.stuck
 | .walk a,env=>(evD call a env).bind fun x=>x.walk.bind fun ds=>.ok (.lst ds)
 | .comp nt src c e,env=>(evD call src env).bind fun s=>s.asL.bind fun ds=>if ds.length <= lineD then (compL nt (evD call c) (evD call e) env ds).bind fun ys=>.ok (.lst ys) else .stuck
 | .dsp t k v,env=>(evD call k env).bind fun x=>(evD call v env).bind fun y=>x.asL.bind fun ks=>y.asL.bind fun vs=>dspD t ks vs
 | .callv fs a as,env=>(evD call a env).bind fun x=>match x with
  | .fn n i=>if fs.contains (n,i) then (evD call as env).bind fun y=>y.asL.bind fun ds=>call i ds else .stuck
  | _=>.stuck
 | .sortK f a,env=>(evD call a env).bind fun x=>x.walk.bind fun ds=>(mapR (fun d=>call f [d]) ds).calm.bind fun ks=>match keysOf ks with
  | some is=>if ds.length <= 6 then .ok (.lst ((sortK (is.zip ds)).map (·.2))) else .stuck
  | none=>.stuck
 | .told f cs a,env=>match evD call a env with
  | .ok d=>.ok d
  | .ex c=>if cs.contains c then (match call f [.exc c] with
   | .ok d=>.ok d
   | _=>.stuck) else .stuck
  | .stuck=>.stuck
inductive Sx where
 | skip | seq (a b:Sx)
 /-- m: the expression reads what is changed here; then nothing that can be changed comes out of it -/
 | set (m:Bool) (i:Nat) (e:Px) | own (i:Nat) (e:Px)
 | app (m:Bool) (i:Nat) (e:Px) | ext (m:Bool) (i:Nat) (e:Px)
 | eff (e:Px) | ret (e:Px) | retN
 | ite (c:Px) (a b:Sx)
 | loop (m:Bool) (ts:List Nat) (nt:Nat) (src:Px) (body:Sx)
 | brk | cnt | raise (c:Str) (p:Px)
 | whl (n:Nat) (c:Px) (body:Sx)
 | put (m t:Bool) (i:Nat) (k v:Px) | ownD (t:Bool) (i:Nat) | retF (i:Nat)
 | tryC (i:Nat) (e:Px) (j:Nat) (cs:List Str)
 | mov (i j:Nat)
 /-- a list's item set,taken out,put in -/
 | seti (i:Nat) (k v:Px) | popi (t i:Nat) (k:Px) | insi (i:Nat) (k v:Px)
 /-- from here on other places are own ones; those in is are forgotten -/
 | sw (is:List Nat) (b:Sx)
 deriving Inhabited
inductive Fw where
 | nx | rt (d:D) | bk | ct
def setAll:List Nat -> List (Option D) -> Fm -> Fm
 | i :: is,s :: ss,env=>setAll is ss (env.set i s)
 | _,_,env=>env
def forL (ts:List Nat) (nt:Nat) (body:Fm -> Rs (Fw × Fm)):List D -> Fm -> Rs (Fw × Fm)
 | [],env=>.ok (.nx,env)
 | d :: ds,env=>(bindT nt d).bind fun new=>(body (setAll ts new env)).bind fun r=>match r with
  | (.nx,env2)=>forL ts nt body ds env2
  | (.ct,env2)=>forL ts nt body ds env2
  | (.bk,env2)=>.ok (.nx,env2)
  | (.rt d,env2)=>.ok (.rt d,env2)
def whlL (c:Fm -> Rs D) (body:Fm -> Rs (Fw × Fm)):Nat -> Fm -> Rs (Fw × Fm)
 | 0,_=>.stuck
 | n + 1,env=>(c env).bind fun b=>match b with
  | .bl true=>(body env).bind fun r=>match r with
   | (.nx,env2)=>whlL c body n env2
   | (.ct,env2)=>whlL c body n env2
   | (.bk,env2)=>.ok (.nx,env2)
   | (.rt d,env2)=>.ok (.rt d,env2)
  | .bl false=>.ok (.nx,env)
  | _=>.stuck
def txtOk:D -> Bool
 | .str x=>decide (x.length <= 1000) && x.cps.toList.all fun c=>decide (c < 256)
 | _=>false
def msgOk:D -> Bool
 | .lst ds=>ds.all txtOk
 | _=>false
def catchC (j:Nat) (cs:List Str) (env:Fm):Rs (Fw × Fm) -> Rs (Fw × Fm)
 | .ex c=>if cs.contains c then .ok (.nx,(env.map fun _=>none).set j (some (.exc c))) else .stuck
 | r=>r
def mutS:Sx -> Bool
 | .seq a b=>mutS a || mutS b
 | .app _ _ _=>true
 | .ext _ _ _=>true
 | .ite _ a b=>mutS a || mutS b
 | .loop _ _ _ _ b=>mutS b
 | .whl _ _ b=>mutS b
 | .put _ _ _ _ _=>true
 | .seti _ _ _=>true
 | .popi _ _ _=>true
 | .insi _ _ _=>true
 | _=>false
def blankD (M:List Nat):Nat -> Fm -> Fm
 | _,[]=>[]
 | j,s :: env=>(if j ∈ M then none else s) :: blankD M (j + 1) env
def swOut:Rs (Fw × Fm) -> Rs (Fw × Fm)
 | .ok (.rt d,env)=>.ok (.rt d,env)
 | .ok _=>.stuck
 | .ex c=>.ex c
 | .stuck=>.stuck
def exD (call:CallD):Sx -> Fm -> Rs (Fw × Fm)
 | .skip,env=>.ok (.nx,env)
 | .seq a b,env=>(exD call a env).bind fun r=>match r with
  | (.nx,env2)=>exD call b env2
  | r=>.ok r
 | .set m i e,env=>(evD call e env).bind fun d=>if m && !d.imm then .stuck else .ok (.nx,env.set i (some d))
 | .own i e,env=>(evD call e env).bind fun d=>match d with
  | .lst ds=>if !imms ds then .stuck else .ok (.nx,env.set i (some (.lst ds)))
  | _=>.stuck
 | .ownD t i,env=>.ok (.nx,env.set i (some (.dct t false [] [])))
 | .retF i,env=>match env[i]? with
  | some (some (.dct t false ks vs))=>.ok (.rt (.dct t true ks vs),env)
  | _=>.stuck
 | .app m i e,env=>match env[i]? with
  | some (some (.lst ds))=>(evD call e env).bind fun d=>if (m && !d.imm) || !decide (ds.length < lineD) then .stuck else .ok (.nx,env.set i (some (.lst (ds ++ [d]))))
  | _=>.stuck
 | .ext m i e,env=>match env[i]? with
  | some (some (.lst ds))=>(evD call e env).bind fun y=>y.asL.bind fun es=>if (m && !imms es) || !decide (ds.length + es.length <= lineD) then .stuck else .ok (.nx,env.set i (some (.lst (ds ++ es))))
  | _=>.stuck
 | .eff e,env=>(evD call e env).bind fun _=>.ok (.nx,env)
 | .ret e,env=>(evD call e env).bind fun d=>.ok (.rt d,env)
 | .retN,env=>.ok (.rt .non,env)
 | .ite c a b,env=>(evD call c env).bind fun x=>match x with
  | .bl true=>exD call a env
  | .bl false=>exD call b env
  | _=>.stuck
 | .loop m ts nt src body,env=>(evD call src env).bind fun s=>s.asL.bind fun ds=>if m && (mutS body || !imms ds) then .stuck else forL ts nt (exD call body) ds env
 | .brk,env=>.ok (.bk,env)
 | .cnt,env=>.ok (.ct,env)
 | .raise c p,env=>(evD call p env).bind fun d=>if msgOk d then .ex c else .stuck
 | .whl n c body,env=>whlL (evD call c) (exD call body) n env
 | .put m t' i k v,env=>match env[i]? with
  | some (some (.dct t false ks vs))=>(evD call v env).bind fun y=>(evD call k env).bind fun x=>if (m && !y.imm) || !(t == t') || !keyD t x || !decide (ks.length < 1000) then .stuck else .ok (.nx,env.set i (some (.dct t false (putD x y ks vs).1 (putD x y ks vs).2)))
  | _=>.stuck
 | .tryC i e j cs,env=>catchC j cs env ((evD call e env).bind fun d=>.ok (.nx,env.set i (some d)))
 | .mov i j,env=>match env[j]? with
  | some (some (.lst ds))=>.ok (.nx,(env.set i (some (.lst ds))).set j none)
  | _=>.stuck
 | .sw is b,env=>swOut (exD call b (blankD is 0 env))
 | .seti i k v,env=>match env[i]? with
  | some (some (.lst ds))=>(evD call v env).bind fun y=>(evD call k env).bind fun x=>match x with
   | .int n=>match ixn ds.length n with
    | some j=>.ok (.nx,env.set i (some (.lst (ds.set j y))))
    | none=>.stuck
   | _=>.stuck
  | _=>.stuck
 | .popi t i k,env=>match env[i]? with
  | some (some (.lst ds))=>(evD call k env).bind fun x=>match x with
   | .int n=>match ixn ds.length n with
    | some j=>match ds[j]? with
     | some d=>.ok (.nx,(env.set i (some (.lst (ds.eraseIdx j)))).set t (some d))
     | none=>.stuck
    | none=>.stuck
   | _=>.stuck
  | _=>.stuck
 | .insi i k v,env=>match env[i]? with
  | some (some (.lst ds))=>(evD call k env).bind fun x=>(evD call v env).bind fun y=>match x with
   | .int n=>if midI n && decide (ds.length < 1000) then .ok (.nx,env.set i (some (.lst (cutD ds none (some n) ++ y :: cutD ds (some n) none)))) else .stuck
   | _=>.stuck
  | _=>.stuck
theorem JN {M:List Nat}:∀ (env:Fm) (j i:Nat),(blankD M j env)[i]? = (env[i]?).map fun s=>if j + i ∈ M then none else s
 | [],_,_=>by simp [blankD]
 | s :: env,j,0=>by simp [blankD]
 | s :: env,j,i + 1=>by
  have:=JN (M:=M) env (j + 1) i
  simp only [blankD,List.getElem?_cons_succ,this]
  rw [show j + 1 + i = j + (i + 1) by omega]
theorem JcO {nt:Nat} {d:D} {new:Fm} (h:bindT nt d = .ok new):new.length = if nt = 0 then 1 else nt:=by
 unfold bindT at h
 split at h
 ·rename_i q; cases h; simp [q]
 ·rename_i q
  split at h
  ·split at h
   ·rename_i e; cases h; simp [q,e]
   ·cases h
  ·cases h
theorem Jak {nt:Nat} {c e c' e':Fm -> Rs D} {env env':Fm} (hc:∀ new:Fm,new.length = (if nt = 0 then 1 else nt) -> c (new ++ env) = c' (new ++ env')) (he:∀ new:Fm,new.length = (if nt = 0 then 1 else nt) -> e (new ++ env) = e' (new ++ env')) :
  ∀ ds,compL nt c e env ds = compL nt c' e' env' ds
 | []=>rfl
 | d :: ds=>by
  have ih:=Jak hc he ds
  unfold compL
  cases hb:bindT nt d with
  | ok new=>
   have hl:=JcO hb
   simp only [Rs.bind_ok,hc new hl,he new hl,ih]
  | ex x=>rfl
  | stuck=>rfl
theorem Jdw (call:CallD):∀ (p:Px) (env env':Fm),(∀ i,usesP p i = true -> env[i]? = env'[i]?) -> evD call p env = evD call p env':=by
 intro p
 induction p with
 | var j=>intro env env' h; simp only [evD,h j (by simp [usesP])]
 | con d=>intro env env' h; rfl
 | un o a iha=>intro env env' h; simp only [evD,iha env env' fun i q=>h i (by simp [usesP,q])]
 | bi o a b iha ihb=>intro env env' h; simp only [evD,iha env env' fun i q=>h i (by simp [usesP,q]),ihb env env' fun i q=>h i (by simp [usesP,q])]
 | and a b iha ihb=>intro env env' h; simp only [evD,iha env env' fun i q=>h i (by simp [usesP,q]),ihb env env' fun i q=>h i (by simp [usesP,q])]
 | or a b iha ihb=>intro env env' h; simp only [evD,iha env env' fun i q=>h i (by simp [usesP,q]),ihb env env' fun i q=>h i (by simp [usesP,q])]
 | ite c a b ihc iha ihb=>intro env env' h; simp only [evD,ihc env env' fun i q=>h i (by simp [usesP,q]),iha env env' fun i q=>h i (by simp [usesP,q]),ihb env env' fun i q=>h i (by simp [usesP,q])]
 | nil=>intro env env' h; rfl
 | cons a b iha ihb=>intro env env' h; simp only [evD,iha env env' fun i q=>h i (by simp [usesP,q]),ihb env env' fun i q=>h i (by simp [usesP,q])]
 | tup a iha=>intro env env' h; simp only [evD,iha env env' fun i q=>h i (by simp [usesP,q])]
 | dis a iha=>intro env env' h; simp only [evD,iha env env' fun i q=>h i (by simp [usesP,q])]
 | call f a iha=>intro env env' h; simp only [evD,iha env env' fun i q=>h i (by simp [usesP,q])]
 | sl a b c iha ihb ihc=>intro env env' h; simp only [evD,iha env env' fun i q=>h i (by simp [usesP,q]),ihb env env' fun i q=>h i (by simp [usesP,q]),ihc env env' fun i q=>h i (by simp [usesP,q])]
 | walk a iha=>intro env env' h; simp only [evD,iha env env' fun i q=>h i (by simp [usesP,q])]
 | dsp t a b iha ihb=>intro env env' h; simp only [evD,iha env env' fun i q=>h i (by simp [usesP,q]),ihb env env' fun i q=>h i (by simp [usesP,q])]
 | callv fs a b iha ihb=>intro env env' h; simp only [evD,iha env env' fun i q=>h i (by simp [usesP,q]),ihb env env' fun i q=>h i (by simp [usesP,q])]
 | sortK f a iha=>intro env env' h; simp only [evD,iha env env' fun i q=>h i (by simp [usesP,q])]
 | told f cs a iha=>intro env env' h; simp only [evD,iha env env' fun i q=>h i (by simp [usesP,q])]
 | comp nt s c e ihs ihc ihe=>
  intro env env' h
  have app:∀ (u:Px),(∀ i,usesP u (i + (if nt = 0 then 1 else nt)) = true -> env[i]? = env'[i]?) -> ∀ new:Fm,new.length = (if nt = 0 then 1 else nt) -> ∀ i,usesP u i = true -> (new ++ env)[i]? = (new ++ env')[i]?:=fun u hu new hl i hi=>by
   by_cases q:i < new.length
   ·rw [List.getElem?_append_left q,List.getElem?_append_left q]
   ·rw [List.getElem?_append_right (by omega),List.getElem?_append_right (by omega)]
    refine hu _ ?_
    rw [show i - new.length + (if nt = 0 then 1 else nt) = i by omega]
    exact hi
  simp only [evD,ihs env env' fun i q=>h i (by simp [usesP,q])]
  rw [show compL nt (evD call c) (evD call e) env = compL nt (evD call c) (evD call e) env' from funext fun ds=>Jak (fun new hl=>ihc _ _ (app c (fun i q=>h i (by simp [usesP,q])) new hl)) (fun new hl=>ihe _ _ (app e (fun i q=>h i (by simp [usesP,q])) new hl)) ds]
theorem JO (call:CallD) {M:List Nat} {p:Px} (env:Fm) (h:sepP M p = true):evD call p (blankD M 0 env) = evD call p env:=by
 refine Jdw call p _ _ fun i hi=>?_
 have hn:i ∉ M:=fun hm=>by
  have:=List.all_eq_true.mp h i hm
  rw [hi] at this; simp at this
 rw [JN]
 simp only [Nat.zero_add,if_neg hn]
 cases env[i]? <;> rfl
def answerD:Rs (Fw × Fm) -> Rs D
 | .ok (.nx,_)=>.ok .non
 | .ok (.rt d,_)=>.ok d
 | .ok _=>.stuck
 | .ex c=>.ex c
 | .stuck=>.stuck
structure DefD where
 slots:Nat
 params:Nat
 body:Sx
def startD (n:Nat) (ds:List D):Fm:=ds.map some ++ List.replicate (n - ds.length) none
def runD (defs:List DefD):Nat -> CallD
 | 0=>fun _ _=>.stuck
 | k + 1=>fun f ds=>match defs[f]? with
  | some d=>if ds.length = d.params then answerD (exD (runD defs k) d.body (startD d.slots ds)) else .stuck
  | none=>.stuck
end Pu
namespace Pu
open PySem
theorem Rs.ofOpt_ex {α:Type} {o:Option α} {c:Str}:Rs.ofOpt o ≠ .ex c:=by cases o <;> simp [Rs.ofOpt]
theorem Jgv (o:O2) (a b:D) (c:Str):op2 o a b ≠ .ex c:=by
 unfold op2
 split
 all_goals repeat' (first | (intro h; cases h; done) | exact Rs.ofOpt_ex | split)
theorem Jdn (d:D) (c:Str):d.truth ≠ .ex c:=by
 unfold D.truth
 split
 all_goals repeat' (first | (intro h; cases h; done) | split)
theorem Jgb (f:D -> Bool) (d:D) (c:Str):isiD f d ≠ .ex c:=by
 unfold isiD
 split <;> (intro h; cases h)
theorem JdB (ds:List D) (c:Str):dictPD ds ≠ .ex c:=by
 unfold dictPD
 repeat' (first | (intro h; cases h; done) | split)
theorem Jgz (o:O1) (d:D) (c:Str):op1 o d ≠ .ex c:=by
 unfold op1
 split
 all_goals repeat' (first | (intro h; cases h; done) | exact Jgb _ _ _ | exact JdB _ _ | (intro h; cases q:D.truth _ with | ok b=>(rw [q] at h; cases h) | ex e=>exact Jdn _ _ q | stuck=>(rw [q] at h; cases h)) | split)
def noEx:Px -> Bool
 | .var _=>true
 | .con _=>true
 | .un _ a=>noEx a
 | .bi _ a b=>noEx a && noEx b
 | _=>false
theorem Jal (call:CallD):∀ (p:Px) (env:Fm) (c:Str),noEx p = true -> evD call p env ≠ .ex c
 | .var i,env,c,_=>by
  simp only [evD]
  cases env[i]? with
  | none=>intro h; cases h
  | some o=>cases o <;> (intro h; cases h)
 | .con d,env,c,_=>by simp only [evD]; intro h; cases h
 | .un o a,env,c,h=>by
  simp only [evD]
  cases q:evD call a env with
  | ok d=>exact Jgz o d c
  | ex e=>exact absurd q (Jal call a env e h)
  | stuck=>intro h; cases h
 | .bi o a b,env,c,h=>by
  simp only [noEx,Bool.and_eq_true] at h
  simp only [evD]
  cases q:evD call a env with
  | ok d=>
   simp only [Rs.bind_ok]
   cases q2:evD call b env with
   | ok d2=>exact Jgv o d d2 c
   | ex e=>exact absurd q2 (Jal call b env e h.2)
   | stuck=>intro h; cases h
  | ex e=>exact absurd q (Jal call a env e h.1)
  | stuck=>intro h; cases h
end Pu
namespace Pu
open PySem
def LtS (a b:Str):Prop:=a.cps.toList < b.cps.toList
theorem LtS.trans {a b c:Str} (h:LtS a b) (h':LtS b c):LtS a c:=List.lt_trans h h'
end Pu
namespace Rd
open PySem PySem.Spec PyProof.Rows L2 PySem.W
theorem HOk.onB {P:Program} {w:World} {H:Hp} {B h h':Heap} (ok:HOk P w H h) (tr:∀ b u,H b = some u -> ∃ o,B.get? b = some o) (k1:B.StaysIn h) (k2:B.StaysIn h'):HOk P w H h':=fun a o e=>
 ObjOk.stay (ok a o e) (fun b u hb q=>by
  have ht:∃ o,B.get? b = some o:=by
   rcases hb with rfl | hb
   ·exact tr _ _ e
   ·exact tr _ _ hb
  obtain ⟨ob,hob⟩:=ht
  have h1:=k1 b ob hob
  rw [q] at h1
  cases h1
  exact k2 b _ hob) (fun _ z=>z) (fun _ _ z=>z)
theorem ObjOk.has {P:Program} {w:World} {H:Hp} {h:Heap} {a:Addr} {o:HO} (x:ObjOk P w H h a o):∃ ob,h.get? a = some ob:=by
 cases o with
 | lst xs=>obtain ⟨_,_,_,_,e⟩:=x; exact ⟨_,e⟩
 | tup xs=>obtain ⟨_,_,_,ob,e,_⟩:=x; exact ⟨_,e⟩
 | dK kvs=>obtain ⟨_,_,_,_,ob,_,_,e,_⟩:=x; exact ⟨_,e⟩
 | dT kvs=>obtain ⟨_,_,_,_,ob,_,_,e,_⟩:=x; exact ⟨_,e⟩
 | set S n=>obtain ⟨ob,_,_,_,e,_⟩:=x; exact ⟨_,e⟩
 | ins C dx fs=>obtain ⟨_,_,_,e,_⟩:=x; exact ⟨_,e⟩
 | own y=>obtain ⟨_,e⟩:=x; exact ⟨_,e⟩
 | xd fs=>obtain ⟨_,⟨_,_,_,e,_⟩,_⟩:=x; exact ⟨_,e⟩
 | rng lo hi=>obtain ⟨_,_,_,e⟩:=x; exact ⟨_,e⟩
 | frz ob u=>obtain ⟨e,_⟩:=x; exact ⟨_,e⟩
 | tbl ps=>obtain ⟨_,_,_,_,e,_⟩:=x; exact ⟨_,e⟩
 | met f y=>exact ⟨_,(show h.get? a = some _ from x)⟩
 | ext φ=>obtain ⟨_,⟨_,e⟩,_⟩:=x; exact ⟨_,e⟩
theorem HOk.has {P:Program} {w:World} {H:Hp} {h:Heap} (ok:HOk P w H h) {b:Addr} {u:HO} (e:H b = some u):∃ o,h.get? b = some o:=ObjOk.has (ok b u e)
def CXr (P:Program) (w:World):CXT:=fun outer H s E e s'=>∃ (a C:Addr) (H':Hp) (B:Heap) (a0:Value),e = .ref a /\ s'.os = s.os /\ AllBare s'.gens /\ Un (frs outer) [] H H' s.heap s'.heap /\ HOk P w H' s'.heap /\
 Heap.FlyingW B outer a (.ref C) a0 s'.heap /\ (∀ b u,H' b = some u -> ∃ o,B.get? b = some o) /\ (∀ b o,s.heap.get? b = some o -> b ∉ frs outer -> (H b = none -> B.get? b = some o) /\ ∃ o',B.get? b = some o') /\ E (.ref C) none H'
def HeldA (B:Heap) (l:List Env) (e:Addr) (cls a0 fl:Value) (h:Heap):Prop:=B.StaysIn h /\ B.get? e = none /\ h.FunFrames B l /\ h.TracedAtW B e cls a0 fl
section
variable {M:Model} {A:Around} {E:Value -> Shared -> Prop} {s:Shared} {B:Heap} {env:Env} {outer:List Env} {L e:Addr} {cls a0 fl:Value} {Q:Unit -> Shared -> Prop}
theorem Jaz (hfr:A.frames = some (env :: outer)) (hf:env.frame = some L) (x:HeldA B (env :: outer) e cls a0 fl s.heap) (hQ:∀ h',Heap.HeldW B (env :: outer) e cls a0 L h' -> s.heap.UpToSlots h' -> Q () { s with heap:=h' }):wpAny M A (noteFrame (.ref e) env) Q E s:=by
 obtain ⟨f1,f2,f3,f4⟩:=x
 by_cases hv:fl = rawInt L
 ·subst hv
  exact wpAny_noteFrame_againW hf f4 (hQ s.heap ⟨f1,f2,f3,f4⟩ (Heap.UpToSlots.refl _))
 ·obtain ⟨oe,vs,T,oT,ts,he,⟨hc,h0⟩,hd,h1,hnT,hTe,hT,hdT,h3⟩:=f4
  subst hc
  unfold noteFrame
  simp only [hf]
  refine wpAny_bind (wpAny_field he hd h1 ?_)
  rw [if_pos (by simp)]
  refine wpAny_bind (wpAny_field hT hdT h3 ?_)
  rw [if_neg (by simpa using hv)]
  refine wpAny_bind (wpAny_setField hT hdT (Array.getElem?_eq_some_iff.mp h3).1 ?_)
  have oth:∀ b,b ≠ T -> (s.heap.update T (Obj.mapFields (·.setIfInBounds 3 Value.none))).get? b = s.heap.get? b:=fun b hb=>Heap.get?_update_other _ _ (Ne.symm hb)
  have nr:∀ b o,s.heap.get? b = some o -> (∀ vs,o.data ≠ .fields vs) -> b ≠ T:=fun b o hb hnf q=>by
   rw [q,hT] at hb
   injection hb with hb
   subst hb
   exact hnf ts hdT
  refine wpAny_entryW hfr (f3.of_keeps fun b o hb hnf=>⟨o,(oth b (nr b o hb hnf)).trans hb,rfl⟩) hf ((oth e (Ne.symm hTe)).trans he) (fun b o hbo=>(oth b fun q=>by
   rw [q,hnT] at hbo
   cases hbo).trans (f1 b o hbo)) f2 hd (Array.getElem?_eq_some_iff.mp h1).1 h0 fun h' hN=>?_
  obtain ⟨x1,x2,x3,x4⟩:=hN
  exact hQ h' ⟨x1,f2,x2,x3⟩ fun b o hb hnf=>x4 b o ((oth b (nr b o hb hnf)).trans hb) hnf
theorem JcB (hfr:A.frames = some (env :: outer)) (hf:env.frame = some L) (x:HeldA B (env :: outer) e cls a0 fl s.heap) (hQ:∀ h',Heap.FlyingW B outer e cls a0 h' -> s.heap.UpToSlots h' -> Q () { s with heap:=h' }):wpAny M A (leaving env (.ref e)) Q E s:=by
 unfold leaving
 refine wpAny_bind (Jaz hfr hf x fun h1 held up=>?_)
 refine wpAny_landsW held fun h2 fl2 up2=>?_
 obtain ⟨k1,k2,⟨_,_,k3⟩,k4⟩:=fl2
 exact hQ h2 ⟨k1,k2,k3,k4⟩ (up.trans up2)
end
structure FlyIn (X:Cx) (C a:Addr) (H':Hp) (s':Shared):Prop where
 inv:∃ pins σ,Inv X pins σ H' s' /\ ((∃ h vs,Heap.MadeExcOf h s'.heap a (.ref C) vs /\ Inv X pins σ H' { s' with heap:=h }) \/
  ∃ B a0 fl,HeldA B X.stack a (.ref C) a0 fl s'.heap /\ (∀ b u,H' b = some u -> ∃ o,B.get? b = some o) /\ (∀ b o,X.s₀.heap.get? b = some o -> b ∉ frs X.stack -> b ∉ X.ex -> (X.H₀ b = none -> B.get? b = some o) /\ ∃ o',B.get? b = some o') /\ ∀ p ∈ X.pn,B.get? p.1 = some p.2)
def cxE (CX:CXT) (P:Program) (w:World) (K:PySem.W.Frag) (mg:Str -> Option Value) (base:Heap) (N:List Str) (env:Env) (fn:Str -> Bool) (cm:Bool) (A:Around) (outer:List Env) (s:Shared) (H:Hp) (E:XK):Cx where
 prog:=P
 w:=w
 K:=K
 mg:=mg
 base:=base
 A:=A.deeper env
 N:=N
 s₀:=s
 H₀:=H
 env:=env
 outer:=outer
 stack:=env :: outer
 ex:=[]
 calm:=cm
 fn:=fn
 pn:=[]
 xe:=fun e s'=>wpAny (model P w) (A.deeper env) (leaving env e) (fun _ s''=>CX outer H s E e s'') (fun e' s''=>CX outer H s E e' s'') s'
section
variable {P:Program} {w:World} {K:PySem.W.Frag} {mg:Str -> Option Value} {base:Heap} {N:List Str} {env:Env} {fn:Str -> Bool} {cm:Bool} {A:Around} {outer:List Env} {s:Shared} {H H':Hp} {E:XK} {C a:Addr} {s':Shared}
theorem JbT (hf:env.frame = some s.heap.objs.size) {pins:List (Addr × Obj)} {σ:L2.St} {B h1 h':Heap} {a0:Value} (I:Inv (cxE (CXr P w) P w K mg base N env fn cm A outer s H E) pins σ H' { s' with heap:=h1 })
  (fl:Heap.FlyingW B outer a (.ref C) a0 h') (k1:B.StaysIn h1) (up:h1.UpToSlots h') (tr:∀ b u,H' b = some u -> ∃ o,B.get? b = some o)
  (kp:∀ b o,s.heap.get? b = some o -> b ∉ frs (env :: outer) -> (H b = none -> B.get? b = some o) /\ ∃ o',B.get? b = some o') (hE:E (.ref C) none H'):CXr P w outer H s E (.ref a) { s' with heap:=h' }:=by
 have hloc:∀ b o,s.heap.get? b = some o -> b ∉ frs outer -> b ∉ frs (env :: outer):=fun b o hb hn hm=>by
  unfold frs at hm
  rw [List.filterMap_cons,hf] at hm
  rcases List.mem_cons.mp hm with e | hm
  ·have:=Heap.lt_size hb
   rw [e] at this
   exact absurd this (Nat.lt_irrefl _)
  ·exact hn hm
 have u:=I.base
 refine ⟨a,C,H',B,a0,rfl,I.os,I.bare,⟨?_,?_,?_,?_,u.tups,u.frzs,u.tbls⟩,HOk.onB I.hok tr k1 fl.1,fl,tr,fun b o hb hn=>kp b o hb (hloc b o hb hn),hE⟩
 ·intro b o hb hn hf _
  exact fl.1 b o ((kp b o hb (hloc b o hb hf)).1 hn)
 ·intro b o hb hn hf _
  obtain ⟨sl,e1⟩:=u.slot b o hb hn hf (by show b ∉ ([]:List Addr); simp)
  obtain ⟨_,o1,ho1,hd⟩:=(show s.heap.FunFrames base outer from I.ok.funs).mem hf
  rw [hb] at ho1
  cases ho1
  obtain ⟨sl2,e2⟩:=up b _ e1 hd
  exact ⟨sl2,e2⟩
 ·intro b o hb hn _
  exact u.free b o hb hn (by show b ∉ ([]:List Addr); simp)
 ·intro b o hb _
  by_cases hf:b ∈ frs outer
  ·obtain ⟨_,o1,ho1,hd⟩:=(show s.heap.FunFrames base outer from I.ok.funs).mem hf
   rw [hb] at ho1
   cases ho1
   obtain ⟨sl,e1⟩:=u.slot b o hb (I.ok.frf b hf) hf (by show b ∉ ([]:List Addr); simp)
   obtain ⟨sl2,e2⟩:=up b _ e1 hd
   exact ⟨_,e2⟩
  ·obtain ⟨o',e⟩:=(kp b o hb (hloc b o hb hf)).2
   exact ⟨o',fl.1 b o' e⟩
theorem Jax (hf:env.frame = some s.heap.objs.size) (F:FlyIn (cxE (CXr P w) P w K mg base N env fn cm A outer s H E) C a H' s') (hE:E (.ref C) none H'):(cxE (CXr P w) P w K mg base N env fn cm A outer s H E).xe (.ref a) s':=by
 obtain ⟨pins,σ,I,hx⟩:=F.inv
 have hst:(cxE (CXr P w) P w K mg base N env fn cm A outer s H E).stack = env :: outer:=rfl
 show wpAny (model P w) (A.deeper (env)) (leaving (env) (.ref a)) _ _ s'
 have hfr:(A.deeper (env)).frames = some (env :: outer):=I.ok.frames
 rcases hx with ⟨h,vs,hm,Ih⟩ | ⟨B,a0,flv,fl,tr,kp,_⟩
 ·have hin:∀ e1 ∈ (env :: outer),∀ b,e1.frame = some b -> b ∈ frs (env :: outer):=fun e1 he b hb=>List.mem_filterMap.mpr ⟨e1,he,hb⟩
  have hk:(hideAll h (frs (env :: outer))).StaysIn h:=fun b o q=>of_hideAll _ q
  refine wpAny_leaves_madeW hfr hf hk (funFrames_hide Ih.stack hin) hm fun h' t fl _ _ up=>?_
  refine JbT hf (B:=hideAll h (frs (env :: outer))) (h1:=h) Ih fl hk ((Heap.UpToSlots.of_keeps hm.keeps).trans up) (fun b u e=>?_) (fun b o hb hn=>⟨fun h0=>?_,?_⟩) hE
  ·obtain ⟨o,ho⟩:=HOk.has Ih.hok e
   exact ⟨o,hideAll_get _ ho fun z=>by rw [Ih.stkFree b z] at e; cases e⟩
  ·refine hideAll_get _ (Ih.base.keep b o hb h0 (fun z=>hn ?_) (by show b ∉ ([]:List Addr); simp)) hn
   exact List.mem_filterMap.mpr (by obtain ⟨e,he,hf⟩:=List.mem_filterMap.mp z; exact ⟨e,.tail _ he,hf⟩)
  ·obtain ⟨o',e⟩:=Ih.base.there b o hb (by show b ∉ ([]:List Addr); simp)
   exact ⟨o',hideAll_get _ e hn⟩
 ·refine JcB hfr hf fl fun h' fl' up=>?_
  exact JbT hf (h1:=s'.heap) I fl' fl.1 up tr (fun b o hb hn=>kp b o hb hn (by show b ∉ ([]:List Addr); simp)) hE
end
theorem Jcb {P:Program} {w:World} {K:PySem.W.Frag} {mg:Str -> Option Value} {base:Heap} {N:List Str} {qual:Str} {scope:Scope} {f:Addr} {cd:Value} {A:Around} {outer:List Env} {s:Shared} {H H':Hp} {E:XK} {C a:Addr} {s':Shared} (F:FlyIn (cxOf (CXr P w) P w K mg base N qual scope f cd A outer s H E) C a H' s') (hE:E (.ref C) none H'):(cxOf (CXr P w) P w K mg base N qual scope f cd A outer s H E).xe (.ref a) s':=
 Jax (env:=envOfC qual scope s.heap.objs.size f cd) (fn:=fun _=>true) (cm:=true) rfl F hE
theorem Jac {X:Cx} {pins:List (Addr × Obj)} {σ:L2.St} {H:Hp} {s s':Shared} {E:XK} {e:Value} (I:Inv X pins σ H s) (h:CXr X.prog X.w X.stack H s E e s'):∃ a C H',e = .ref a /\ FlyIn X C a H' s' /\ E (.ref C) none H':=by
 obtain ⟨a,C,H',B,a0,rfl,ho,hg,u,hok,fl,tr,kp,hE⟩:=h
 have I':Inv X pins σ H' s':=I.call' ho u hok hg (fun b z=>absurd z (by simp))
 have hstk:∀ b,b ∉ X.fs -> b ≠ X.env.locals -> b ∉ frs X.stack:=fun b h1 h2 hm=>by
  rcases List.mem_cons.mp (I.stkSub b hm) with e | e
  ·exact h2 e
  ·exact h1 e
 refine ⟨a,C,H',rfl,⟨pins,σ,I',.inr ⟨B,a0,.none,fl,tr,fun b o hb hn hnx=>?_,fun p hp=>?_⟩⟩,hE⟩
 rotate_left
 ·obtain ⟨q1,q2,q3,q4,_⟩:=I.pin p (List.mem_append_left _ hp)
  exact (kp p.1 p.2 q1 (hstk p.1 q4 q3)).1 q2
 have hnf:b ∉ X.fs:=fun z=>hn (by
  rcases I.ok.stk with e | ⟨e,_⟩
  ·rw [e]; exact z
  ·rw [e]
   obtain ⟨e',he,hf⟩:=List.mem_filterMap.mp z
   exact List.mem_filterMap.mpr ⟨e',.tail _ he,hf⟩)
 constructor
 ·intro h0
  have e1:=I.base.keep b o hb h0 hnf hnx
  exact (kp b o e1 hn).1 (I.base.free b o hb h0 hnx)
 ·obtain ⟨o1,e1⟩:=I.base.there b o hb hnx
  exact (kp b o1 e1 hn).2
theorem Jas {M:Model} {A:Around} {E:Value -> Shared -> Prop} {s:Shared} {base h:Heap} {env:Env} {outer:List Env} {L e:Addr} {cls:Value} {args:List Value} {Q:Unit -> Shared -> Prop}
  (hfr:A.frames = some (env :: outer)) (hf:env.frame = some L) (hkb:base.StaysIn h) (hl:h.FunFrames base (env :: outer)) (hx:Heap.MadeExcOf h s.heap e cls args)
  (hQ:∀ h' a0,Heap.HeldW base (env :: outer) e cls a0 L h' -> s.heap.UpToSlots h' -> Q () { s with heap:=h' }):wpAny M A (noteFrame (.ref e) env) Q E s:=by
 obtain ⟨t,he,htn,ht⟩:=hx.there
 have fresh:∀ b,h.get? b = none -> base.get? b = none:=fun b hb=>by
  cases hq:base.get? b with
  | none=>rfl
  | some o'=>have:=hkb b o' hq; rw [hb] at this; cases this
 unfold noteFrame
 simp only [hf]
 refine wpAny_bind (wpAny_field (x:=Value.none) he rfl rfl ?_)
 rw [if_neg (show ¬ ((Value.none != Value.none) = true) by decide)]
 refine wpAny_entryW (a0:=.ref t) hfr (hl.of_keeps fun b o hb _=>⟨o,hx.keeps b o hb,rfl⟩) hf he (fun b o hb=>hx.keeps b o (hkb b o hb)) (fresh e hx.new) rfl (by show 1 < 6; decide) rfl fun h' hN=>?_
 obtain ⟨k1,k2,k3,k4⟩:=hN
 exact hQ h' (.ref t) ⟨k1,fresh e hx.new,k2,k3⟩ k4
theorem Jfz {K:PySem.W.Frag} {h:Heap} {C:Addr} {bs0:List Value} {nid:String} (kin:K.In h) (q:excIn K C bs0 nid = true) :
  ∃ (tl:List Value) (N:Addr) (nm qn:Str) (bs:List Value) (hd:Bool) (sn:List Str) (sub:List Value) (ab:Bool) (col:Option Bool) (dd:Option Addr) (k0 k1 k2 k3 k5:Option Value) (mN:Str -> Option Value),
   h.get? C = some (excClassObj nm qn C N bs tl hd sn sub ab col dd k0 k1 k2 k3 k5 nid) /\ h.Ns N mN /\ mN "__init__" = none /\ OwnTail h bs0 tl:=by
 unfold excIn at q
 split at q
 case h_2=>cases q
 case h_1 dd cd sl look=>
  split at q
  case h_2=>cases q
  case h_1 C1 tl k0 k1 k2 k3 n k5 hm hs=>
   simp only [Bool.and_eq_true,beq_iff_eq,Bool.not_eq_true'] at q
   have e1:=q.1.1.1.1.1
   have e2:=q.1.1.1.1.2
   have hdel:=q.1.1.1.2
   have ht:=q.1.1.2
   have hok:=q.1.2
   have hni:=q.2
   cases e1
   cases e2
   cases cd with
   | mk nm bs mro ns qn hd sn sub ab col del=>
    dsimp only at hm hdel hok hni
    cases hm
    cases hdel
    have hsl:sl = #[k0,k1,k2,k3,some (.builtin nid),k5]:=by
     cases sl with
     | mk l=>simp only at hs; rw [hs]
    cases hsl
    exact ⟨tl,ns,nm,qn,bs,hd,sn,sub,ab,col,dd,k0,k1,k2,k3,k5,_,kin _ _ look,.of_isNs (isNs_of_in kin hok),nsMap_none_of_in kin hok hni,tail_of_in kin ht⟩
section
variable {X:Cx} {x:Str} {C:Addr} {e:Expr} {te:TE} {np cpos pos:Pos} {bs0:List Value} {Bn nid iid:String}
theorem JdP (hcalm:X.calm = true) (hg:Gl X x) (hm:X.mg x = some (.ref C)) (hq:excIn X.K C bs0 nid = true) (FB:ExcBaseFacts Bn nid iid bs0) (ha:PE X e te) (hdb:(x == ("__debug__" : Str)) = false)
  (hs:starEach [e] X.env = (false,eval e X.env) :: starEach [] X.env:=by rfl):PS X (.Raise (some (.Call (.Name x np) [e] [] cpos)) none pos) (fun D σ H=>te σ H fun v H'=>([v]:List V).length = 1 /\ ∀ a s',FlyIn X C a H' s' -> X.xe (.ref a) s'):=by
 intro pins s σ H D I h
 obtain ⟨tl,N,nm,qn,bs,hd,sn,sub,ab,col,dd,k0,k1,k2,k3,k5,mN,hC,hN,hni,T⟩:=Jfz I.ok.mod.kin hq
 refine wpAny_Raise_call_subT (C:=C) (nm:=nm) (q:=qn) (N:=N) (bs:=bs) (bm:=tl) (hdct:=hd) (sn:=sn) (sub:=sub) (ab:=ab) (col:=col) (dd:=dd) (k0:=k0) (k1:=k1) (k2:=k2) (k3:=k3) (k5:=k5)
  FB (mN:=mN) (T.hasType FB.hasBase) (I.ok.hd hcalm) (by rw [hs]; rfl) hni (JR I hg hm ⟨rfl,?_⟩ hdb)
 have hA:=(Jt ha JJ hs) cpos pins s σ H (fun vs H'=>vs.length = 1 /\ ∀ a s',FlyIn X C a H' s' -> X.xe (.ref a) s') I h
 rw [hs] at hA ⊢
 refine Calls.evalArgs_plain (wpAny_mono hA (fun us s2 hp=>?_) fun _ _ z=>z)
 obtain ⟨vs,H2,I2,rv,hv,hx⟩:=hp
 have hl:us.length <= sizeLine:=by rw [<- rv.length,hv]; decide
 refine ⟨rfl,hl,I2.bk _ _ hC,hN.keeps I2.bk,T.keeps I2.bk,fun h' a hmade=>?_⟩
 exact hx a _ ⟨pins,σ,I2.kept (t':=s2.toks) hmade.keeps,.inl ⟨s2.heap,us,hmade,I2⟩⟩
end
end Rd
namespace Rd
open PySem PySem.Spec PyProof.Rows L2 Pu
def keyV:L2.Key -> D
 | .inl n=>.int n
 | .inr x=>.str x
def DK (H:Hp) (a:Addr) (t z:Bool) (ks:List D) (xs:List V):Prop:=match t with
 | true=>∃ kvs:List (List L2.Key × V),(match z with
  | true=>∃ o,H a = some (.frz o (.dT kvs))
  | false=>H a = some (.dT kvs)) /\ ks = kvs.map (fun p=>.tup (p.1.map keyV)) /\ xs = kvs.map (·.2)
 | false=>∃ kvs:List (L2.Key × V),(match z with
  | true=>∃ o,H a = some (.frz o (.dK kvs))
  | false=>H a = some (.dK kvs)) /\ ks = kvs.map (fun p=>keyV p.1) /\ xs = kvs.map (·.2)
theorem DK.mono {H H':Hp} {a:Addr} {t z:Bool} {ks:List D} {xs:List V} (e:∀ o,H a = some o -> H' a = some o) (h:DK H a t z ks xs):DK H' a t z ks xs:=by
 cases t <;> cases z <;> obtain ⟨kvs,h1,h2⟩:=h
 ·exact ⟨kvs,e _ h1,h2⟩
 ·exact ⟨kvs,let ⟨o,h⟩:=h1; ⟨o,e _ h⟩,h2⟩
 ·exact ⟨kvs,e _ h1,h2⟩
 ·exact ⟨kvs,let ⟨o,h⟩:=h1; ⟨o,e _ h⟩,h2⟩
mutual
def Rep (K:PySem.W.Frag) (H:Hp):D -> V -> Prop
 | .non,v=>v = .non
 | .bl b,v=>v = .bl b
 | .int i,v=>v = .int i
 | .str x,v=>v = .str x
 | .tup ds,v=>∃ a xs,v = .ref a /\ SqT K H a xs /\ Reps K H ds xs
 | .lst ds,v=>∃ a xs,v = .ref a /\ SqL K H a xs /\ Reps K H ds xs
 | .dct t z ks vs,v=>∃ a xs,v = .ref a /\ DK H a t z ks xs /\ Reps K H vs xs
 | .exc c,v=>∃ a o C,v = .ref a /\ H a = some (.frz o (.ext fun _=>True)) /\ o.cls = .ref C /\ PySem.W.nsIn K mainGlobals c = some (some (.ref C))
 | .fn x _,v=>∃ f,v = .ref f /\ PySem.W.nsIn K mainGlobals x = some (some (.ref f))
def Reps (K:PySem.W.Frag) (H:Hp):List D -> List V -> Prop
 | [],xs=>xs = []
 | d :: ds,xs=>∃ x r,xs = x :: r /\ Rep K H d x /\ Reps K H ds r
end
theorem SqT.same {K:PySem.W.Frag} {H H':Hp} {a:Addr} {xs:List V} (e:Same H H') (h:SqT K H a xs):SqT K H' a xs:=by
 rcases h with h | h
 ·exact .inl (e _ _ h)
 ·exact .inr h
mutual
theorem Rep.mono {K:PySem.W.Frag} {H H':Hp} (e:Same H H'):∀ (d:D) {v:V},Rep K H d v -> Rep K H' d v
 | .non,_,h=>h
 | .bl _,_,h=>h
 | .int _,_,h=>h
 | .str _,_,h=>h
 | .tup ds,_,⟨a,xs,e1,h1,h2⟩=>⟨a,xs,e1,SqT.same e h1,Reps.mono e ds h2⟩
 | .lst ds,_,⟨a,xs,e1,h1,h2⟩=>⟨a,xs,e1,e.seq h1,Reps.mono e ds h2⟩
 | .dct t z ks vs,_,⟨a,xs,e1,h1,h2⟩=>⟨a,xs,e1,h1.mono (e a),Reps.mono e vs h2⟩
 | .exc c,_,⟨a,o,C,e1,h1,h2⟩=>⟨a,o,C,e1,e _ _ h1,h2⟩
 | .fn x _,_,h=>h
theorem Reps.mono {K:PySem.W.Frag} {H H':Hp} (e:Same H H'):∀ (ds:List D) {xs:List V},Reps K H ds xs -> Reps K H' ds xs
 | [],_,h=>h
 | d :: ds,_,⟨x,r,e1,h1,h2⟩=>⟨x,r,e1,Rep.mono e d h1,Reps.mono e ds h2⟩
end
theorem Reps.length {K:PySem.W.Frag} {H:Hp}:∀ {ds:List D} {xs:List V},Reps K H ds xs -> xs.length = ds.length
 | [],_,h=>by cases h; rfl
 | d :: ds,_,⟨x,r,e1,h1,h2⟩=>by subst e1; simp [Reps.length h2]
theorem Reps.get {K:PySem.W.Frag} {H:Hp}:∀ {ds:List D} {xs:List V} {i:Nat} {d:D},Reps K H ds xs -> ds[i]? = some d -> ∃ x,xs[i]? = some x /\ Rep K H d x
 | [],_,_,_,_,e=>by simp at e
 | d :: ds,_,0,d',⟨x,r,e1,h1,h2⟩,e=>by subst e1; simp at e; subst e; exact ⟨x,rfl,h1⟩
 | d :: ds,_,i + 1,d',⟨x,r,e1,h1,h2⟩,e=>by
  subst e1
  obtain ⟨y,h3,h4⟩:=Reps.get (i:=i) h2 (by simpa using e)
  exact ⟨y,by simpa using h3,h4⟩
theorem Reps.get' {K:PySem.W.Frag} {H:Hp}:∀ {ds:List D} {xs:List V} {i:Nat} {x:V},Reps K H ds xs -> xs[i]? = some x -> ∃ d,ds[i]? = some d /\ Rep K H d x
 | [],_,_,_,h,e=>by cases h; simp at e
 | d :: ds,_,0,d',⟨x,r,e1,h1,h2⟩,e=>by subst e1; simp at e; subst e; exact ⟨d,rfl,h1⟩
 | d :: ds,_,i + 1,d',⟨x,r,e1,h1,h2⟩,e=>by
  subst e1
  obtain ⟨y,h3,h4⟩:=Reps.get' (i:=i) h2 (by simpa using e)
  exact ⟨y,by simpa using h3,h4⟩
theorem Reps.append {K:PySem.W.Frag} {H:Hp}:∀ {ds es:List D} {xs ys:List V},Reps K H ds xs -> Reps K H es ys -> Reps K H (ds ++ es) (xs ++ ys)
 | [],_,_,_,h,h'=>by cases h; exact h'
 | d :: ds,es,_,ys,⟨x,r,e1,h1,h2⟩,h'=>by subst e1; exact ⟨x,r ++ ys,rfl,h1,Reps.append h2 h'⟩
theorem Reps.take {K:PySem.W.Frag} {H:Hp}:∀ (n:Nat) {ds:List D} {xs:List V},Reps K H ds xs -> Reps K H (ds.take n) (xs.take n)
 | 0,_,_,h=>by simp [Reps]
 | n + 1,[],_,h=>by cases h; simp [Reps]
 | n + 1,d :: ds,_,⟨x,r,e1,h1,h2⟩=>by subst e1; exact ⟨x,r.take n,rfl,h1,Reps.take n h2⟩
theorem Reps.drop {K:PySem.W.Frag} {H:Hp}:∀ (n:Nat) {ds:List D} {xs:List V},Reps K H ds xs -> Reps K H (ds.drop n) (xs.drop n)
 | 0,_,_,h=>by simpa using h
 | n + 1,[],_,h=>by cases h; simp [Reps]
 | n + 1,d :: ds,_,⟨x,r,e1,h1,h2⟩=>by subst e1; exact Reps.drop n h2
theorem Reps.nil_iff {K:PySem.W.Frag} {H:Hp} {ds:List D} {xs:List V} (h:Reps K H ds xs):xs = [] ↔ ds = []:=by
 have:=h.length
 constructor
 ·intro e; subst e; cases ds with
  | nil=>rfl
  | cons _ _=>simp at this
 ·intro e; subst e; exact h
theorem Reps.one {K:PySem.W.Frag} {H:Hp} {d:D} {v:V} (h:Rep K H d v):Reps K H [d] [v]:=⟨v,[],rfl,h,rfl⟩
def Tups (K:PySem.W.Frag) (H H':Hp):Prop:=(∀ a xs,SqT K H a xs -> SqT K H' a xs) /\ ∀ a o u,H a = some (.frz o u) -> H' a = some (.frz o u)
theorem Tups.of {K:PySem.W.Frag} {H H':Hp} (e:Same H H'):Tups K H H':=⟨fun _ _ h=>SqT.same e h,fun _ _ _ h=>e _ _ h⟩
theorem Tups.trans {K:PySem.W.Frag} {H H1 H2:Hp} (a:Tups K H H1) (b:Tups K H1 H2):Tups K H H2:=⟨fun c o h=>b.1 c o (a.1 c o h),fun c o u h=>b.2 c o u (a.2 c o u h)⟩
mutual
theorem Rep.tups {K:PySem.W.Frag} {H H':Hp} (e:Tups K H H'):∀ (d:D) {v:V},d.imm = true -> Rep K H d v -> Rep K H' d v
 | .non,_,_,h=>h
 | .bl _,_,_,h=>h
 | .int _,_,_,h=>h
 | .str _,_,_,h=>h
 | .tup ds,_,i,⟨a,xs,e1,h1,h2⟩=>⟨a,xs,e1,e.1 _ _ h1,Reps.tups e ds (by simpa [D.imm] using i) h2⟩
 | .lst ds,_,i,_=>by simp [D.imm] at i
 | .dct t z ks vs,_,i,⟨a,xs,e1,h1,h2⟩=>by
  simp only [D.imm,Bool.and_eq_true] at i
  refine ⟨a,xs,e1,?_,Reps.tups e vs i.2 h2⟩
  obtain ⟨rfl,_⟩:=i
  cases t <;> obtain ⟨kvs,⟨o,h3⟩,h4⟩:=h1
  ·exact ⟨kvs,⟨o,e.2 _ _ _ h3⟩,h4⟩
  ·exact ⟨kvs,⟨o,e.2 _ _ _ h3⟩,h4⟩
 | .exc c,_,_,⟨a,o,C,e1,h1,h2⟩=>⟨a,o,C,e1,e.2 _ _ _ h1,h2⟩
 | .fn x _,_,_,h=>h
theorem Reps.tups {K:PySem.W.Frag} {H H':Hp} (e:Tups K H H'):∀ (ds:List D) {xs:List V},imms ds = true -> Reps K H ds xs -> Reps K H' ds xs
 | [],_,_,h=>h
 | d :: ds,_,i,⟨x,r,e1,h1,h2⟩=>by
  simp only [imms,Bool.and_eq_true] at i
  exact ⟨x,r,e1,Rep.tups e d i.1 h1,Reps.tups e ds i.2 h2⟩
end
def hid (L:List Addr) (H:Hp):Hp:=fun a=>if a ∈ L then none else H a
def Chgb:HO -> Prop
 | .lst _=>True
 | .dK _=>True
 | .dT _=>True
 | _=>False
def Ows (L:List Addr) (H:Hp):Prop:=∀ a ∈ L,∃ o,H a = some o /\ Chgb o
def ItOk (J:It):Prop:=∀ (L:List Addr) (i:Nat) (H:Hp) (x:V) (H':Hp),Ows L H -> J.yld i H x H' -> J.yld i (hid L H) x (hid L H')
section
variable {L L':List Addr} {H H' H1:Hp} {a:Addr} {o:HO}
theorem Jq (h:a ∉ L):hid L H a = H a:=by unfold hid; rw [if_neg h]
theorem JaI (h:a ∈ L):hid L H a = none:=by unfold hid; rw [if_pos h]
theorem JaU (h:hid L H a = some o):a ∉ L /\ H a = some o:=by
 unfold hid at h
 split at h
 ·cases h
 ·rename_i q; exact ⟨q,h⟩
theorem hid_same:Same (hid L H) H:=fun a o h=>(JaU h).2
theorem JeD (k:∀ a o,H a = some o -> a ∉ L -> H' a = some o /\ a ∉ L'):Same (hid L H) (hid L' H'):=fun a o h=>by
 obtain ⟨h1,h2⟩:=JaU h
 obtain ⟨q1,q2⟩:=k a o h2 h1
 rw [Jq q2]; exact q1
theorem Jfn:hid [] H = H:=by funext a; exact Jq (by simp)
end
def ReadOk (K:PySem.W.Frag) (H:Hp) (σ:L2.St) (env:Fm):Prop:=∀ (i:Nat) (d:D),env[i]? = some (some d) -> ∃ v,σ[i]? = some (some v) /\ Rep K H d v
theorem ReadOk.mono {K:PySem.W.Frag} {H H':Hp} {σ:L2.St} {env:Fm} (r:ReadOk K H σ env) (e:Same H H'):ReadOk K H' σ env:=fun i d h=>
 let ⟨v,h1,h2⟩:=r i d h
 ⟨v,h1,h2.mono e⟩
def XE (X:Cx) (C:Addr) (H:Hp):Prop:=∀ a s',FlyIn X C a H s' -> X.xe (.ref a) s'
def XW (X:Cx) (H:Hp) (c:Str):Prop:=∀ C H',X.mg c = some (.ref C) -> Same H H' -> XE X C H'
theorem XW.mono {X:Cx} {H H':Hp} {c:Str} (e:Same H H') (h:XW X H c):XW X H' c:=fun C H2 hm s=>h C H2 hm (e.trans s)
def Out (X:Cx) (H:Hp) (Q:VK) (d:D):Prop:=∀ v H',Same H H' -> Rep X.K H' d v -> Q v H'
theorem Out.mono {X:Cx} {H H1:Hp} {Q:VK} {d:D} (h:Out X H Q d) (e:Same H H1):Out X H1 Q d:=fun v H' e' r=>h v H' (e.trans e') r
theorem Out.now {X:Cx} {H:Hp} {Q:VK} {d:D} {v:V} (h:Out X H Q d) (r:Rep X.K H d v):Q v H:=h v H (Same.refl H) r
def tI (X:Cx) (call:CallD) (p:Px):TE:=fun σ H Q=>∃ env,ReadOk X.K H σ env /\ (evD call p env).Good (Out X H Q) (XW X H)
def tT (X:Cx) (call:CallD) (p:Px):TT:=fun σ H Q=>∃ env,ReadOk X.K H σ env /\ (evD call p env).Good (fun d=>∃ b,d = .bl b /\ ∀ H',Same H H' -> Q b H') (XW X H)
def tA (X:Cx) (call:CallD) (p:Px):TA:=fun σ H Q=>∃ env,ReadOk X.K H σ env /\ (evD call p env).Good (fun d=>∃ ds,d = .lst ds /\ ∀ vs H',Same H H' -> Reps X.K H' ds vs -> Q vs H') (XW X H)
section
variable {X:Cx} {call:CallD} {e a b c:Expr} {es:List Expr} {p pa pb pc:Px} {pos:Pos}
theorem PE.weak {t t':TE} (h:PE X e t) (hm:∀ σ H Q,t' σ H Q -> t σ H Q):PE X e t':=fun pins s σ H Q I hw=>h pins s σ H Q I (hm σ H Q hw)
theorem PT.weak {t t':TT} (h:PT X e t) (hm:∀ σ H Q,t' σ H Q -> t σ H Q):PT X e t':=fun pins s σ H Q I hw=>h pins s σ H Q I (hm σ H Q hw)
theorem PW.weak {t t':TT} (h:PW X e t) (hm:∀ σ H Q,t' σ H Q -> t σ H Q):PW X e t':=fun w pins s σ H Q I hw=>h w pins s σ H Q I (hm σ H Q hw)
theorem PA.weak {t t':TA} (h:PA X es t) (hm:∀ σ H Q,t' σ H Q -> t σ H Q):PA X es t':=fun p pins s σ H Q I hw=>h p pins s σ H Q I (hm σ H Q hw)
theorem tI.then {σ:L2.St} {H:Hp} {env:Fm} {Q:VK} {k:D -> Rs D} (r:ReadOk X.K H σ env) (h:((evD call p env).bind k).Good (Out X H Q) (XW X H)) {Q':VK}
  (hk:∀ d v H',Same H H' -> Rep X.K H' d v -> ReadOk X.K H' σ env -> (k d).Good (Out X H' Q) (XW X H') -> Q' v H'):tI X call p σ H Q':=by
 refine ⟨env,r,(Rs.good_bind.mp h).imp fun d hd v H' s rv=>hk d v H' s rv (r.mono s) (hd.mono (fun d' o=>o.mono s) fun c x=>x.mono s)⟩
theorem JeO {i:Nat} {x:Str} (hN:X.N[i]? = some x) (hv:Vis X.env.scope x) (hd:(x == ("__debug__" : Str)) = false) (hcd:(x == ("__classdict__" : Str)) = false):PE X (.Name x pos) (tI X call (.var i)):=by
 refine PE.weak (Jbm hN hv hd hcd) fun σ H Q ⟨env,r,h⟩=>?_
 simp only [evD] at h
 cases q:env[i]? with
 | none=>rw [q] at h; exact h.elim
 | some o=>
  cases o with
  | none=>rw [q] at h; exact h.elim
  | some d=>
   rw [q] at h
   obtain ⟨v,h1,h2⟩:=r i d q
   exact ⟨v,h1,Out.now h h2⟩
theorem Jf {i:Int} {j}:PE X (.Constant (.int i) j pos) (tI X call (.con (.int i))):=PE.weak Jhm fun σ H Q ⟨env,r,h⟩=>Out.now h rfl
theorem Jaq {i:Bool} {j}:PE X (.Constant (.bool i) j pos) (tI X call (.con (.bl i))):=PE.weak pe_bl fun σ H Q ⟨env,r,h⟩=>Out.now h rfl
theorem Jdc {j}:PE X (.Constant .none j pos) (tI X call (.con .non)):=PE.weak JgH fun σ H Q ⟨env,r,h⟩=>Out.now h rfl
theorem Jb {x:Str} {j}:PE X (.Constant (.str x) j pos) (tI X call (.con (.str x))):=PE.weak Jff fun σ H Q ⟨env,r,h⟩=>Out.now h rfl
def GlobIs (X:Cx) (x:Str) (d:D):Prop:=∃ v u,X.mg x = some u /\ RelV v u /\ ∀ H,Rep X.K H d v
theorem Jfj {x:Str} {d:D} (hg:Gl X x) (h:GlobIs X x d) (hd:(x == ("__debug__" : Str)) = false):PE X (.Name x pos) (tI X call (.con d)):=by
 obtain ⟨v,u,hm,r,hv⟩:=h
 exact PE.weak (JdK hg hm r hd) fun σ H Q ⟨env,r,h⟩=>Out.now h (hv H)
def rD2 (X:Cx) (o:O2):R2:=fun x y H Q=>∃ dx dy,Rep X.K H dx x /\ Rep X.K H dy y /\ (op2 o dx dy).Good (Out X H Q) (XW X H)
theorem tI.two {o:O2} {σ:L2.St} {H:Hp} {Q:VK} (h:tI X call (.bi o pa pb) σ H Q):tOp (rD2 X o) (tI X call pa) (tI X call pb) σ H Q:=by
 obtain ⟨env,r,h⟩:=h
 simp only [evD] at h
 refine tI.then r h fun dx x H1 s1 r1 q1 h1=>?_
 refine tI.then q1 h1 fun dy y H2 s2 r2 q2 h2=>?_
 exact ⟨dx,dy,r1.mono s2,r2,h2⟩
theorem Jbt {o:O2} {op:Operator} (ho:OpR X (binaryOp op) (rD2 X o)) (ha:PE X a (tI X call pa)) (hb:PE X b (tI X call pb)):PE X (.BinOp a op b pos) (tI X call (.bi o pa pb)):=
 PE.weak (JhE ho ha hb) fun σ H Q h=>h.two
theorem JcL {o:O2} {op:CmpOp} (ho:OpR X (compareOp op) (rD2 X o)) (ha:PE X a (tI X call pa)) (hb:PE X b (tI X call pb)) (hm:behindInMarks op b = false):PE X (.Compare a [op] [b] pos) (tI X call (.bi o pa pb)):=
 PE.weak (JfN ho ha hb hm) fun σ H Q h=>h.two
theorem tT.asTest {σ:L2.St} {H:Hp} {Q:Bool -> Hp -> Prop} (h:tT X call p σ H Q):tI X call p σ H fun x H'=>∃ k,x = .bl k /\ Q k H':=by
 obtain ⟨env,r,h⟩:=h
 refine ⟨env,r,h.imp fun d hd v H' s rv=>?_⟩
 obtain ⟨b,e,q⟩:=hd
 subst e
 exact ⟨b,rv,q H' s⟩
theorem Jar {o:O2} {op:CmpOp} (ho:OpR X (compareOp op) (rD2 X o)) (ha:PE X a (tI X call pa)) (hb:PE X b (tI X call pb)) (hm:behindInMarks op b = false):PT X (.Compare a [op] [b] pos) (tT X call (.bi o pa pb)):=
 PT.weak (Jga ho ha hb hm) fun σ H Q h=>h.asTest.two
theorem pI_ix {o:O2} (hr:IxR X (rD2 X o)) (ha:PE X a (tI X call pa)) (hb:PE X b (tI X call pb)) (hs:PlainIx b):PE X (.Subscript a b pos) (tI X call (.bi o pa pb)):=
 PE.weak (pe_ix hr ha hb hs) fun σ H Q h=>h.two
theorem tT.and {σ:L2.St} {H:Hp} {Q:Bool -> Hp -> Prop} (h:tT X call (.and pa pb) σ H Q):tAnd (tT X call pa) (tT X call pb) σ H Q:=by
 obtain ⟨env,r,h⟩:=h
 simp only [evD] at h
 refine ⟨env,r,(Rs.good_bind.mp h).imp fun d hd=>?_⟩
 cases d with
 | bl b=>
  refine ⟨b,rfl,fun H' s=>?_⟩
  cases b with
  | true=>exact iteT ⟨env,r.mono s,hd.mono (fun d ⟨b',e,q⟩=>⟨b',e,fun H2 s2=>q H2 (s.trans s2)⟩) fun c x=>x.mono s⟩
  | false=>
   obtain ⟨b',e,q⟩:=hd
   cases e
   exact iteF (q H' s)
 | _=>exact hd.elim
theorem tT.or {σ:L2.St} {H:Hp} {Q:Bool -> Hp -> Prop} (h:tT X call (.or pa pb) σ H Q):tOr (tT X call pa) (tT X call pb) σ H Q:=by
 obtain ⟨env,r,h⟩:=h
 simp only [evD] at h
 refine ⟨env,r,(Rs.good_bind.mp h).imp fun d hd=>?_⟩
 cases d with
 | bl b=>
  refine ⟨b,rfl,fun H' s=>?_⟩
  cases b with
  | false=>exact iteF ⟨env,r.mono s,hd.mono (fun d ⟨b',e,q⟩=>⟨b',e,fun H2 s2=>q H2 (s.trans s2)⟩) fun c x=>x.mono s⟩
  | true=>
   obtain ⟨b',e,q⟩:=hd
   cases e
   exact iteT (q H' s)
 | _=>exact hd.elim
theorem Jah {op} (ha:PT X a (tT X call pa)):PW X (.BoolOp op [a] pos) (tT X call pa):=by
 cases op
 ·exact JfF ha
 ·exact JgP ha
theorem JbN {rest:List Expr} (ha:PT X a (tT X call pa)) (hb:PW X (.BoolOp .And (b :: rest) pos) (tT X call pb)):PW X (.BoolOp .And (a :: b :: rest) pos) (tT X call (.and pa pb)):=
 PW.weak (JgR ha hb) fun σ H Q h=>h.and
theorem JfQ {rest:List Expr} (ha:PT X a (tT X call pa)) (hb:PW X (.BoolOp .Or (b :: rest) pos) (tT X call pb)):PW X (.BoolOp .Or (a :: b :: rest) pos) (tT X call (.or pa pb)):=
 PW.weak (pw_or ha hb) fun σ H Q h=>h.or
theorem JbQ (ha:PT X a (tT X call pa)):PT X (.UnaryOp .Not a pos) (tT X call (.un .not pa)):=by
 refine PT.weak (Jgq ha) fun σ H Q ⟨env,r,h⟩=>?_
 simp only [evD] at h
 refine ⟨env,r,(Rs.good_bind.mp h).imp fun d hd=>?_⟩
 cases d with
 | bl b=>
  obtain ⟨b',e,q⟩:=hd
  cases e
  exact ⟨b,rfl,q⟩
 | _=>exact hd.elim
theorem JfS {K:PySem.W.Frag} {H:Hp} {d:D} {v:V} {b:Bool} (r:Rep K H d v) (h:d.truth = .ok b):TruV K v H b:=by
 cases d with
 | non=>cases r; simp only [D.truth] at h; cases h; rfl
 | bl c=>cases r; simp only [D.truth] at h; cases h; rfl
 | int i=>cases r; simp only [D.truth] at h; cases h; rfl
 | str x=>
  cases r
  simp only [D.truth] at h
  split at h
  ·rename_i q
   cases h
   exact ⟨by rw [sizeLine_eq]; exact q,rfl⟩
  ·cases h
 | tup ds=>
  obtain ⟨a,xs,rfl,h1,h2⟩:=r
  simp only [D.truth] at h
  cases h
  refine .inr (.inl ⟨xs,h1,?_⟩)
  have:=h2.length
  cases ds <;> cases xs <;> simp_all
 | lst ds=>
  obtain ⟨a,xs,rfl,h1,h2⟩:=r
  simp only [D.truth] at h
  cases h
  refine .inl ⟨xs,h1,?_⟩
  have:=h2.length
  cases ds <;> cases xs <;> simp_all
 | _=>simp only [D.truth] at h; cases h
theorem Jed {d:D} {c:Str} (h:d.truth = .ex c):False:=by
 cases d <;> simp only [D.truth] at h <;> first | cases h | (split at h <;> cases h)
theorem JfL {d:D} {c:Str} (h:d.walk = .ex c):False:=by
 cases d <;> simp only [D.walk] at h <;> cases h
theorem JQ (ha:PE X a (tI X call pa)) (he:∀ whole,isTrue a X.env whole = (do let v <- whole; standAt a.pos; holding [v] (truthy v))):PT X a (tT X call (.un .truth pa)):=by
 refine PT.weak (JdS ha he) fun σ H Q ⟨env,r,h⟩=>?_
 simp only [evD] at h
 refine ⟨env,r,(Rs.good_bind.mp h).imp fun d hd v H' s rv=>?_⟩
 simp only [op1] at hd
 cases ht:d.truth with
 | ok b=>
  rw [ht] at hd
  obtain ⟨b',e,q⟩:=hd
  cases e
  exact ⟨b,JfS rv ht,q H' s⟩
 | ex c=>exact (Jed ht).elim
 | stuck=>rw [ht] at hd; exact hd.elim
theorem JeQ {op} (ha:PE X a (tI X call pa)):PE X (.BoolOp op [a] pos) (tI X call pa):=JhG ha
theorem Jhn {rest:List Expr} (ha:PE X a (tI X call pa)) (hb:PE X (.BoolOp .And (b :: rest) pos) (tI X call pb)):PE X (.BoolOp .And (a :: b :: rest) pos) (tI X call (.and pa pb)):=by
 refine PE.weak (JgS ha hb) fun σ H Q ⟨env,r,h⟩=>?_
 simp only [evD] at h
 refine tI.then r h fun d v H' s rv q hd=>?_
 cases d with
 | bl b=>
  cases rv
  refine ⟨b,rfl,?_⟩
  cases b with
  | true=>exact iteT ⟨env,q,hd⟩
  | false=>exact iteF (Out.now hd rfl)
 | _=>exact hd.elim
theorem pI_or {rest:List Expr} (ha:PE X a (tI X call pa)) (hb:PE X (.BoolOp .Or (b :: rest) pos) (tI X call pb)):PE X (.BoolOp .Or (a :: b :: rest) pos) (tI X call (.or pa pb)):=by
 refine PE.weak (pe_or ha hb) fun σ H Q ⟨env,r,h⟩=>?_
 simp only [evD] at h
 refine tI.then r h fun d v H' s rv q hd=>?_
 cases d with
 | bl b=>
  cases rv
  refine ⟨b,rfl,?_⟩
  cases b with
  | true=>exact iteT (Out.now hd rfl)
  | false=>exact iteF ⟨env,q,hd⟩
 | _=>exact hd.elim
theorem JhJ (ha:PE X a (tI X call pa)):PE X (.UnaryOp .Not a pos) (tI X call (.un .not pa)):=by
 refine PE.weak (Jgx ha) fun σ H Q ⟨env,r,h⟩=>?_
 simp only [evD] at h
 refine tI.then r h fun d v H' s rv q hd=>?_
 cases d with
 | bl b=>cases rv; exact ⟨b,rfl,Out.now hd rfl⟩
 | _=>exact hd.elim
theorem pI_if (hc:PT X c (tT X call pc)) (ha:PE X a (tI X call pa)) (hb:PE X b (tI X call pb)):PE X (.IfExp c a b pos) (tI X call (.ite pc pa pb)):=by
 refine PE.weak (JeK hc ha hb) fun σ H Q ⟨env,r,h⟩=>?_
 simp only [evD] at h
 refine ⟨env,r,(Rs.good_bind.mp h).imp fun d hd=>?_⟩
 cases d with
 | bl b=>
  refine ⟨b,rfl,fun H' s=>?_⟩
  cases b with
  | true=>exact iteT ⟨env,r.mono s,hd.mono (fun d o=>o.mono s) fun c x=>x.mono s⟩
  | false=>exact iteF ⟨env,r.mono s,hd.mono (fun d o=>o.mono s) fun c x=>x.mono s⟩
 | _=>exact hd.elim
theorem Jc:PA X [] (tA X call .nil):=by
 refine PA.weak JJ fun σ H Q ⟨env,r,h⟩=>?_
 obtain ⟨ds,e,q⟩:=h
 cases e
 exact q [] H (Same.refl H) rfl
theorem Ja (ha:PE X e (tI X call pa)) (hr:PA X es (tA X call pb)) (hs:starEach (e :: es) X.env = (false,eval e X.env) :: starEach es X.env:=by rfl):PA X (e :: es) (tA X call (.cons pa pb)):=by
 refine PA.weak (Jt ha hr hs) fun σ H Q ⟨env,r,h⟩=>?_
 simp only [evD] at h
 refine ⟨env,r,(Rs.good_bind.mp h).imp fun d hd v H' s rv=>?_⟩
 refine ⟨env,r.mono s,((Rs.good_bind.mp hd).imp fun y hy=>?_).mono (fun _ x=>x) fun c x=>x.mono s⟩
 cases y with
 | lst ds=>
  refine ⟨ds,rfl,fun vs H2 s2 rs=>?_⟩
  obtain ⟨ds',e,q⟩:=hy
  cases e
  exact q (v :: vs) H2 (s.trans s2) ⟨v,vs,rfl,rv.mono s2,rs⟩
 | _=>exact hy.elim
theorem JbD {H:Hp} {a:Addr} {ds:List D} {xs:List V} {K:PySem.W.Frag} (h:H a = none) (r:Reps K H ds xs):Same H (upd H a (.tup xs)) /\ Rep K (upd H a (.tup xs)) (.tup ds) (.ref a):=by
 have s:Same H (upd H a (.tup xs)):=fun b o e=>by rw [Jh (Je e h)]; exact e
 exact ⟨s,a,xs,rfl,SqT.of Jm,r.mono s⟩
theorem Jea {H:Hp} {a:Addr} {ds:List D} {xs:List V} {K:PySem.W.Frag} (h:H a = none) (r:Reps K H ds xs):Same H (upd H a (.lst xs)) /\ Rep K (upd H a (.lst xs)) (.lst ds) (.ref a):=by
 have s:Same H (upd H a (.lst xs)):=fun b o e=>by rw [Jh (Je e h)]; exact e
 exact ⟨s,a,xs,rfl,SqL.of Jm,r.mono s⟩
theorem Jl {k:Nat} (h:PA X es (tA X call p)):PE X (.Tuple es k pos) (tI X call (.tup p)):=by
 refine PE.weak (JhI h) fun σ H Q ⟨env,r,h⟩=>?_
 simp only [evD] at h
 refine ⟨env,r,(Rs.good_bind.mp h).imp fun d hd=>?_⟩
 cases d with
 | lst ds=>
  simp only [D.asL,Rs.bind_ok] at hd
  refine ⟨ds,rfl,fun vs H' s rs=>?_⟩
  split at hd
  ·rename_i hz
   refine ⟨by rw [rs.length,sizeLine_eq]; exact hz,fun a ha=>?_⟩
   obtain ⟨s2,r2⟩:=JbD ha rs
   exact hd _ _ (s.trans s2) r2
  ·exact hd.elim
 | _=>exact hd.elim
def OutF (X:Cx) (H:Hp) (Q:VK) (d:D):Prop:=∃ ds,d = .lst ds /\ ∀ l xs H',Same H H' -> H l = none -> H' l = some (.lst xs) -> Reps X.K H' ds xs -> Q (.ref l) H'
def tF (X:Cx) (call:CallD) (p:Px):TE:=fun σ H Q=>∃ env,ReadOk X.K H σ env /\ (evD call p env).Good (OutF X H Q) (XW X H)
end
end Rd
namespace Rd
open PySem PySem.Spec PyProof.Rows L2 Pu
structure Gw where
 prog:Program
 w:World
 K:PySem.W.Frag
 mg:Str -> Option Value
 base:Heap
 A:Around
def gwOf (X:Cx):Gw:=⟨X.prog,X.w,X.K,X.mg,X.base,X.A⟩
def visB (nm:List (Str × NameKind)) (x:Str):Bool:=match nm.lookup x with
 | some .local=>true
 | some .cell=>true
 | some .free=>true
 | _=>false
def celB (nm:List (Str × NameKind)) (x:Str):Bool:=match nm.lookup x with
 | some .cell=>true
 | some .free=>true
 | _=>false
def locB (nm:List (Str × NameKind)) (x:Str):Bool:=match nm.lookup x with
 | some .local=>true
 | some .cell=>true
 | _=>false
def gloB (nm:List (Str × NameKind)) (x:Str):Bool:=match nm.lookup x with
 | some .globalImplicit=>true
 | _=>false
structure Ctx (X:Cx) (G:Gw) (N:List Str) (nm:List (Str × NameKind)):Prop where
 g:gwOf X = G
 hN:X.N = N
 nd:N.Nodup
 vis:∀ x,visB nm x = true -> Vis X.env.scope x
 cel:∀ x,celB nm x = true -> X.env.kindOf x = some .cell \/ X.env.kindOf x = some .free
 glo:∀ x,gloB nm x = true -> Gl X x
 sto:∀ x,locB nm x = true -> Loc X.env.scope x /\ (X.fn x = true \/ X.env.scope.names.lookup x = some .local)
 calm:X.calm = true
 un:X.A.units + 64 < cLine
 fr:∃ e0 out0 L,X.stack = e0 :: out0 /\ e0.frame = some L /\ X.env.frame = some L
theorem Ctx.K {X:Cx} {G:Gw} {N:List Str} {nm:List (Str × NameKind)} (C:Ctx X G N nm):X.K = G.K:=by rw [<- C.g]; rfl
theorem Ctx.mg {X:Cx} {G:Gw} {N:List Str} {nm:List (Str × NameKind)} (C:Ctx X G N nm):X.mg = G.mg:=by rw [<- C.g]; rfl
def Walk (K:PySem.W.Frag) (J:It) (H:Hp) (ds:List D):Prop:=∀ H',Same H H' ->
 (∀ i,i < ds.length -> J.go i H') /\ J.stop ds.length H' /\ ∀ i x H'',i < ds.length -> J.yld i H' x H'' -> Same H' H'' /\ ∃ d,ds[i]? = some d /\ Rep K H'' d x
def tW (X:Cx) (call:CallD) (p:Px):TI:=fun σ H R=>∃ env,ReadOk X.K H σ env /\ (evD call p env).Good (fun d=>∃ ds,d = .lst ds /\ ∀ J H',Same H H' -> Walk X.K J H' ds -> ItOk J -> R J H') (XW X H)
def closL (cs:List (Str × Addr)):List (Str × NameKind) -> List (Str × Addr) -> List (Str × Addr)
 | [],acc=>acc
 | (n,k) :: r,acc=>match k,cs.lookup n with
  | .free,some a=>closL cs r ((n,a) :: acc)
  | _,_=>closL cs r acc
theorem JA {env:Env}:∀ (names:List (Str × NameKind)) (acc:List (Str × Addr)),(∀ y ∈ names,y.2 = .free -> ∃ c,env.cells.lookup y.1 = some c) ->
  (forIn names acc fun x r=>if (x.2 == NameKind.free) = true then do let a <- cellOf env x.1; pure (ForInStep.yield ((x.1,a) :: r)) else pure (ForInStep.yield r):Sem (List (Str × Addr))) = pure (closL env.cells names acc)
 | [],acc,_=>rfl
 | (n,k) :: r,acc,h=>by
  rw [List.forIn_cons]
  by_cases hk:k = .free
  ·subst hk
   obtain ⟨c,hc⟩:=h (n,.free) (.head _) rfl
   have hc':env.cells.lookup n = some c:=hc
   have e1:cellOf env n = pure c:=by unfold cellOf; rw [hc']
   simp only [beq_self_eq_true,if_true,e1]
   have ih:=JA r ((n,c) :: acc) fun y hy=>h y (.tail _ hy)
   simp only [closL,hc']
   exact ih
  ·have hb:(k == NameKind.free) = false:=by simpa using hk
   simp only [hb,Bool.false_eq_true,if_false]
   have ih:=JA r acc fun y hy=>h y (.tail _ hy)
   have e2:closL env.cells ((n,k) :: r) acc = closL env.cells r acc:=by
    cases k <;> first | rfl | exact absurd rfl hk
   rw [e2]
   exact ih
theorem JaE {scope:Scope} {env:Env} (h:∀ y ∈ scope.names,y.2 = .free -> ∃ c,env.cells.lookup y.1 = some c):closureFor scope env = pure (closL env.cells scope.names []):=by
 have e:=JA (env:=env) scope.names [] h
 unfold closureFor
 simp only [bind_pure]
 exact e
theorem JE {cs:List (Str × Addr)}:∀ (names:List (Str × NameKind)) (acc:List (Str × Addr)),(∀ x c,acc.lookup x = some c -> cs.lookup x = some c) -> ∀ x c,(closL cs names acc).lookup x = some c -> cs.lookup x = some c
 | [],acc,h=>h
 | (n,k) :: r,acc,h=>by
  intro x c
  have keep:=JE r acc h x c
  unfold closL
  split
  ·rename_i a ha
   refine JE r _ (fun y d e=>?_) x c
   by_cases hy:y = n
   ·subst hy
    simp only [List.lookup_cons,beq_self_eq_true] at e
    cases e
    exact ha
   ·have hb:(y == n) = false:=by simpa using hy
    simp only [List.lookup_cons,hb] at e
    exact h y d e
  ·exact keep
theorem JW {cs:List (Str × Addr)}:∀ (names:List (Str × NameKind)) (acc:List (Str × Addr)) (x:Str),(∃ c,acc.lookup x = some c) -> ∃ c,(closL cs names acc).lookup x = some c
 | [],acc,x,h=>h
 | (n,k) :: r,acc,x,h=>by
  unfold closL
  split
  ·refine JW r _ x ?_
   by_cases hy:x = n
   ·subst hy; exact ⟨_,by simp only [List.lookup_cons,beq_self_eq_true]; rfl⟩
   ·have hb:(x == n) = false:=by simpa using hy
    obtain ⟨c,hc⟩:=h
    exact ⟨c,by simp only [List.lookup_cons,hb]; exact hc⟩
  ·exact JW r acc x h
theorem Jz {cs:List (Str × Addr)}:∀ (names:List (Str × NameKind)) (acc:List (Str × Addr)) (x:Str),(x,NameKind.free) ∈ names -> (∃ c,cs.lookup x = some c) -> ∃ c,(closL cs names acc).lookup x = some c
 | [],acc,x,h,_=>nomatch h
 | (n,k) :: r,acc,x,h,hc=>by
  rcases List.mem_cons.mp h with e | h'
  ·cases e
   obtain ⟨c,hc⟩:=hc
   unfold closL
   rw [hc]
   exact JW r _ _ ⟨c,by simp only [List.lookup_cons,beq_self_eq_true]⟩
  ·unfold closL
   split
   ·exact Jz r _ x h' hc
   ·exact Jz r acc x h' hc
def relk (env:Env) (p:Str × NameKind):Str × NameKind:=if (p.2 == NameKind.free && env.scope.kind == .function && env.kindOf p.1 == some .cell) = true then (p.1,NameKind.cell) else (p.1,p.2)
theorem JbA (env:Env) (n:Str) (k:NameKind):relk env (n,k) = (n,k) \/ (k = .free /\ relk env (n,k) = (n,.cell)):=by
 unfold relk
 split
 ·rename_i hc
  simp only [Bool.and_eq_true,beq_iff_eq] at hc
  exact .inr ⟨hc.1.1,rfl⟩
 ·exact .inl rfl
theorem JaV (scope:Scope) (env:Env):(relabel scope env).names = scope.names.map (relk env):=rfl
theorem JL {env:Env} {x:Str}:∀ {names:List (Str × NameKind)} {k:NameKind},names.lookup x = some k -> (names.map (relk env)).lookup x = some k \/ (k = .free /\ (names.map (relk env)).lookup x = some .cell)
 | [],_,h=>by simp at h
 | (n,k') :: r,k,h=>by
  rw [List.map_cons]
  by_cases hx:x = n
  ·subst hx
   simp only [List.lookup_cons,beq_self_eq_true] at h
   cases h
   rcases JbA env x k' with e | ⟨e1,e⟩
   ·rw [e]; exact .inl (by simp only [List.lookup_cons,beq_self_eq_true])
   ·rw [e]; exact .inr ⟨e1,by simp only [List.lookup_cons,beq_self_eq_true]⟩
  ·have hb:(x == n) = false:=by simpa using hx
   simp only [List.lookup_cons,hb] at h
   have ih:=JL (env:=env) h
   rcases JbA env n k' with e | ⟨_,e⟩ <;> rw [e] <;> simp only [List.lookup_cons,hb] <;> exact ih
theorem Jbf {env:Env} {x:Str}:∀ {names:List (Str × NameKind)},names.lookup x = none -> (names.map (relk env)).lookup x = none
 | [],_=>rfl
 | (n,k') :: r,h=>by
  rw [List.map_cons]
  by_cases hx:x = n
  ·subst hx; simp only [List.lookup_cons,beq_self_eq_true] at h; cases h
  ·have hb:(x == n) = false:=by simpa using hx
   simp only [List.lookup_cons,hb] at h
   have ih:=Jbf (env:=env) h
   rcases JbA env n k' with e | ⟨_,e⟩ <;> rw [e] <;> simp only [List.lookup_cons,hb] <;> exact ih
theorem Jj {scope:Scope} {env:Env} {x:Str} {k:NameKind} (h:scope.names.lookup x = some k):(relabel scope env).names.lookup x = some k \/ (k = .free /\ (relabel scope env).names.lookup x = some .cell):=JL h
theorem Jr {scope:Scope} {env:Env} {x:Str} {k:NameKind} (h:(relabel scope env).names.lookup x = some k):scope.names.lookup x = some k \/ (k = .cell /\ scope.names.lookup x = some .free):=by
 rw [JaV] at h
 cases q:scope.names.lookup x with
 | none=>rw [Jbf q] at h; cases h
 | some k'=>
  rcases JL (env:=env) q with z | ⟨z1,z2⟩
  ·rw [z] at h; cases h; exact .inl rfl
  ·rw [z2] at h; cases h; subst z1; exact .inr ⟨rfl,rfl⟩
theorem mem_of_lookup {α:Type}:∀ {l:List (Str × α)} {x:Str} {a:α},l.lookup x = some a -> (x,a) ∈ l
 | [],_,_,h=>by simp at h
 | (n,b) :: r,x,a,h=>by
  by_cases hx:x = n
  ·subst hx; simp only [List.lookup_cons,beq_self_eq_true] at h; cases h; exact .head _
  ·have hb:(x == n) = false:=by simpa using hx
   simp only [List.lookup_cons,hb] at h
   exact .tail _ (mem_of_lookup h)
theorem Jbi {prog:Program} {w:World} {A:Around} {R:Result -> Shared -> Prop} {s:Shared} {elt target iter:Expr} {ifs:List Expr} {scope:Scope} {pos:Pos} {it acc:Value} {env:Env} (I:Nat -> Shared -> Prop)
  (turn:∀ n s,I n s -> wpAny (model prog w) A (pyNext it) (fun r s₁=>match r with
   | none=>R (.ok .next) s₁
   | some v=>wpAny (model prog w) A (letOwnedTupleGo target it v) (fun _ s₁'=>wpAny (model prog w) A (assign target env v) (fun _ s₂=>
     wpAny (model prog w) A (forIn ifs true fun c r=>if r = true then do let ok <- isTrue c env (eval c env); pure (ForInStep.yield ok) else pure (ForInStep.yield r)) (fun ok s₃=>
      if ok = true then wpAny (model prog w) A (eval elt env) (fun x s₄=>
       wpAny (model prog w) A (PySem.call (.builtin "list.append") [acc,x]) (fun _ s₅=>∃ m,m < n /\ I m s₅) (notedBy (model prog w) A env fun e s'=>R (.error e) s') s₄) (notedBy (model prog w) A env fun e s'=>R (.error e) s') s₃
      else ∃ m,m < n /\ I m s₃) (notedBy (model prog w) A env fun e s'=>R (.error e) s') s₂) (notedBy (model prog w) A env fun e s'=>R (.error e) s') s₁') (notedBy (model prog w) A env fun e s'=>R (.error e) s') s₁) (notedBy (model prog w) A env fun e s'=>R (.error e) s') s)
  (n:Nat) (h:I n s) :
  codeAny (model prog w) A (.compLoop (.ListComp elt [⟨target,iter,ifs,0⟩] scope pos) 0 it acc env) R s:=by
 refine codeAny_loop rfl I (fun n s hI=>?_) n h
 show wpAny _ A ((compTurn (.ListComp elt [⟨target,iter,ifs,0⟩] scope pos) 0 it acc env).onRaise (fun x=>do noteFrame x env; theTreesLotGoes x)) _ _ s
 refine wpAny_noted ?_
 rw [compTurn_list]
 refine wpAny_bind (wpAny_standAt (wpAny_bind (wpAny_mono (turn n s hI) (fun r s₁ h₁=>?_) fun _ _ h'=>h')))
 cases r with
 | none=>exact wpAny_pure h₁
 | some v=>
  refine wpAny_bind (wpAny_mono h₁ (fun _ s₁' h₁'=>?_) fun _ _ h'=>h')
  refine wpAny_bind (wpAny_mono h₁' (fun _ s₂ h₂=>wpAny_bind (wpAny_mono h₂ (fun ok s₃ h₃=>?_) fun _ _ h'=>h')) fun _ _ h'=>h')
  cases ok with
  | false=>exact wpAny_pure ⟨rfl,h₃⟩
  | true=>
   exact wpAny_bind (wpAny_bind (wpAny_mono h₃ (fun x s₄ h₄=>wpAny_bind (wpAny_mono h₄ (fun _ s₅ h₅=>wpAny_pure (wpAny_pure ⟨rfl,h₅⟩)) fun _ _ h'=>h')) fun _ _ h'=>h'))
def dum (n:Str):Str:=⟨n.cps.push 0⟩
def hidN (ls N:List Str):List Str:=N.map fun n=>if ls.contains n then dum n else n
theorem JbJ:∀ (names:List (Str × NameKind)) (n:Nat) (acc:List (Str × Addr)) (x:Str) (c:Addr),(cellsFrom n names acc).lookup x = some c -> acc.lookup x = some c \/ (n <= c /\ (x,NameKind.cell) ∈ names)
 | [],_,_,_,_,h=>.inl h
 | (y,k) :: r,n,acc,x,c,h=>by
  unfold cellsFrom at h
  split at h
  ·rename_i hk
   rw [beq_iff_eq] at hk
   subst hk
   rcases JbJ r (n + 1) _ x c h with q | ⟨q1,q2⟩
   ·by_cases hx:x = y
    ·subst hx
     simp only [List.lookup_cons,beq_self_eq_true,Option.some.injEq] at q
     subst q
     exact .inr ⟨Nat.le_refl _,by simp⟩
    ·have hb:(x == y) = false:=by simpa using hx
     simp only [List.lookup_cons,hb] at q
     exact .inl q
   ·exact .inr ⟨Nat.le_of_succ_le q1,by simp [q2]⟩
  ·rcases JbJ r n acc x c h with q | ⟨q1,q2⟩
   ·exact .inl q
   ·exact .inr ⟨q1,by simp [q2]⟩
theorem Jdx:∀ (names:List (Str × NameKind)) (n:Nat) (acc:List (Str × Addr)),(∀ x c,acc.lookup x = some c -> c < n) -> (∀ x y c,acc.lookup x = some c -> acc.lookup y = some c -> x = y) -> ∀ x y c,(cellsFrom n names acc).lookup x = some c -> (cellsFrom n names acc).lookup y = some c -> x = y
 | [],_,_,_,h=>h
 | (z,k) :: r,n,acc,hlt,h=>by
  unfold cellsFrom
  split
  ·refine Jdx r (n + 1) _ (fun x c e=>?_) fun x y c e1 e2=>?_
   ·by_cases hx:x = z
    ·subst hx
     simp only [List.lookup_cons,beq_self_eq_true,Option.some.injEq] at e
     subst e; exact Nat.lt_succ_self _
    ·have hb:(x == z) = false:=by simpa using hx
     simp only [List.lookup_cons,hb] at e
     exact Nat.lt_succ_of_lt (hlt x c e)
   ·by_cases hx:x = z <;> by_cases hy:y = z
    ·rw [hx,hy]
    ·subst hx
     have hb:(y == x) = false:=by simpa using hy
     simp only [List.lookup_cons,beq_self_eq_true,Option.some.injEq] at e1
     simp only [List.lookup_cons,hb] at e2
     subst e1
     exact absurd (hlt y _ e2) (Nat.lt_irrefl _)
    ·subst hy
     have hb:(x == y) = false:=by simpa using hx
     simp only [List.lookup_cons,beq_self_eq_true,Option.some.injEq] at e2
     simp only [List.lookup_cons,hb] at e1
     subst e2
     exact absurd (hlt x _ e1) (Nat.lt_irrefl _)
    ·have hb:(x == z) = false:=by simpa using hx
     have hb2:(y == z) = false:=by simpa using hy
     simp only [List.lookup_cons,hb] at e1
     simp only [List.lookup_cons,hb2] at e2
     exact h x y c e1 e2
  ·exact Jdx r n acc hlt h
theorem JbK:∀ (names:List (Str × NameKind)) (n:Nat) (acc:List (Str × Addr)) (x:Str),(x,NameKind.cell) ∉ names -> (cellsFrom n names acc).lookup x = acc.lookup x
 | [],_,_,_,_=>rfl
 | (y,k) :: r,n,acc,x,h=>by
  unfold cellsFrom
  split
  ·rename_i hk
   rw [beq_iff_eq] at hk
   rw [JbK r _ _ x fun q=>h (by simp [q])]
   have hx:x ≠ y:=fun e=>h (by simp [e,hk])
   have hb:(x == y) = false:=by simpa using hx
   simp only [List.lookup_cons,hb]
  ·exact JbK r _ _ x fun q=>h (by simp [q])
theorem JaT:∀ (names:List (Str × NameKind)) (n:Nat) (acc:List (Str × Addr)) (x:Str),(∃ c,acc.lookup x = some c) -> ∃ c,(cellsFrom n names acc).lookup x = some c
 | [],_,_,_,h=>h
 | (y,k) :: r,n,acc,x,h=>by
  unfold cellsFrom
  split
  ·refine JaT r _ _ x ?_
   by_cases hx:x = y
   ·exact ⟨n,by simp [List.lookup_cons,hx]⟩
   ·have hb:(x == y) = false:=by simpa using hx
    simpa only [List.lookup_cons,hb] using h
  ·exact JaT r _ _ x h
theorem Jfa:∀ (names:List (Str × NameKind)) (n:Nat) (acc:List (Str × Addr)) (x:Str),(x,NameKind.cell) ∈ names -> ∃ c,(cellsFrom n names acc).lookup x = some c
 | [],_,_,_,h=>by cases h
 | (y,k) :: r,n,acc,x,h=>by
  unfold cellsFrom
  rcases List.mem_cons.mp h with q | q
  ·cases q
   simp only [beq_self_eq_true,if_true]
   exact JaT r _ _ _ ⟨n,by simp [List.lookup_cons]⟩
  ·split <;> exact Jfa r _ _ x q
theorem Jby:∀ (names:List (Str × NameKind)) (h:Heap) (acc:List (Str × Addr)) (x:Str) (c:Addr),(cellsFrom h.objs.size names acc).lookup x = some c -> acc.lookup x = some c \/ (h.objs.size <= c /\ (pushCells h names).IsCell c none)
 | [],_,_,_,_,e=>.inl e
 | (y,k) :: r,h,acc,x,c,e=>by
  unfold cellsFrom at e
  unfold pushCells
  split at e
  ·rename_i hk
   rw [if_pos hk]
   have hsz:(h.push { cls:=.type "cell",data:=.cell none }).objs.size = h.objs.size + 1:=Heap.size_push ..
   rw [<- hsz] at e
   rcases Jby r (h.push { cls:=.type "cell",data:=.cell none }) _ x c e with q | ⟨q1,q2⟩
   ·by_cases hx:x = y
    ·subst hx
     simp only [List.lookup_cons,beq_self_eq_true,Option.some.injEq] at q
     subst q
     exact .inr ⟨Nat.le_refl _,_,pushCells_keeps _ _ _ _ (Heap.get?_push_size _ rfl),rfl⟩
    ·have hb:(x == y) = false:=by simpa using hx
     simp only [List.lookup_cons,hb] at q
     exact .inl q
   ·exact .inr ⟨by omega,q2⟩
  ·rename_i hk
   rw [if_neg hk]
   exact Jby r h acc x c e
theorem Jda {lo:Nat}:∀ (names:List (Str × NameKind)) (n:Nat) (acc:List (Str × Addr)) (x:Str),lo <= n -> ((x,NameKind.cell) ∈ names \/ ∀ c,acc.lookup x = some c -> lo <= c) -> ∀ c,(cellsFrom n names acc).lookup x = some c -> lo <= c
 | [],_,_,_,_,h,c,e=>by
  rcases h with h | h
  ·cases h
  ·exact h c e
 | (y,k) :: r,n,acc,x,hn,h,c,e=>by
  unfold cellsFrom at e
  split at e
  ·refine Jda r (n + 1) _ x (Nat.le_succ_of_le hn) ?_ c e
   by_cases hx:x = y
   ·refine .inr fun c' e'=>?_
    subst hx
    simp only [List.lookup_cons,beq_self_eq_true,Option.some.injEq] at e'
    subst e'; exact hn
   ·have hb:(x == y) = false:=by simpa using hx
    rcases h with h | h
    ·rcases List.mem_cons.mp h with q | q
     ·cases q; exact absurd rfl hx
     ·exact .inl q
    ·refine .inr fun c' e'=>?_
     simp only [List.lookup_cons,hb] at e'
     exact h c' e'
  ·rename_i hk
   refine Jda r n acc x hn ?_ c e
   rcases h with h | h
   ·rcases List.mem_cons.mp h with q | q
    ·cases q; exact absurd (beq_self_eq_true _) hk
    ·exact .inl q
   ·exact .inr h
def cxComp (X:Cx) (ls:List Str) (scope:Scope) (C:Addr) (s:Shared) (H:Hp) (fp:List Addr) (E:Value -> Shared -> Prop):Cx:=
 { X with N:=ls ++ hidN ls X.N,s₀:=s,H₀:=H,env:=compEnvC scope (cellsFrom (C + 1) scope.names (closL X.env.cells scope.names [])) C X.env,outer:=X.stack,ex:=fp,fn:=fun x=>scope.names.lookup x == some .cell,pn:=[],xe:=E }
def scOkB (N:List Str) (nm:List (Str × NameKind)) (ls:List Str) (sc:List (Str × NameKind)):Bool:=
 sc.all fun y=>(y.2 != .cell || (sc.lookup y.1 == some .cell && ls.contains y.1)) && (y.2 != .free || celB nm y.1) && (y.2 != .local || (sc.lookup y.1 == some .local && (ls.contains y.1 || !N.contains y.1)))
structure ScOk (N:List Str) (nm:List (Str × NameKind)) (ls:List Str) (sc:Scope):Prop where
 kind:sc.kind = .function
 nd:(ls ++ hidN ls N).Nodup
 all:scOkB N nm ls sc.names = true
 no:∀ n ∈ N,ls.contains n = true -> sc.names.lookup (dum n) = none
section
variable {N:List Str} {nm:List (Str × NameKind)} {ls:List Str} {sc:Scope}
theorem ScOk.at (h:ScOk N nm ls sc) {y:Str × NameKind} (hy:y ∈ sc.names):(y.2 = .cell -> sc.names.lookup y.1 = some .cell /\ y.1 ∈ ls) /\ (y.2 = .free -> celB nm y.1 = true) /\ (y.2 = .local -> sc.names.lookup y.1 = some .local /\ (y.1 ∈ ls \/ y.1 ∉ N)):=by
 have q:=List.all_eq_true.mp h.all y hy
 simp only [Bool.and_eq_true,bne_iff_ne,Bool.or_eq_true,beq_iff_eq,Bool.not_eq_true',List.contains_eq_mem,decide_eq_true_eq,decide_eq_false_iff_not] at q
 refine ⟨fun e=>?_,fun e=>?_,fun e=>?_⟩
 ·rcases q.1.1 with z | z
  ·exact absurd e z
  ·exact z
 ·rcases q.1.2 with z | z
  ·exact absurd e z
  ·exact z
 ·rcases q.2 with z | z
  ·exact absurd e z
  ·exact z
theorem ScOk.fcell (h:ScOk N nm ls sc) {x:Str} (hx:sc.names.lookup x = some .free):(x,NameKind.cell) ∉ sc.names:=fun q=>by
 have:=((h.at q).1 rfl).1
 rw [hx] at this; cases this
variable {X:Cx} {G:Gw}
theorem ScOk.cells (h:ScOk N nm ls sc) (C:Ctx X G N nm) (ok:X.Ok):∀ y ∈ sc.names,y.2 = .free -> ∃ c,X.env.cells.lookup y.1 = some c:=fun y hy e=>ok.has _ (C.cel _ ((h.at hy).2.1 e))
theorem Jen {Cd:Addr} {s:Shared} {H:Hp} {fp:List Addr} {E:Value -> Shared -> Prop} (C:Ctx X G N nm) (h:ScOk N nm ls sc):Ctx (cxComp X ls sc Cd s H fp E) G (ls ++ hidN ls N) sc.names where
 g:=C.g
 hN:=by show ls ++ hidN ls X.N = _; rw [C.hN]
 nd:=h.nd
 vis:=fun x hx=>by
  show Vis (relabel sc X.env) x
  unfold visB at hx
  split at hx
  ·rename_i e
   rcases Jj (env:=X.env) e with z | ⟨z,_⟩
   ·exact .inl z
   ·cases z
  ·rename_i e
   rcases Jj (env:=X.env) e with z | ⟨z,_⟩
   ·exact .inr (.inl z)
   ·cases z
  ·rename_i e
   rcases Jj (env:=X.env) e with z | ⟨_,z⟩
   ·exact .inr (.inr z)
   ·exact .inr (.inl z)
  ·cases hx
 cel:=fun x hx=>by
  show (relabel sc X.env).names.lookup x = some .cell \/ (relabel sc X.env).names.lookup x = some .free
  unfold celB at hx
  split at hx
  ·rename_i e
   rcases Jj (env:=X.env) e with z | ⟨z,_⟩
   ·exact .inl z
   ·cases z
  ·rename_i e
   rcases Jj (env:=X.env) e with z | ⟨_,z⟩
   ·exact .inr z
   ·exact .inl z
  ·cases hx
 glo:=fun x hx=>by
  show (relabel sc X.env).names.lookup x = some .globalImplicit
  unfold gloB at hx
  split at hx
  ·rename_i e
   rcases Jj (env:=X.env) e with z | ⟨z,_⟩
   ·exact z
   ·cases z
  ·cases hx
 sto:=fun x hx=>by
  show Loc (relabel sc X.env) x /\ ((sc.names.lookup x == some .cell) = true \/ (relabel sc X.env).names.lookup x = some .local)
  unfold locB at hx
  split at hx
  ·rename_i e
   rcases Jj (env:=X.env) e with z | ⟨z,_⟩
   ·exact ⟨.inl z,.inr z⟩
   ·cases z
  ·rename_i e
   rcases Jj (env:=X.env) e with z | ⟨z,_⟩
   ·exact ⟨.inr z,.inl (by rw [e]; rfl)⟩
   ·cases z
  ·cases hx
 calm:=C.calm
 un:=C.un
 fr:=C.fr
abbrev listObj (its:List Value) (n:Nat):Obj:={ cls:=.type "list",dict:=none,data:=.seq its.toArray n }
theorem JdV {pins:List (Addr × Obj)} {σ:L2.St} {H:Hp} {s:Shared} {h₁:Heap} {tk:Nat} {fp:List Addr} {E:Value -> Shared -> Prop} {m:Str -> Option Value} {Cd:Addr} {h0:Heap} (C:Ctx X G N nm) (h:ScOk N nm ls sc) (hh:h₁ = pushCells h0 sc.names) (h0s:h0.objs.size = Cd + 1) (I:Inv X pins σ H s)
  (hf:∀ b ∈ fp,FpOk X pins H b) (ho:∀ b ∈ fp,∃ o,s.heap.get? b = some o) (hC:Cd = s.heap.objs.size + 1) (hns:h₁.Ns Cd m) (keep:∀ b o,s.heap.get? b = some o -> h₁.get? b = some o)
  (hacc:h₁.get? s.heap.objs.size = some (listObj [] 0)) :
  Inv (cxComp X ls sc Cd s H fp E) [(s.heap.objs.size,listObj [] 0)] (List.replicate ls.length none ++ σ) H { s with heap:=h₁,toks:=tk }:=by
 subst hC
 have sub:∀ x c,(closL X.env.cells sc.names []).lookup x = some c -> X.env.cells.lookup x = some c:=JE sc.names [] fun x c e=>by simp at e
 have old':∀ x c,(closL X.env.cells sc.names []).lookup x = some c -> c < s.heap.objs.size:=fun x c e=>by
  obtain ⟨v,o,h1,h2⟩:=I.cell x c (sub x c e)
  exact Heap.lt_size h1
 have sub':∀ x c,(cellsFrom (s.heap.objs.size + 1 + 1) sc.names (closL X.env.cells sc.names [])).lookup x = some c -> X.env.cells.lookup x = some c \/ (s.heap.objs.size + 1 + 1 <= c /\ h₁.IsCell c none):=fun x c e=>by
  rw [<- h0s] at e
  rcases Jby sc.names h0 _ x c e with q | ⟨q1,q2⟩
  ·exact .inl (sub x c q)
  ·exact .inr ⟨h0s ▸ q1,hh ▸ q2⟩
 have stk:∀ b ∈ frs X.stack,b < s.heap.objs.size:=fun b hb=>by
  obtain ⟨_,o,ho,_⟩:=I.stack.mem hb
  exact Heap.lt_size ho
 refine ⟨⟨I.ok.mod,h.kind,I.ok.glob,I.ok.blt,Nat.le_succ _,Jdx _ _ _ (fun x c e=>Nat.lt_succ_of_lt (Nat.lt_succ_of_lt (old' x c e))) fun x y c e1 e2=>I.ok.inj x y c (sub x c e1) (sub y c e2),fun x hk=>?_,fun x c z e=>?_,I.ok.hd,I.ok.frames,.inl rfl,fun b hb=>?_,I.bs,Nat.le_trans I.ok.bsz I.sz,fun b o e hb=>?_,fun b hb hz=>?_,I.stack,I.stkFree⟩,
  rfl,I.bare,Un.kept keep,⟨m,hns,fun i x v hN hσ hv=>?_⟩,fun x c e=>?_,?_,fun x c e=>?_,fun p hp=>?_,I.hok.kept keep,?_⟩
 ·-- every cell name has its cell
  have hk':(relabel sc X.env).names.lookup x = some .cell \/ (relabel sc X.env).names.lookup x = some .free:=hk
  have hfr:sc.names.lookup x = some .free \/ sc.names.lookup x = some .cell:=by
   rcases hk' with z | z
   ·rcases Jr z with q | ⟨_,q⟩
    ·exact .inr q
    ·exact .inl q
   ·rcases Jr z with q | ⟨q,_⟩
    ·exact .inl q
    ·cases q
  rcases hfr with hfr | hfr
  ·have hm:=mem_of_lookup hfr
   exact JaT _ _ _ _ (Jz sc.names [] x hm (h.cells C I.ok (x,.free) hm rfl))
  ·exact Jfa _ _ _ _ (mem_of_lookup hfr)
 ·have z':sc.names.lookup x = some .cell:=by
   have z2:(sc.names.lookup x == some .cell) = true:=z
   simpa using z2
  have e':(cellsFrom (s.heap.objs.size + 1 + 1) sc.names (closL X.env.cells sc.names [])).lookup x = some c:=e
  have:=Jda (lo:=s.heap.objs.size + 1 + 1) _ _ _ _ (Nat.le_refl _) (.inl (mem_of_lookup z')) c e'
  show s.heap.objs.size <= c
  omega
 ·obtain ⟨o,e⟩:=ho b hb
  refine ⟨Nat.ne_of_lt (Nat.lt_succ_of_lt (Heap.lt_size e)),fun x c e'=>?_⟩
  rcases sub' x c e' with q | ⟨q,_⟩
  ·exact (hf b hb).2.2.2.2.1 x c q
  ·have:=Heap.lt_size e
   exact fun ee=>Nat.lt_irrefl _ (Nat.lt_of_lt_of_le (Nat.lt_succ_of_lt (Nat.lt_succ_of_lt this)) (ee ▸ q))
 ·rcases (hf b hb).2.2.2.1 with z | z
  ·exact I.ok.noex b o e z
  ·exact absurd (Nat.lt_of_lt_of_le (Heap.lt_size (I.ok.bs b o e).1) z) (Nat.lt_irrefl _)
 ·rcases List.mem_cons.mp (I.stkSub b hz) with z | z
  ·exact (hf b hb).2.1 z
  ·exact (hf b hb).2.2.1 z
 ·-- a name that the block sees
  have hN':(ls ++ hidN ls X.N)[i]? = some x:=hN
  by_cases hi:i < ls.length
  ·rw [List.getElem?_append_left (by simpa using hi)] at hσ
   rw [List.getElem?_replicate] at hσ
   split at hσ <;> cases hσ
  ·have hi':ls.length <= i:=Nat.le_of_not_lt hi
   rw [List.getElem?_append_right hi'] at hN'
   rw [List.getElem?_append_right (by simpa using hi')] at hσ
   rw [List.length_replicate] at hσ
   obtain ⟨hN',hxl⟩:X.N[i - ls.length]? = some x /\ x ∉ ls:=by
    unfold hidN at hN'
    rw [List.getElem?_map] at hN'
    cases q:X.N[i - ls.length]? with
    | none=>rw [q] at hN'; cases hN'
    | some n=>
     rw [q] at hN'
     simp only [Option.map_some,Option.some.injEq] at hN'
     by_cases hc:ls.contains n = true
     ·rw [if_pos hc] at hN'
      have hno:=h.no n (by rw [<- C.hN]; exact List.mem_of_getElem? q) hc
      rw [hN'] at hno
      have hv':(relabel sc X.env).names.lookup x = some .local \/ (relabel sc X.env).names.lookup x = some .cell \/ (relabel sc X.env).names.lookup x = some .free:=hv
      exfalso
      rcases hv' with z | z | z <;> rcases Jr z with q | ⟨_,q⟩ <;> (rw [hno] at q; cases q)
     ·rw [if_neg hc] at hN'
      subst hN'
      exact ⟨rfl,by simpa using hc⟩
   have hxN:x ∈ N:=by rw [<- C.hN]; exact List.mem_of_getElem? hN'
   have hfr:sc.names.lookup x = some .free:=by
    have hv':(relabel sc X.env).names.lookup x = some .local \/ (relabel sc X.env).names.lookup x = some .cell \/ (relabel sc X.env).names.lookup x = some .free:=hv
    rcases hv' with z | z | z
    ·rcases Jr z with q | ⟨q,_⟩
     ·have w:=((h.at (mem_of_lookup q)).2.2 rfl).2
      rcases w with w | w
      ·exact absurd w hxl
      ·exact absurd hxN w
     ·cases q
    ·rcases Jr z with q | ⟨_,q⟩
     ·exact absurd ((h.at (mem_of_lookup q)).1 rfl).2 hxl
     ·exact q
    ·rcases Jr z with q | ⟨q,_⟩
     ·exact q
     ·cases q
   have hm:=mem_of_lookup hfr
   have hk:=C.cel x ((h.at hm).2.1 rfl)
   have hvX:Vis X.env.scope x:=by
    rcases hk with z | z
    ·exact .inr (.inl z)
    ·exact .inr (.inr z)
   obtain ⟨m0,_,hl⟩:=I.loc
   obtain ⟨u,r,l⟩:=hl (i - ls.length) x v hN' hσ hvX
   refine ⟨u,r,.inr ⟨?_,?_⟩⟩
   ·show (relabel sc X.env).names.lookup x = some .cell \/ (relabel sc X.env).names.lookup x = some .free
    rcases Jj (env:=X.env) hfr with z | ⟨_,z⟩
    ·exact .inr z
    ·exact .inl z
   ·rcases l with ⟨z,_⟩ | ⟨_,c,e,z⟩
    ·rcases hk with w | w <;> (rw [w] at z; cases z)
    ·obtain ⟨c',e'⟩:=Jz (cs:=X.env.cells) sc.names [] x hm ⟨c,e⟩
     have e2:=sub x c' e'
     rw [e] at e2
     cases e2
     obtain ⟨o,h1,h2⟩:=z
     exact ⟨c,(JbK _ _ _ _ (h.fcell hfr)).trans e',o,keep _ _ h1,h2⟩
 ·rcases sub' x c e with q | ⟨_,q⟩
  ·obtain ⟨v,o,h1,h2⟩:=I.cell x c q
   exact ⟨v,o,keep _ _ h1,h2⟩
  ·exact ⟨none,q⟩
 ·exact I.hok.fresh (Nat.le_succ _)
 ·rcases sub' x c e with q | ⟨q,_⟩
  ·exact I.freeC x c q
  ·exact I.hok.fresh (by omega)
 ·have e:p = (s.heap.objs.size,listObj [] 0):=by simpa [cxComp] using hp
  subst e
  exact ⟨hacc,I.hok.fresh (Nat.le_refl _),Nat.ne_of_lt (Nat.lt_succ_self _),fun hb=>Nat.lt_irrefl _ (stk _ hb),fun v z=>(by cases z)⟩
 ·show (List.replicate ls.length none ++ σ).length = (ls ++ hidN ls X.N).length
  rw [List.length_append,List.length_append,List.length_replicate,I.len]
  unfold hidN
  rw [List.length_map]
end
end Rd
namespace Rd
open PySem PySem.Spec PyProof.Rows L2 Pu
open PySem.SeqAt (EqAt RcAt RcNeAt)
mutual
theorem JaN:∀ d:D,d.dep < 1000 -> d.eqv d = true
 | .non,_=>rfl
 | .bl b,_=>by simp [D.eqv]
 | .int i,_=>by simp [D.eqv]
 | .str x,_=>by simp [D.eqv]
 | .tup ds,h=>by simp only [D.dep] at h; simp [D.eqv,Jau ds (by omega)]
 | .lst ds,h=>by simp only [D.dep] at h; simp [D.eqv,Jau ds (by omega)]
 | .dct _ _ _ _,h=>by simp [D.dep] at h
 | .exc _,h=>by simp [D.dep] at h
 | .fn _ _,h=>by simp [D.dep] at h
theorem Jau:∀ ds:List D,deps ds < 1000 -> eqvs ds ds = true
 | [],_=>rfl
 | d :: ds,h=>by simp only [deps] at h; simp [eqvs,JaN d (by omega),Jau ds (by omega)]
end
theorem Jcf:∀ {as bs:List D},eqvs as bs = true -> as.length = bs.length
 | [],[],_=>rfl
 | [],_ :: _,h=>by simp [eqvs] at h
 | _ :: _,[],h=>by simp [eqvs] at h
 | a :: as,b :: bs,h=>by
  simp only [eqvs,Bool.and_eq_true] at h
  simp [Jcf h.2]
theorem JT:∀ as bs:List D,as.length = bs.length -> eqvs as bs = (List.range as.length).all fun j=>(as.getD j .non).eqv (bs.getD j .non)
 | [],[],_=>rfl
 | a :: as,b :: bs,h=>by
  have ih:=JT as bs (by simpa using h)
  rw [List.length_cons,List.range_succ_eq_map,List.all_cons,List.all_map]
  simp only [eqvs,ih]
  rfl
theorem Jdk {as bs:List D} (h:as.length ≠ bs.length):eqvs as bs = false:=by
 cases e:eqvs as bs with
 | false=>rfl
 | true=>exact absurd (Jcf e) h
theorem JB:∀ {ds:List D} {n j:Nat},deps ds <= n -> (ds.getD j .non).dep <= n
 | [],n,j,_=>by simp [D.dep]
 | d :: ds,n,0,h=>by simp only [deps] at h; simp; omega
 | d :: ds,n,j + 1,h=>by
  simp only [deps] at h
  have:=JB (ds:=ds) (n:=n) (j:=j) (by omega)
  simpa using this
section
variable {X:Cx} {pins:List (Addr × Obj)} {σ:L2.St} {H:Hp} {s:Shared}
theorem Jbc (I:L2.Inv X pins σ H s) {a:Addr} {xs ys:List V} (h1:SqL X.K H a xs) (h2:SqT X.K H a ys):False:=by
 obtain ⟨its,_,p1,_⟩:=I.list h1
 obtain ⟨its2,_,p2,_⟩:=I.tuple h2
 obtain ⟨o,e,c,_⟩:=p1.isList
 obtain ⟨o2,e2,c2,_⟩:=p2
 rw [e] at e2
 cases e2
 rw [c] at c2
 injection c2 with c3
 exact absurd c3 (by decide)
mutual
theorem Rep.inj (I:L2.Inv X pins σ H s):∀ (d:D) {d':D} {v:V},d.dep < 1000 -> d'.dep < 1000 -> Rep X.K H d v -> Rep X.K H d' v -> d = d'
 | .dct _ _ _ _,_,_,p,_,_,_=>by simp [D.dep] at p
 | .exc _,_,_,p,_,_,_=>by simp [D.dep] at p
 | .fn _ _,_,_,p,_,_,_=>by simp [D.dep] at p
 | .non,d',v,p,p',h,h'=>by
  cases h
  cases d' <;> first | rfl | (simp [D.dep] at p'; done) | (cases h'; done) | (obtain ⟨_,_,e,_⟩:=h'; cases e)
 | .bl b,d',v,p,p',h,h'=>by
  cases h
  cases d' <;> first | (simp [D.dep] at p'; done) | (cases h'; rfl) | (cases h'; done) | (obtain ⟨_,_,e,_⟩:=h'; cases e)
 | .int b,d',v,p,p',h,h'=>by
  cases h
  cases d' <;> first | (simp [D.dep] at p'; done) | (cases h'; rfl) | (cases h'; done) | (obtain ⟨_,_,e,_⟩:=h'; cases e)
 | .str b,d',v,p,p',h,h'=>by
  cases h
  cases d' <;> first | (simp [D.dep] at p'; done) | (cases h'; rfl) | (cases h'; done) | (obtain ⟨_,_,e,_⟩:=h'; cases e)
 | .tup ds,d',v,p,p',⟨a,xs,e,h1,h2⟩,h'=>by
  subst e
  simp only [D.dep] at p
  cases d' with
  | tup es=>
   simp only [D.dep] at p'
   obtain ⟨a',ys,e',h3,h4⟩:=h'
   cases e'
   have:=I.tuple_inj h1 h3
   subst this
   rw [Reps.inj I ds (by omega) (by omega) h2 h4]
  | lst es=>
   obtain ⟨a',ys,e',h3,h4⟩:=h'
   cases e'
   exact (Jbc I h3 h1).elim
  | dct _ _ _ _=>simp [D.dep] at p'
  | exc _=>simp [D.dep] at p'
  | fn _ _=>simp [D.dep] at p'
  | _=>cases h'
 | .lst ds,d',v,p,p',⟨a,xs,e,h1,h2⟩,h'=>by
  subst e
  simp only [D.dep] at p
  cases d' with
  | lst es=>
   simp only [D.dep] at p'
   obtain ⟨a',ys,e',h3,h4⟩:=h'
   cases e'
   have:=I.list_inj h1 h3
   subst this
   rw [Reps.inj I ds (by omega) (by omega) h2 h4]
  | tup es=>
   obtain ⟨a',ys,e',h3,h4⟩:=h'
   cases e'
   exact (Jbc I h1 h3).elim
  | dct _ _ _ _=>simp [D.dep] at p'
  | exc _=>simp [D.dep] at p'
  | fn _ _=>simp [D.dep] at p'
  | _=>cases h'
theorem Reps.inj (I:L2.Inv X pins σ H s):∀ (ds:List D) {es:List D} {xs:List V},deps ds < 1000 -> deps es < 1000 -> Reps X.K H ds xs -> Reps X.K H es xs -> ds = es
 | [],es,xs,_,_,h,h'=>by
  cases h
  have:=Reps.length h'
  cases es with
  | nil=>rfl
  | cons _ _=>simp at this
 | d :: ds,es,xs,p,p',⟨x,r,e,h1,h2⟩,h'=>by
  subst e
  cases es with
  | nil=>cases h'
  | cons e' es=>
   simp only [deps] at p p'
   obtain ⟨x',r',e1,h3,h4⟩:=h'
   cases e1
   rw [Rep.inj I d (by omega) (by omega) h1 h3,Reps.inj I ds (by omega) (by omega) h2 h4]
end
theorem Jae (I:L2.Inv X pins σ H s) {ds:List D} {xs:List V} {its:List Value} (hr:Reps X.K H ds xs) (hv:Vals xs its) {j:Nat} (h:j < its.toArray.size):∃ v,Rep X.K H (ds.getD j .non) v /\ RelV v its.toArray[j]:=by
 have h':j < its.length:=by simpa using h
 have l1:=hv.length
 have l2:=hr.length
 have hd:ds[j]? = some (ds.getD j .non):=by
  rw [List.getD_eq_getElem?_getD,List.getElem?_eq_getElem (by omega)]
  rfl
 obtain ⟨v,h1,h2⟩:=hr.get hd
 obtain ⟨u,h3,h4⟩:=hv.get h1
 refine ⟨v,h2,?_⟩
 have:its.toArray[j] = u:=by
  have e:its[j]? = some u:=h3
  rw [List.getElem?_eq_getElem h'] at e
  simpa using e
 rw [this]
 exact h4
theorem JfO (I:L2.Inv X pins σ H s):∀ (n:Nat) (A:Around) (d d':D) {v v':V} {u u':Value},d.dep <= n -> d.dep < 1000 -> d'.dep < 1000 -> Rep X.K H d v -> Rep X.K H d' v' -> RelV v u -> RelV v' u' -> A.units + n + 1 < cLine ->
  RcAt A s u u' (d.eqv d') /\ RcNeAt A s u u' (!d.eqv d') /\ EqAt A s u u' (d.eqv d'):=by
 intro n
 induction n with
 | zero=>
  intro A d d' v v' u u' hd pd pd' r r' q q' hu
  have hu0:A.units < cLine:=by omega
  cases d with
  | tup ds=>simp [D.dep] at hd
  | lst ds=>simp [D.dep] at hd
  | dct _ _ _ _=>simp [D.dep] at hd
  | exc _=>simp [D.dep] at hd
  | fn _ _=>simp [D.dep] at hd
  | non=>
   cases r; cases q
   cases d' with
   | dct _ _ _ _=>simp [D.dep] at pd'
   | exc _=>simp [D.dep] at pd'
   | fn _ _=>simp [D.dep] at pd'
   | non=>cases r'; cases q'; exact ⟨RcAt.none_none,RcNeAt.none_none,EqAt.same _⟩
   | bl b=>cases r'; cases q'; exact ⟨RcAt.none_bool b,RcNeAt.none_bool b,EqAt.none_bool b⟩
   | int b=>cases r'; obtain ⟨t,rfl⟩:=q'; exact ⟨RcAt.none_int b t,RcNeAt.none_int b t,EqAt.none_int b t⟩
   | str b=>cases r'; obtain ⟨t,rfl⟩:=q'; exact ⟨RcAt.none_str b t,RcNeAt.none_str b t,EqAt.none_str b t⟩
   | tup es=>obtain ⟨a,xs,rfl,h1,_⟩:=r'; cases q'; obtain ⟨its,_,p,_⟩:=I.tuple h1; exact ⟨RcAt.none_tuple p hu0,RcNeAt.none_tuple p hu0,EqAt.none_tuple p hu0⟩
   | lst es=>obtain ⟨a,xs,rfl,h1,_⟩:=r'; cases q'; obtain ⟨its,_,p,_⟩:=I.list h1; exact ⟨RcAt.none_list p.isList hu0,RcNeAt.none_list p.isList hu0,EqAt.none_list p.isList hu0⟩
  | bl c=>
   cases r; cases q
   cases d' with
   | dct _ _ _ _=>simp [D.dep] at pd'
   | exc _=>simp [D.dep] at pd'
   | fn _ _=>simp [D.dep] at pd'
   | non=>cases r'; cases q'; exact ⟨RcAt.bool_none c,RcNeAt.bool_none c,EqAt.bool_none c⟩
   | bl b=>cases r'; cases q'; exact ⟨RcAt.bool_bool c b,RcNeAt.bool_bool c b,EqAt.bool_bool c b⟩
   | int b=>cases r'; obtain ⟨t,rfl⟩:=q'; exact ⟨RcAt.bool_int c b t,RcNeAt.bool_int c b t,EqAt.bool_int c b t⟩
   | str b=>cases r'; obtain ⟨t,rfl⟩:=q'; exact ⟨RcAt.bool_str c b t,RcNeAt.bool_str c b t,EqAt.bool_str c b t⟩
   | tup es=>obtain ⟨a,xs,rfl,h1,_⟩:=r'; cases q'; obtain ⟨its,_,p,_⟩:=I.tuple h1; exact ⟨RcAt.bool_tuple c p hu0,RcNeAt.bool_tuple c p hu0,EqAt.bool_tuple c p hu0⟩
   | lst es=>obtain ⟨a,xs,rfl,h1,_⟩:=r'; cases q'; obtain ⟨its,_,p,_⟩:=I.list h1; exact ⟨RcAt.bool_list c p.isList hu0,RcNeAt.bool_list c p.isList hu0,EqAt.bool_list c p.isList hu0⟩
  | int c=>
   cases r; obtain ⟨w,rfl⟩:=q
   cases d' with
   | dct _ _ _ _=>simp [D.dep] at pd'
   | exc _=>simp [D.dep] at pd'
   | fn _ _=>simp [D.dep] at pd'
   | non=>cases r'; cases q'; exact ⟨RcAt.int_none c w,RcNeAt.int_none c w,EqAt.int_none c w⟩
   | bl b=>cases r'; cases q'; exact ⟨RcAt.int_bool c w b,RcNeAt.int_bool c w b,EqAt.int_bool c w b⟩
   | int b=>cases r'; obtain ⟨t,rfl⟩:=q'; exact ⟨RcAt.int_int c w b t,RcNeAt.int_int c w b t,EqAt.int_int c w b t⟩
   | str b=>cases r'; obtain ⟨t,rfl⟩:=q'; exact ⟨RcAt.int_str c w b t,RcNeAt.int_str c w b t,EqAt.int_str c w b t⟩
   | tup es=>obtain ⟨a,xs,rfl,h1,_⟩:=r'; cases q'; obtain ⟨its,_,p,_⟩:=I.tuple h1; exact ⟨RcAt.int_tuple c w p hu0,RcNeAt.int_tuple c w p hu0,EqAt.int_tuple c w p hu0⟩
   | lst es=>obtain ⟨a,xs,rfl,h1,_⟩:=r'; cases q'; obtain ⟨its,_,p,_⟩:=I.list h1; exact ⟨RcAt.int_list c w p.isList hu0,RcNeAt.int_list c w p.isList hu0,EqAt.int_list c w p.isList hu0⟩
  | str c=>
   cases r; obtain ⟨w,rfl⟩:=q
   cases d' with
   | dct _ _ _ _=>simp [D.dep] at pd'
   | exc _=>simp [D.dep] at pd'
   | fn _ _=>simp [D.dep] at pd'
   | non=>cases r'; cases q'; exact ⟨RcAt.str_none c w,RcNeAt.str_none c w,EqAt.str_none c w⟩
   | bl b=>cases r'; cases q'; exact ⟨RcAt.str_bool c w b,RcNeAt.str_bool c w b,EqAt.str_bool c w b⟩
   | int b=>cases r'; obtain ⟨t,rfl⟩:=q'; exact ⟨RcAt.str_int c w b t,RcNeAt.str_int c w b t,EqAt.str_int c w b t⟩
   | str b=>cases r'; obtain ⟨t,rfl⟩:=q'; exact ⟨RcAt.str_str c w b t,RcNeAt.str_str c w b t,EqAt.str_str c w b t⟩
   | tup es=>obtain ⟨a,xs,rfl,h1,_⟩:=r'; cases q'; obtain ⟨its,_,p,_⟩:=I.tuple h1; exact ⟨RcAt.str_tuple c w p hu0,RcNeAt.str_tuple c w p hu0,EqAt.str_tuple c w p hu0⟩
   | lst es=>obtain ⟨a,xs,rfl,h1,_⟩:=r'; cases q'; obtain ⟨its,_,p,_⟩:=I.list h1; exact ⟨RcAt.str_list c w p.isList hu0,RcNeAt.str_list c w p.isList hu0,EqAt.str_list c w p.isList hu0⟩
 | succ n ih=>
  intro A d d' v v' u u' hd pd pd' r r' q q' hu
  have hu0:A.units < cLine:=by omega
  have flat:d.dep <= n -> _:=fun h=>ih A d d' h pd pd' r r' q q' (by omega)
  have hin:A.in1.units + n + 1 < cLine:=by show A.units + 1 + n + 1 < cLine; omega
  cases d with
  | non=>exact flat (Nat.zero_le _)
  | bl _=>exact flat (Nat.zero_le _)
  | int _=>exact flat (Nat.zero_le _)
  | str _=>exact flat (Nat.zero_le _)
  | dct _ _ _ _=>simp [D.dep] at pd
  | exc _=>simp [D.dep] at pd
  | fn _ _=>simp [D.dep] at pd
  | tup ds=>
   have hds:deps ds <= n:=by simp only [D.dep] at hd; omega
   have pds:deps ds < 1000:=by simp only [D.dep] at pd; omega
   obtain ⟨a,xs,rfl,h1,h2⟩:=id r
   cases q
   obtain ⟨its,rv,p,_⟩:=I.tuple h1
   cases d' with
   | dct _ _ _ _=>simp [D.dep] at pd'
   | exc _=>simp [D.dep] at pd'
   | fn _ _=>simp [D.dep] at pd'
   | non=>cases r'; cases q'; exact ⟨RcAt.tuple_none p hu0,RcNeAt.tuple_none p hu0,EqAt.tuple_none p hu0⟩
   | bl b=>cases r'; cases q'; exact ⟨RcAt.tuple_bool b p hu0,RcNeAt.tuple_bool b p hu0,EqAt.tuple_bool b p hu0⟩
   | int b=>cases r'; obtain ⟨t,rfl⟩:=q'; exact ⟨RcAt.tuple_int b t p hu0,RcNeAt.tuple_int b t p hu0,EqAt.tuple_int b t p hu0⟩
   | str b=>cases r'; obtain ⟨t,rfl⟩:=q'; exact ⟨RcAt.tuple_str b t p hu0,RcNeAt.tuple_str b t p hu0,EqAt.tuple_str b t p hu0⟩
   | lst es=>obtain ⟨a',ys,rfl,h3,_⟩:=r'; cases q'; obtain ⟨its2,_,p2,_⟩:=I.list h3; exact ⟨RcAt.tuple_list p p2.isList hu0,RcNeAt.tuple_list p p2.isList hu0,EqAt.tuple_list p p2.isList hu0⟩
   | tup es=>
    have pes:deps es < 1000:=by simp only [D.dep] at pd'; omega
    obtain ⟨a',ys,rfl,h3,h4⟩:=id r'
    cases q'
    obtain ⟨its2,rv2,p2,_⟩:=I.tuple h3
    have l1:its.toArray.size = ds.length:=by rw [List.size_toArray,<- rv.length,h2.length]
    have l2:its2.toArray.size = es.length:=by rw [List.size_toArray,<- rv2.length,h4.length]
    have he:∀ j (g1:j < its.toArray.size) (g2:j < its2.toArray.size),EqAt A.in1 s its.toArray[j] its2.toArray[j] ((ds.getD j .non).eqv (es.getD j .non)):=fun j g1 g2=>by
     obtain ⟨w1,k1,k2⟩:=Jae I h2 rv g1
     obtain ⟨w2,k3,k4⟩:=Jae I h4 rv2 g2
     exact (ih A.in1 _ _ (JB hds) (Nat.lt_of_le_of_lt (JB (Nat.le_refl _)) pds) (Nat.lt_of_le_of_lt (JB (Nat.le_refl _)) pes) k1 k3 k2 k4 hin).2.2
    have ev:((List.range (min its.toArray.size its2.toArray.size)).all (fun j=>(ds.getD j .non).eqv (es.getD j .non)) && its.toArray.size == its2.toArray.size) = (D.tup ds).eqv (.tup es):=by
     rw [l1,l2]
     show _ = eqvs ds es
     by_cases hl:ds.length = es.length
     ·rw [JT ds es hl,<- hl,Nat.min_self]; simp
     ·rw [Jdk hl]; simp [hl]
    have R1:=RcAt.tuples (e:=fun j=>(ds.getD j .non).eqv (es.getD j .non)) p p2 hu0 he
    have R2:=RcNeAt.tuples (e:=fun j=>(ds.getD j .non).eqv (es.getD j .non)) p p2 hu0 he
    rw [ev] at R1 R2
    refine ⟨R1,R2,?_⟩
    by_cases hab:a = a'
    ·subst hab
     have:=Rep.inj I _ pd pd' r r'
     rw [<- this,JaN _ pd]
     exact EqAt.same _
    ·exact EqAt.of_refs hab R1
  | lst ds=>
   have hds:deps ds <= n:=by simp only [D.dep] at hd; omega
   have pds:deps ds < 1000:=by simp only [D.dep] at pd; omega
   obtain ⟨a,xs,rfl,h1,h2⟩:=id r
   cases q
   obtain ⟨its,rv,p,_⟩:=I.list h1
   have pl:=p.isList
   cases d' with
   | dct _ _ _ _=>simp [D.dep] at pd'
   | exc _=>simp [D.dep] at pd'
   | fn _ _=>simp [D.dep] at pd'
   | non=>cases r'; cases q'; exact ⟨RcAt.list_none pl hu0,RcNeAt.list_none pl hu0,EqAt.list_none pl hu0⟩
   | bl b=>cases r'; cases q'; exact ⟨RcAt.list_bool b pl hu0,RcNeAt.list_bool b pl hu0,EqAt.list_bool b pl hu0⟩
   | int b=>cases r'; obtain ⟨t,rfl⟩:=q'; exact ⟨RcAt.list_int b t pl hu0,RcNeAt.list_int b t pl hu0,EqAt.list_int b t pl hu0⟩
   | str b=>cases r'; obtain ⟨t,rfl⟩:=q'; exact ⟨RcAt.list_str b t pl hu0,RcNeAt.list_str b t pl hu0,EqAt.list_str b t pl hu0⟩
   | tup es=>obtain ⟨a',ys,rfl,h3,_⟩:=r'; cases q'; obtain ⟨its2,_,p2,_⟩:=I.tuple h3; exact ⟨RcAt.list_tuple pl p2 hu0,RcNeAt.list_tuple pl p2 hu0,EqAt.list_tuple pl p2 hu0⟩
   | lst es=>
    have pes:deps es < 1000:=by simp only [D.dep] at pd'; omega
    obtain ⟨a',ys,rfl,h3,h4⟩:=id r'
    cases q'
    obtain ⟨its2,rv2,p2,_⟩:=I.list h3
    have l1:its.toArray.size = ds.length:=by rw [List.size_toArray,<- rv.length,h2.length]
    have l2:its2.toArray.size = es.length:=by rw [List.size_toArray,<- rv2.length,h4.length]
    have R12:RcAt A s (.ref a) (.ref a') ((D.lst ds).eqv (.lst es)) /\ RcNeAt A s (.ref a) (.ref a') (!(D.lst ds).eqv (.lst es)):=by
     show RcAt A s (.ref a) (.ref a') (eqvs ds es) /\ RcNeAt A s (.ref a) (.ref a') (!eqvs ds es)
     by_cases hl:ds.length = es.length
     ·have he:∀ j (g1:j < its.toArray.size) (g2:j < its2.toArray.size),EqAt A.in1 s its.toArray[j] its2.toArray[j] ((ds.getD j .non).eqv (es.getD j .non)):=fun j g1 g2=>by
       obtain ⟨w1,k1,k2⟩:=Jae I h2 rv g1
       obtain ⟨w2,k3,k4⟩:=Jae I h4 rv2 g2
       exact (ih A.in1 _ _ (JB hds) (Nat.lt_of_le_of_lt (JB (Nat.le_refl _)) pds) (Nat.lt_of_le_of_lt (JB (Nat.le_refl _)) pes) k1 k3 k2 k4 hin).2.2
      have R1:=RcAt.lists (e:=fun j=>(ds.getD j .non).eqv (es.getD j .non)) pl p2.isList (by rw [l1,l2,hl]) hu0 he
      have R2:=RcNeAt.lists (e:=fun j=>(ds.getD j .non).eqv (es.getD j .non)) pl p2.isList (by rw [l1,l2,hl]) hu0 he
      rw [l1,<- JT ds es hl] at R1 R2
      exact ⟨R1,R2⟩
     ·rw [Jdk hl]
      have hb:(its.toArray.size != its2.toArray.size) = true:=by rw [l1,l2]; simpa using hl
      exact ⟨RcAt.lists_lengths pl p2.isList hb hu0,RcNeAt.lists_lengths pl p2.isList hb hu0⟩
    refine ⟨R12.1,R12.2,?_⟩
    by_cases hab:a = a'
    ·subst hab
     have:=Rep.inj I _ pd pd' r r'
     rw [<- this,JaN _ pd]
     exact EqAt.same _
    ·exact EqAt.of_refs hab R12.1
end
end Rd
namespace Rd
open PySem PySem.Spec PyProof.Rows L2 Pu
section
variable {X:Cx} {call:CallD} {c:Expr} {p:Px} {pos:Pos}
def PIf (X:Cx) (ifs:List Expr) (t:TT):Prop:=∀ (pins:List (Addr × Obj)) (s:Shared) (σ:L2.St) (H:Hp) (Q:Bool -> Hp -> Prop),L2.Inv X pins σ H s -> t σ H Q ->
 wpAny (model X.prog X.w) X.A (forIn ifs true fun c r=>if r = true then do let ok <- isTrue c X.env (eval c X.env); pure (ForInStep.yield ok) else pure (ForInStep.yield r)) (TP X pins σ Q) X.xe s
theorem JaK:PIf X [] (tT X call (.con (.bl true))):=fun pins s σ H Q I ⟨env,r,b,e,q⟩=>by
 cases e
 exact wpAny_tests_nil ⟨H,I,q H (Same.refl H)⟩
theorem JcF (h:PT X c (tT X call p)):PIf X [c] (tT X call p):=fun pins s σ H Q I w=>wpAny_tests_one (h pins s σ H Q I w)
def TgOk (X:Cx) (tg:Expr) (nt m:Nat):Prop:=∀ (pins:List (Addr × Obj)) (s:Shared) (lo hi:L2.St) (H:Hp) (d:D) (v:V) (u:Value) (new:Fm) (Q:L2.St -> Hp -> Prop),lo.length = m -> L2.Inv X pins (lo ++ hi) H s -> RelV v u -> Rep X.K H d v -> bindT nt d = .ok new ->
 (∀ lo':L2.St,lo'.length = m -> new.length = m -> (∀ (i:Nat) (d':D),new[i]? = some (some d') -> ∃ w,lo'[i]? = some (some w) /\ Rep X.K H d' w) -> Q (lo' ++ hi) H) ->
 wpAny (model X.prog X.w) X.A (assign tg X.env u) (fun _ s'=>∃ σ' H',L2.Inv X pins σ' H' s' /\ Q σ' H') X.xe s
theorem Jgr {x:Str} (hN:X.N[0]? = some x) (nd:X.N.Nodup) (hx:Loc X.env.scope x) (hf:X.fn x = true \/ X.env.scope.names.lookup x = some .local):TgOk X (.Name x pos) 0 1:=by
 intro pins s lo hi H d v u new Q hl I r rd hb h
 refine JdF (pos:=pos) nd hN hx hf pins s (lo ++ hi) H v u Q I r ?_
 match lo,hl with
 | [l0],_=>
  simp only [bindT,if_true] at hb
  cases hb
  refine h [some v] rfl rfl fun i d' e=>?_
  match i,e with
  | 0,e=>simp at e; subst e; exact ⟨v,rfl,rd⟩
  | i + 1,e=>simp at e
end
theorem Jbj {α:Type} {ds:List α} {i:Nat} {d:α} (h:ds[i]? = some d):ds.drop i = d :: ds.drop (i + 1):=by
 obtain ⟨h1,h2⟩:=List.getElem?_eq_some_iff.mp h
 rw [List.drop_eq_getElem_cons h1,h2]
theorem ReadOk.front {K:PySem.W.Frag} {H:Hp} {lo hi:L2.St} {new env:Fm} (hl:lo.length = new.length) (hn:∀ (i:Nat) (d':D),new[i]? = some (some d') -> ∃ w,lo[i]? = some (some w) /\ Rep K H d' w) (r:ReadOk K H hi env):ReadOk K H (lo ++ hi) (new ++ env):=by
 intro i d e
 by_cases hi':i < new.length
 ·rw [List.getElem?_append_left hi'] at e
  obtain ⟨w,h1,h2⟩:=hn i d e
  exact ⟨w,by rw [List.getElem?_append_left (by omega)]; exact h1,h2⟩
 ·rw [List.getElem?_append_right (by omega)] at e
  obtain ⟨w,h1,h2⟩:=r _ d e
  exact ⟨w,by rw [List.getElem?_append_right (by omega),hl]; exact h1,h2⟩
section
variable {X:Cx} {G:Gw} {N:List Str} {nm:List (Str × NameKind)} {ls:List Str} {sc:Scope} {call:CallD}
theorem Jaa {M:Model} {A:Around} {E:Value -> Shared -> Prop} {s:Shared} {scope:Scope} {globals:Addr} {closure:List (Str × Addr)} {qual:Str} {func:Option Addr} {code:Value} {outer:Env} {builtins:Addr} {Q:Env -> Shared -> Prop}
  (hQ:Q (newEnv scope s.heap.objs.size globals (cellsFrom (s.heap.objs.size + 1) scope.names closure) qual func code (some outer) builtins) { s with heap:=pushCells (s.heap.push { cls:=.type "dict",data:=.dict #[] }) scope.names }) :
  wpAny M A (newFunctionEnv scope globals closure [] qual func code (some outer) builtins) Q E s:=by
 simp only [newFunctionEnv,Option.isSome_some,if_true]
 refine wpAny_bind (wpAny_alloc ?_)
 refine wpAny_bind (wpAny_layCells _ (fun name kind cells=>by cases hkc:kind == NameKind.cell <;> simp [hkc]) _ _ _ _ ?_)
 rw [show ({ s with heap:=s.heap.push { cls:=.type "dict",data:=.dict #[] } }:Shared).heap.objs.size = s.heap.objs.size + 1 from Heap.size_push ..]
 rw [List.forIn_nil]
 exact wpAny_bind (wpAny_pure (wpAny_pure hQ))
def compErr (X:Cx) (Cd:Addr) (x:Value) (s':Shared):Prop:=∃ m,s'.heap.Ns Cd m /\ ∀ h',Heap.SameBut Cd s'.heap h' -> ∀ cenv:Env,cenv.locals = Cd -> wpAny (model X.prog X.w) X.A (PySem.passOn "comprehension.variables-let-go" x cenv:Sem Value) (fun _ _=>False) X.xe { s' with heap:=h' }
theorem JfU {e:Value} {env env':Env} (h:env.frame = env'.frame):noteFrame e env = noteFrame e env':=by
 unfold noteFrame PySem.frameOf
 rw [h]
theorem JfX {pins:List (Addr × Obj)} {σ:L2.St} {H2 H':Hp} {s2 s':Shared} {fp:List Addr} {E':Value -> Shared -> Prop} {Cd a Cc:Addr} {ce:Env} (C:Ctx X G N nm) (I2:L2.Inv X pins σ H2 s2) (f2:∀ b ∈ fp,FpOk X pins H2 b) (hCd:s2.heap.objs.size <= Cd)
  (F:FlyIn (cxComp X ls sc Cd s2 H2 fp E') Cc a H' s') (hx:∀ s5,FlyIn X Cc a H' s5 -> X.xe (.ref a) s5) (hce:ce.frame = X.env.frame):notedBy (model X.prog X.w) X.A ce (compErr X Cd) (.ref a) s':=by
 obtain ⟨e0,out0,L,hst,hf0,hfx⟩:=C.fr
 obtain ⟨ps,σ',I',hxx⟩:=F.inv
 have hfr:X.A.frames = some (e0 :: out0):=by rw [<- hst]; exact I2.ok.frames
 show wpAny _ X.A (noteFrame (.ref a) ce) _ _ s'
 rw [JfU (env':=e0) (hce.trans (hfx.trans hf0.symm))]
 have hstk:∀ b,b ∉ X.fs -> b ≠ X.env.locals -> b ∉ frs X.stack:=fun b h1 h2 hm=>by
  rcases List.mem_cons.mp (I2.stkSub b hm) with e | e
  ·exact h2 e
  ·exact h1 e
 have rest:∀ (B:Heap) (a0:Value) (h1 h4:Heap),L2.Inv (cxComp X ls sc Cd s2 H2 fp E') ps σ' H' { s' with heap:=h1 } -> B.StaysIn h1 -> (∀ b u,H' b = some u -> ∃ o,B.get? b = some o) ->
   (∀ b o,s2.heap.get? b = some o -> b ∉ frs X.stack -> b ∉ fp -> (H2 b = none -> B.get? b = some o) /\ ∃ o',B.get? b = some o') -> Heap.HeldW B (e0 :: out0) a (.ref Cc) a0 L h4 -> h1.UpToSlots h4 -> compErr X Cd (.ref a) { s' with heap:=h4 }:=by
  intro B a0 h1 h4 I1 k1 tr kp held up
  obtain ⟨m,hn,_⟩:=I1.loc
  have hn4:h4.Ns Cd m:=up.ns hn
  refine ⟨m,hn4,fun h5 hsb cenv _=>?_⟩
  obtain ⟨g1,g2,g3,oe,vs,T,oT,ts,he,hcls,hd,hv1,hnT,hTe,hT,hdT,h3⟩:=held
  obtain ⟨oC,esC,epC,hoC,hdC,_⟩:=hn4
  have hfC:H' Cd = none:=I1.free
  have neC:∀ b o vs,h4.get? b = some o -> o.data = .fields vs -> b ≠ Cd:=fun b o vs hb hd' q=>by
   rw [q,hoC] at hb; cases hb; rw [hdC] at hd'; cases hd'
  have he5:=(hsb.2 a (neC a oe vs he hd)).trans he
  have hT5:=(hsb.2 T (neC T oT ts hT hdT)).trans hT
  have hsz3:3 < ts.size:=(Array.getElem?_eq_some_iff.mp h3).1
  unfold PySem.passOn
  refine wpAny_bind (wpAny_field he5 hd hv1 ?_)
  rw [if_neg (show ¬ ((Value.ref T == Value.none) = true) from by simp)]
  have go:∀ (v:Value),X.xe (.ref a) { s' with heap:=h5.update T (Obj.mapFields (·.setIfInBounds 3 v)) }:=fun v=>by
   refine hx _ ?_
   have hT6:(h5.update T (Obj.mapFields (·.setIfInBounds 3 v))).get? T = some (Obj.mapFields (·.setIfInBounds 3 v) oT):=Heap.get?_update_self _ hT5 (Obj.isFreed_of_fields (Obj.data_mapFields hdT _))
   have oth:∀ b,b ≠ T -> (h5.update T (Obj.mapFields (·.setIfInBounds 3 v))).get? b = h5.get? b:=fun b hb=>Heap.get?_update_other _ _ (Ne.symm hb)
   have B5:∀ b o,b ≠ Cd -> B.get? b = some o -> (h5.update T (Obj.mapFields (·.setIfInBounds 3 v))).get? b = some o:=fun b o hb hB=>(oth b fun q=>by rw [q,hnT] at hB; cases hB).trans ((hsb.2 b hb).trans (g1 b o hB))
   have hB':∀ {b o},b ≠ Cd -> B.get? b = some o -> (PySem.W.hideAll B [Cd]).get? b = some o:=fun hb hB=>PySem.W.hideAll_get _ hB (by simpa using hb)
   have ofB':∀ {b o},(PySem.W.hideAll B [Cd]).get? b = some o -> b ≠ Cd /\ B.get? b = some o:=fun {b o} q=>⟨fun z=>(by
    rw [PySem.W.hideAll_none [Cd] (by simp [z])] at q
    cases q),PySem.W.of_hideAll _ q⟩
   have noB':∀ {b},B.get? b = none -> (PySem.W.hideAll B [Cd]).get? b = none:=fun {b} q=>by
    cases z:(PySem.W.hideAll B [Cd]).get? b with
    | none=>rfl
    | some o=>rw [(ofB' z).2] at q; cases q
   have old:∀ b o,s2.heap.get? b = some o -> b ≠ Cd:=fun b o q=>Nat.ne_of_lt (Nat.lt_of_lt_of_le (Heap.lt_size q) hCd)
   have frm:∀ b o,h1.get? b = some o -> (∀ vs,o.data ≠ .fields vs) -> b ≠ Cd -> ∃ sl,(h5.update T (Obj.mapFields (·.setIfInBounds 3 v))).get? b = some { o with slots:=sl }:=fun b o hb hnf hne=>by
    obtain ⟨sl,e4⟩:=up b o hb hnf
    exact ⟨sl,(oth b fun q=>by
     rw [q,hT] at e4
     injection e4 with e4
     exact hnf ts (by have:=congrArg Obj.data e4; rw [hdT] at this; exact this.symm)).trans ((hsb.2 b hne).trans e4)⟩
   have U1:Un (frs X.stack) fp H2 H' s2.heap h1:=I1.base
   have fo:∀ b ∈ frs X.stack,∃ o,s2.heap.get? b = some o /\ ∀ vs,o.data ≠ .fields vs:=fun b hb=>(I2.stack.mem hb).2
   have nfp:∀ b ∈ frs X.stack,b ∉ fp:=fun b hb hm=>by
    obtain ⟨_,q1,q2,_⟩:=f2 b hm
    exact hstk b q2 q1 hb
   have slt:∀ b o,s2.heap.get? b = some o -> H2 b = none -> b ∈ frs X.stack -> ∃ sl,(h5.update T (Obj.mapFields (·.setIfInBounds 3 v))).get? b = some { o with slots:=sl }:=fun b o hb h0 hf=>by
    obtain ⟨sl,e1⟩:=U1.slot b o hb h0 hf (nfp b hf)
    obtain ⟨o',ho',hnf⟩:=fo b hf
    rw [hb] at ho'; cases ho'
    obtain ⟨sl2,e2⟩:=frm b _ e1 hnf (old b o hb)
    exact ⟨sl2,e2⟩
   have un:Un (frs X.stack) fp H2 H' s2.heap (h5.update T (Obj.mapFields (·.setIfInBounds 3 v))):=by
    refine ⟨fun b o hb h0 hf hp=>B5 b o (old b o hb) ((kp b o hb hf hp).1 h0),fun b o hb h0 hf hp=>slt b o hb h0 hf,U1.free,fun b o hb hp=>?_,U1.tups,U1.frzs,U1.tbls⟩
    by_cases hf:b ∈ frs X.stack
    ·obtain ⟨sl,e⟩:=slt b o hb (I2.stkFree b hf) hf
     exact ⟨_,e⟩
    ·obtain ⟨o',e⟩:=(kp b o hb hf hp).2
     exact ⟨o',B5 b o' (old b o hb) e⟩
   have trB:∀ b u,H' b = some u -> ∃ o,(PySem.W.hideAll B [Cd]).get? b = some o:=fun b u e=>by
    obtain ⟨o,q⟩:=tr b u e
    exact ⟨o,hB' (fun z=>by rw [z,hfC] at e; cases e) q⟩
   have st6:(PySem.W.hideAll B [Cd]).StaysIn (h5.update T (Obj.mapFields (·.setIfInBounds 3 v))):=fun b o q=>B5 b o (ofB' q).1 (ofB' q).2
   have ff:(h5.update T (Obj.mapFields (·.setIfInBounds 3 v))).FunFrames (PySem.W.hideAll B [Cd]) X.stack:=by
    have base:∀ l:List Env,(∀ b ∈ frs l,b ∈ frs X.stack) -> h4.FunFrames B l -> (h5.update T (Obj.mapFields (·.setIfInBounds 3 v))).FunFrames (PySem.W.hideAll B [Cd]) l:=by
     intro l
     induction l with
     | nil=>intro _ _; trivial
     | cons en r ih=>
      intro hs hl
      obtain ⟨hk,⟨L1,o1,hf1,hn1,ho1,hd1⟩,hr⟩:=hl
      have hL1:L1 ∈ frs X.stack:=hs L1 (by unfold frs; rw [List.filterMap_cons,hf1]; exact List.mem_cons_self)
      obtain ⟨o2,ho2,_⟩:=fo L1 hL1
      refine ⟨hk,⟨L1,o1,hf1,noB' hn1,?_,hd1⟩,ih (fun b hb=>hs b (by unfold frs; rw [List.filterMap_cons,hf1]; exact List.mem_cons_of_mem _ hb)) hr⟩
      exact (oth L1 fun q=>by rw [q,hT] at ho1; cases ho1; exact hd1 ts hdT).trans ((hsb.2 L1 (old L1 o2 ho2)).trans ho1)
    rw [hst]
    exact base (e0 :: out0) (fun b hb=>by rw [hst]; exact hb) g3
   refine ⟨⟨pins,σ,I2.call' (ch:=fp) I1.os un (HOk.onB I1.hok trB (fun b o q=>k1 b o (ofB' q).2) st6) I1.bare (fun b hb=>?_),.inr ⟨PySem.W.hideAll B [Cd],a0,v,⟨st6,noB' g2,ff,oe,vs,T,_,_,(oth a (Ne.symm hTe)).trans he5,hcls,hd,hv1,noB' hnT,hTe,hT6,Obj.data_mapFields hdT _,by simp [hsz3]⟩,trB,fun b o hb hn hnx=>?_,fun p hp=>?_⟩⟩⟩
   ·obtain ⟨_,f1',f2',f3',f4',f5'⟩:=f2 b hb
    exact ⟨f3',f1',f4',f5'⟩
   ·have nfs:b ∉ X.fs:=fun z=>hn (by
     rcases I2.ok.stk with e | ⟨e,_⟩
     ·rw [e]; exact z
     ·rw [e]
      obtain ⟨e',he',hf'⟩:=List.mem_filterMap.mp z
      exact List.mem_filterMap.mpr ⟨e',.tail _ he',hf'⟩)
    have np:b ∉ fp:=fun z=>by
     rcases (f2 b z).2.2.2.1 with q | q
     ·exact hnx q
     ·exact absurd (Nat.lt_of_lt_of_le (Heap.lt_size hb) q) (Nat.lt_irrefl _)
    obtain ⟨o2,ho2⟩:=I2.base.there b o hb hnx
    have q:=kp b o2 ho2 hn np
    refine ⟨fun h0=>?_,?_⟩
    ·have e2:=I2.base.keep b o hb h0 nfs hnx
     rw [ho2] at e2; cases e2
     exact hB' (old b _ ho2) (q.1 (I2.base.free b _ hb h0 hnx))
    ·obtain ⟨o',e⟩:=q.2
     exact ⟨o',hB' (old b _ ho2) e⟩
   ·obtain ⟨q1,q2,q3,q4,_⟩:=I2.pin p (List.mem_append_left _ hp)
    exact hB' (old _ _ q1) ((kp p.1 p.2 q1 (hstk p.1 q4 q3) fun z=>(f2 _ z).2.2.2.2.2 p (List.mem_append_left _ hp) rfl).1 q2)
  have fly:wpAny (model X.prog X.w) X.A (do setFlight (.ref a) cenv.frame; throw (.ref a):Sem Value) (fun _ _=>False) X.xe { s' with heap:=h5 }:=by
   refine wpAny_bind ?_
   unfold setFlight
   refine wpAny_bind (wpAny_field he5 hd hv1 ?_)
   rw [if_pos (by simp)]
   exact wpAny_setField hT5 hdT hsz3 (wpAny_throw (go _))
  first
   | exact wpAny_bind (wpAny_pure fly)
   | exact fly
 rcases hxx with ⟨h,vs,hm,Ih⟩ | ⟨B,a0,flv,fl,tr,kp,_⟩
 ·have hk:(PySem.W.hideAll h (frs (e0 :: out0))).StaysIn h:=fun b o q=>PySem.W.of_hideAll _ q
  have hin:∀ env ∈ (e0 :: out0),∀ b,env.frame = some b -> b ∈ frs (e0 :: out0):=fun env he b hb=>List.mem_filterMap.mpr ⟨env,he,hb⟩
  have hs0:(cxComp X ls sc Cd s2 H2 fp E').stack = e0 :: out0:=hst
  have hstk2:h.FunFrames X.base (e0 :: out0):=by rw [<- hs0]; exact Ih.stack
  refine Jas hfr hf0 hk (PySem.W.funFrames_hide hstk2 hin) hm fun h' a0 held up=>?_
  refine rest _ a0 h h' Ih hk (fun b u e=>?_) (fun b o hb hn hp=>?_) held ((Heap.UpToSlots.of_keeps hm.keeps).trans up)
  ·obtain ⟨o,ho⟩:=HOk.has Ih.hok e
   exact ⟨o,PySem.W.hideAll_get _ ho fun z=>by rw [Ih.stkFree b (by rw [hs0]; exact z)] at e; cases e⟩
  ·rw [hst] at hn
   refine ⟨fun h0=>PySem.W.hideAll_get _ (Ih.base.keep b o hb h0 (by show b ∉ frs X.stack; rw [hst]; exact hn) hp) hn,?_⟩
   obtain ⟨o',e⟩:=Ih.base.there b o hb hp
   exact ⟨o',PySem.W.hideAll_get _ e hn⟩
 ·have fl':HeldA B (e0 :: out0) a (.ref Cc) a0 flv s'.heap:=by rw [<- hst]; exact fl
  exact Jaz hfr hf0 fl' fun h' held up=>rest B a0 s'.heap h' I' fl.1 tr kp held up
theorem Jdl {elt tg iter:Expr} {ifs:List Expr} {pos:Pos} {nt:Nat} {ps pc pe:Px} {pins:List (Addr × Obj)} {s:Shared} {σ:L2.St} {H:Hp} {env:Fm} {Gd:List D -> Prop} {RR0:Value -> Addr -> Result -> Shared -> Prop} (C:Ctx X G N nm) (h:ScOk N nm ls sc) (hsrc:PI X tg iter (tW X call ps))
  (htg:∀ X',Ctx X' G (ls ++ hidN ls N) sc.names -> TgOk X' tg nt ls.length) (hif:∀ X',Ctx X' G (ls ++ hidN ls N) sc.names -> PIf X' ifs (tT X' call pc)) (helt:∀ X',Ctx X' G (ls ++ hidN ls N) sc.names -> PE X' elt (tI X' call pe))
  (I:L2.Inv X pins σ H s) (r:ReadOk X.K H σ env) (hw:tW X call ps σ H fun J H'=>∃ ds,Walk X.K J H' ds /\ Same H H' /\ ds.length <= lineD /\ (compL nt (evD call pc) (evD call pe) env ds).Good Gd (XW X H))
  (hok:∀ (acc:Addr) (ys:List V) (Hf:Hp) (Cd:Addr) (m:Str -> Option Value) (s4:Shared) (dn:List D),L2.Inv X pins σ Hf s4 -> s4.heap.Ns Cd m -> FpOk X pins Hf Cd -> Hf acc = some (.lst ys) -> H acc = none -> Same H Hf -> Reps X.K Hf dn ys -> Gd dn -> RR0 (.ref acc) Cd (.ok .next) s4) (hRR:∀ acc Cd x s',compErr X Cd x s' -> RR0 acc Cd (.error x) s') :
  wpAny (model X.prog X.w) X.A (eval iter X.env) (fun x s₁=>wpAny (model X.prog X.w) X.A (pyIter x) (fun it s₂=>wpAny (model X.prog X.w) X.A (newList []) (fun acc s₃=>
   wpAny (model X.prog X.w) X.A (newFunctionEnv sc X.env.globals (closL X.env.cells sc.names []) [] X.env.qual none .none (some X.env)) (fun cenv s₄=>
    codeAny (model X.prog X.w) X.A (.compStart (.ListComp elt [⟨tg,iter,ifs,0⟩] sc pos) 0 it acc { cenv with scope:=relabel sc X.env }) (RR0 acc cenv.locals) s₄) X.xe s₃) X.xe s₂) X.xe s₁) X.xe s:=by
 refine thn (hsrc pins s σ H _ I hw) fun v s1 h1=>thn h1 fun itv s2 h2=>?_
 obtain ⟨it,fp,tn,J,H2,rfl,I2,T,st2,f2,ds,hW,s02,hz,hG2⟩:=h2
 refine wpAny_newObj_type (Jaa ?_)
 dsimp only
 generalize hH2:s2.heap.push { cls:=.type "list",dict:=none,data:=.seq ([]:List Value).toArray } = Hh
 obtain ⟨h₁,hh₁⟩:∃ h₁,h₁ = pushCells (Hh.push { cls:=.type "dict",data:=.dict #[] }) sc.names:=⟨_,rfl⟩
 rw [<- hh₁]
 have hns₁:h₁.Ns Hh.objs.size (fun _=>none):=hh₁ ▸ (Heap.Ns.new Hh (.type "dict")).keeps (pushCells_keeps _ _)
 have hC:Hh.objs.size = s2.heap.objs.size + 1:=by rw [<- hH2,Heap.size_push]
 have hlt:∀ b o,s2.heap.get? b = some o -> b < s2.heap.objs.size:=fun b o e=>Heap.lt_size e
 have old:∀ b o,s2.heap.get? b = some o -> h₁.get? b = some o:=fun b o e=>by
  rw [hh₁]
  exact pushCells_keeps _ _ _ _ (Heap.get?_push_of_some _ (hH2 ▸ Heap.get?_push_of_some _ e))
 have hacc:h₁.get? s2.heap.objs.size = some (listObj [] 0):=by
  rw [hh₁]
  exact pushCells_keeps _ _ _ _ (Heap.get?_push_of_some _ (hH2 ▸ Heap.get?_push_size _ rfl))
 have fpl:∀ b ∈ fp,b < s2.heap.objs.size:=fun b hb=>by
  obtain ⟨o,e,_⟩:=T.obj _ _ st2 b hb
  exact hlt b o e
 let RR:Result -> Shared -> Prop:=RR0 (.ref s2.heap.objs.size) Hh.objs.size
 let ce:Env:=compEnvC sc (cellsFrom (Hh.objs.size + 1) sc.names (closL X.env.cells sc.names [])) Hh.objs.size X.env
 let E':Value -> Shared -> Prop:=notedBy (model X.prog X.w) X.A ce fun e s'=>RR (.error e) s'
 let X':Cx:=cxComp X ls sc Hh.objs.size s2 H2 fp E'
 have C':Ctx X' G (ls ++ hidN ls N) sc.names:=Jen C h
 have I4:L2.Inv X' [(s2.heap.objs.size,listObj [] 0)] (List.replicate ls.length none ++ σ) H2 { s2 with heap:=h₁ }:=
  JdV C h hh₁ (Heap.size_push ..) I2 f2 (fun b hb=>let ⟨o,e,_⟩:=T.obj _ _ st2 b hb; ⟨o,e⟩) hC hns₁ old hacc
 have sub:∀ x c,(closL X.env.cells sc.names []).lookup x = some c -> X.env.cells.lookup x = some c:=JE sc.names [] fun x c e=>by simp at e
 have stat:∀ {H':Hp} {o:Obj},(∀ b ∈ fp,H' b = none) -> ∀ b ∈ fp,FpOk X' [(s2.heap.objs.size,o)] H' b:=fun {H' o} hn b hb=>by
  have hb':=fpl b hb
  refine ⟨hn b hb,?_,I4.ok.exfs b hb,.inl hb,(I4.ok.exf b hb).2,fun p hp=>?_⟩
  ·show b ≠ Hh.objs.size
   rw [hC]; exact Nat.ne_of_lt (Nat.lt_succ_of_lt hb')
  ·have e:p = (s2.heap.objs.size,o):=by simpa [X',cxComp] using hp
   rw [e]
   exact Nat.ne_of_gt hb'
 have loop:∀ s₃:Shared,s₃ = { s2 with heap:=h₁ } ->
   codeAny (model X.prog X.w) X.A (.compLoop (.ListComp elt [⟨tg,iter,ifs,0⟩] sc pos) 0 (.ref it) (.ref s2.heap.objs.size) ce) RR s₃:=by
  rintro s₃ rfl
  refine Jbi (fun n s'=>∃ (i:Nat) (lo:L2.St) (H':Hp) (its:List Value) (k:Nat) (ys:List V) (done:List D),L2.Inv X' [(s2.heap.objs.size,listObj its k)] (lo ++ σ) H' s' /\ lo.length = ls.length /\ tn i s'.heap /\ (∀ b ∈ fp,H' b = none) /\
   Same H2 H' /\ Vals ys its /\ Reps X.K H' done ys /\ done.length <= i /\ i <= ds.length /\ n = ds.length - i /\ (compL nt (evD call pc) (evD call pe) env (ds.drop i)).Good (fun rest=>Gd (done ++ rest)) (XW X H)) ?_ ds.length
   ⟨0,List.replicate ls.length none,H2,[],0,[],[],I4,List.length_replicate,T.keep _ _ _ st2 (fun b hb o e=>old b o e),fun b hb=>(f2 b hb).1,Same.refl _,.nil,rfl,Nat.le_refl _,Nat.zero_le _,rfl,by simpa using hG2⟩
  rintro n s' ⟨i,lo,H',its,k,ys,done,I',hlo,st,fr,sm,hv,hr,hdl,hil,rfl,hg⟩
  by_cases hi:i < ds.length
  ·have go:=(hW H' sm).1 i hi
   refine thn (T.item X' rfl rfl rfl C'.calm i _ s' (lo ++ σ) H' X'.xe I' (stat fr) st go) fun r' s4 ⟨u,hr',h4⟩=>?_
   subst hr'
   refine thn h4 fun _ s5 ⟨x,H5,I5,r5,y5,st5,fr5⟩=>?_
   obtain ⟨s45,d,hd,rd⟩:=(hW H' sm).2.2 i x H5 hi y5
   rw [Jbj hd] at hg
   simp only [compL] at hg
   replace hg:=Rs.good_bind.mp hg
   cases hb:bindT nt d with
   | stuck=>rw [hb] at hg; exact hg.elim
   | ex c=>exact (Jce hb).elim
   | ok new=>
    rw [hb] at hg
    replace hg:=Rs.good_bind.mp hg
    have I5p:=I5.pinned (stat fr5) (T.obj _ _ st5)
    refine thn (htg X' C' _ s5 lo σ H5 d x u new (fun σ' H''=>∃ lo':L2.St,σ' = lo' ++ σ /\ lo'.length = ls.length /\ H5 = H'' /\ ReadOk X.K H5 (lo' ++ σ) (new ++ env)) hlo I5p r5 rd hb fun lo' l1 l2 hn=>
     ⟨lo',rfl,l1,rfl,ReadOk.front (l1.trans l2.symm) hn (r.mono ((s02.trans sm).trans s45))⟩) fun _ s6 ⟨σ6,H6,I6,lo',e6,l6,e7,rd6⟩=>?_
    subst e6; subst e7
    refine thn (hif X' C' _ s6 _ _ (fun b H7=>Same H5 H7 /\ (if b = true then ((evD call pe (new ++ env)).bind fun y=>(compL nt (evD call pc) (evD call pe) env (ds.drop (i + 1))).bind fun ys=>Rs.ok (y :: ys)).Good (fun rest=>Gd (done ++ rest)) (XW X H)
     else (compL nt (evD call pc) (evD call pe) env (ds.drop (i + 1))).Good (fun rest=>Gd (done ++ rest)) (XW X H))) I6 ⟨new ++ env,rd6,Rs.good_calm (hg.mono (fun d' hd'=>?_) fun c z=>z)⟩) fun ok s7 ⟨H7,I7,s57,q7⟩=>?_
    ·cases d' with
     | bl b=>
      refine ⟨b,rfl,fun H7 s57=>⟨s57,?_⟩⟩
      cases b with
      | true=>exact iteT hd'
      | false=>exact iteF hd'
     | _=>exact hd'.elim
    have tn7:∀ {s9:Shared} {H9:Hp} {o:Obj} {σ9:L2.St},L2.Inv X' ([(s2.heap.objs.size,o)] ++ pinsAt fp s5.heap) σ9 H9 s9 -> tn (i + 1) s9.heap /\ ∀ b ∈ fp,H9 b = none:=fun {s9 H9 o σ9} I9=>by
     refine ⟨T.keep _ _ _ st5 fun b hb o' e=>(I9.pin (b,o') (List.mem_append_right _ (List.mem_append_right _ (JH hb e)))).1,fun b hb=>?_⟩
     obtain ⟨o',e,_⟩:=T.obj _ _ st5 b hb
     exact (I9.pin (b,o') (List.mem_append_right _ (List.mem_append_right _ (JH hb e)))).2.1
    cases ok with
    | false=>
     rw [if_neg Bool.false_ne_true]
     have q7':(compL nt (evD call pc) (evD call pe) env (ds.drop (i + 1))).Good (fun rest=>Gd (done ++ rest)) (XW X H):=by
      rw [if_neg Bool.false_ne_true] at q7; exact q7
     obtain ⟨t7,f7⟩:=tn7 I7
     exact ⟨ds.length - (i + 1),by omega,i + 1,lo',H7,its,k,ys,done,I7.unpinned,l6,t7,f7,(sm.trans s45).trans s57,hv,hr.mono (s45.trans s57),by omega,by omega,rfl,q7'⟩
    | true=>
     rw [if_pos rfl]
     rw [if_pos rfl] at q7
     replace q7:=Rs.good_bind.mp q7
     refine thn (helt X' C' _ s7 _ _ (fun v8 H8=>Same H7 H8 /\ ∃ y,Rep X.K H8 y v8 /\ (compL nt (evD call pc) (evD call pe) env (ds.drop (i + 1))).Good (fun rest=>Gd (done ++ (y :: rest))) (XW X H)) I7
      ⟨new ++ env,rd6.mono s57,q7.mono (fun y hy v8 H8 s78 r8=>⟨s78,y,r8,Rs.good_bind.mp hy⟩) fun c z C0 H0 hm0 s0 a0 s0' F0=>wpAny_mono (JfX C I2 f2 (by rw [hC]; exact Nat.le_succ _) F0 (fun s5 F5=>z C0 H0 hm0 (((s02.trans sm).trans s45).trans (s57.trans s0)) a0 s5 F5) rfl) (fun _ _ e=>hRR _ _ _ _ e) fun _ _ e=>hRR _ _ _ _ e⟩) fun u8 s8 ⟨v8,H8,I8,r8,s78,y,ry,q8⟩=>?_
     have e8:=(I8.pin (s2.heap.objs.size,listObj its k) (by simp)).1
     have hlen:its.length <= lineD:=by
      have h1:=hv.length
      have h2:=hr.length
      omega
     refine call_meets F.slot_list_append ⟨_,e8,rfl⟩ F.entry_list_append (F.args_list_append_2 _ _) (PySem.list_append s2.heap.objs.size its.toArray k u8 (by rw [List.size_toArray,sizeLine_eq]; exact hlen)) ⟨e8,?_⟩
     have q9:=PySem.IsL.update e8 (fun x=>x.push u8)
     have hpush:its.toArray.push u8 = (its ++ [u8]).toArray:=by simp
     rw [hpush] at q9
     obtain ⟨k9,q9⟩:∃ k9,(s8.heap.update s2.heap.objs.size (Obj.mapSeq fun x=>x.push u8)).get? s2.heap.objs.size = some (listObj (its ++ [u8]) k9):=⟨_,q9⟩
     have nacc:=(I8.pin (s2.heap.objs.size,listObj its k) (by simp)).2
     have I8u:L2.Inv X' (pinsAt fp s5.heap) (lo' ++ σ) H8 s8:=I8.pins_of fun p hp=>I8.pin p (List.mem_append_right _ (List.mem_append_right _ hp))
     have I9:L2.Inv X' (pinsAt fp s5.heap) (lo' ++ σ) H8 { s8 with heap:=s8.heap.update s2.heap.objs.size (Obj.mapSeq fun x=>x.push u8),toks:=s8.toks }:=by
      refine I8u.turned (it:=s2.heap.objs.size) (fun b o hb e=>(Heap.get?_update_other s8.heap _ (Ne.symm hb)).trans e) nacc.1 nacc.2.1 (.inr (Nat.le_refl _)) (fun x c e=>?_) (fun p hp=>?_)
      ·rcases JbJ _ _ _ _ _ e with q | ⟨q,_⟩
       ·obtain ⟨v0,o0,h0,_⟩:=I2.cell x c (sub x c q)
        exact Nat.ne_of_lt (hlt c o0 h0)
       ·rw [hC] at q; exact Nat.ne_of_gt (Nat.lt_of_lt_of_le (Nat.lt_succ_of_lt (Nat.lt_succ_self _)) q)
      ·have hp':p ∈ pinsAt fp s5.heap:=by simpa [X',cxComp] using hp
       exact Nat.ne_of_lt (fpl _ (Jbv hp').1)
     have I10:L2.Inv X' ([(s2.heap.objs.size,listObj (its ++ [u8]) k9)] ++ pinsAt fp s5.heap) (lo' ++ σ) H8 { s8 with heap:=s8.heap.update s2.heap.objs.size (Obj.mapSeq fun x=>x.push u8),toks:=s8.toks }:=
      I9.pins_of fun p hp=>(List.mem_append.mp hp).elim (fun z=>by
       have e:p = (s2.heap.objs.size,listObj (its ++ [u8]) k9):=by simpa using z
       subst e
       exact ⟨q9,nacc.1,nacc.2.1,nacc.2.2.1,fun v z=>(by cases z)⟩) fun z=>I9.pin p (List.mem_append_right _ z)
     obtain ⟨t10,f10⟩:=tn7 I10
     refine ⟨ds.length - (i + 1),by omega,i + 1,lo',H8,its ++ [u8],_,ys ++ [v8],done ++ [y],I10.unpinned,l6,t10,f10,((sm.trans s45).trans s57).trans s78,hv.append (.cons r8 .nil),(hr.mono ((s45.trans s57).trans s78)).append (Reps.one ry),?_,by omega,rfl,?_⟩
     ·rw [List.length_append,List.length_singleton]; omega
     ·simpa using q8
  ·-- the end
   have hie:i = ds.length:=by omega
   subst hie
   rw [List.drop_length] at hg
   simp only [compL] at hg
   have hg':Gd done:=by
    have hg2:Gd (done ++ []):=hg
    simpa using hg2
   refine thn (T.done X' rfl rfl rfl C'.calm ds.length _ s' (lo ++ σ) H' X'.xe I' (stat fr) st (hW H' sm).2.1) fun r' s4 ⟨hr',I5⟩=>?_
   subst hr'
   obtain ⟨m',hn',_⟩:=I5.loc
   have nacc:=I5.pin (s2.heap.objs.size,listObj its k) (by simp)
   have hlen:ys.length <= sizeLine:=by
    have h2:=hr.length
    rw [sizeLine_eq]
    have h3:lineD = 16777216:=rfl
    omega
   have HC:H' Hh.objs.size = none:=I5.free
   have okH:HOk X.prog X.w (upd H' s2.heap.objs.size (.lst ys)) s4.heap:=by
    intro b o e
    by_cases hb:b = s2.heap.objs.size
    ·subst hb
     rw [Jm] at e
     cases e
     exact ⟨hlen,its,k,hv,nacc.1⟩
    ·rw [Jh hb] at e
     have ok5:ObjOk X.prog X.w H' s4.heap b o:=I5.hok b o e
     refine ok5.stay (fun c w' hc q=>q) (fun c q=>?_) (fun c xs q=>?_) fun c o' u' q=>?_
     ·by_cases hcb:c = s2.heap.objs.size
      ·subst hcb; rw [nacc.2.1] at q; cases q
      ·rw [Jh hcb]; exact q
     ·by_cases hcb:c = s2.heap.objs.size
      ·subst hcb; rw [nacc.2.1] at q; cases q
      ·rw [Jh hcb]; exact q
     ·by_cases hcb:c = s2.heap.objs.size
      ·subst hcb; rw [nacc.2.1] at q; cases q
      ·rw [Jh hcb]; exact q
   have un:Un (frs X.stack) fp H2 (upd H' s2.heap.objs.size (.lst ys)) s2.heap s4.heap:=by
    have U:Un (frs X.stack) fp H2 H' s2.heap s4.heap:=I5.base
    have ne1:∀ b o,s2.heap.get? b = some o -> b ≠ s2.heap.objs.size:=fun b o e=>Nat.ne_of_lt (hlt b o e)
    have neH:∀ b u,H2 b = some u -> b ≠ s2.heap.objs.size:=fun b u e z=>by rw [z,I2.hok.fresh (Nat.le_refl _)] at e; cases e
    refine ⟨U.keep,U.slot,fun b o e n h2=>?_,U.there,fun b xs e=>?_,fun b o u e=>?_,fun b ps' e=>?_⟩
    ·rw [Jh (ne1 b o e)]; exact U.free b o e n h2
    ·rw [Jh (neH b _ e)]; exact U.tups b xs e
    ·rw [Jh (neH b _ e)]; exact U.frzs b o u e
    ·rw [Jh (neH b _ e)]; exact U.tbls b ps' e
   have If:L2.Inv X pins σ (upd H' s2.heap.objs.size (.lst ys)) s4:=I2.call' (ch:=fp) I5.os un okH I5.bare fun b hb=>by
    obtain ⟨_,f1',f2',f3',f4',f5'⟩:=f2 b hb
    exact ⟨f3',f1',f4',f5'⟩
   have sH:Same H' (upd H' s2.heap.objs.size (.lst ys)):=fun b o e=>by
    rw [Jh (Je e nacc.2.1)]; exact e
   have hCn:upd H' s2.heap.objs.size (.lst ys) Hh.objs.size = none:=by
    rw [Jh (by rw [hC]; exact Nat.succ_ne_self _)]; exact HC
   exact hok s2.heap.objs.size ys _ Hh.objs.size m' s4 done If hn' (I2.fpOk (by rw [hC]; exact Nat.le_succ _) hCn) Jm (s02.free (I2.hok.fresh (Nat.le_refl _))) ((s02.trans sm).trans sH) (hr.mono sH) hg'
 exact codeAny_compStart_list (loop _ rfl) (T.self _ 0 _ _ _ (T.keep _ _ _ st2 fun b hb o e=>old b o e) (loop _ rfl))
theorem JdM {nt:Nat} {ps pc pe:Px} {σ:L2.St} {H:Hp} {env:Fm} {Q:VK} (r:ReadOk X.K H σ env) (hG:(evD call (.comp nt ps pc pe) env).Good (OutF X H Q) (XW X H)) :
  tW X call ps σ H fun J H'=>∃ ds,Walk X.K J H' ds /\ Same H H' /\ ds.length <= lineD /\ (compL nt (evD call pc) (evD call pe) env ds).Good (fun ys=>OutF X H Q (.lst ys)) (XW X H):=by
 simp only [evD] at hG
 refine ⟨env,r,(Rs.good_bind.mp hG).imp fun d hd=>?_⟩
 cases d with
 | lst ds=>
  simp only [D.asL,Rs.bind_ok] at hd
  split at hd
  ·rename_i hz
   exact ⟨ds,rfl,fun J H' s1 w _=>⟨ds,w,s1,hz,Rs.good_bind.mp hd⟩⟩
  ·exact hd.elim
 | _=>exact hd.elim
theorem Jhz {pins:List (Addr × Obj)} {s:Shared} {σ:L2.St} {H:Hp} {Cd:Addr} {h':Heap} (I:L2.Inv X pins σ H s) (f:FpOk X pins H Cd) (hsb:Heap.SameBut Cd s.heap h'):L2.Inv X pins σ H { s with heap:=h' }:=by
 obtain ⟨f0,f1,f2,f3,f4,f5⟩:=f
 exact I.turned (t':=s.toks) (fun b o hb e=>(hsb.2 b hb).trans e) f0 f1 f3 f4 f5
theorem JfM {elt tg iter:Expr} {ifs:List Expr} {pos:Pos} {nt:Nat} {ps pc pe:Px} (C:Ctx X G N nm) (h:ScOk N nm ls sc) (hsrc:PI X tg iter (tW X call ps))
  (htg:∀ X',Ctx X' G (ls ++ hidN ls N) sc.names -> TgOk X' tg nt ls.length) (hif:∀ X',Ctx X' G (ls ++ hidN ls N) sc.names -> PIf X' ifs (tT X' call pc)) (helt:∀ X',Ctx X' G (ls ++ hidN ls N) sc.names -> PE X' elt (tI X' call pe))
  (hs:∀ x,foldedSetIterable iter X.env x = pure x:=by intro _; rfl):PE X (.ListComp elt [⟨tg,iter,ifs,0⟩] sc pos) (tF X call (.comp nt ps pc pe)):=by
 intro pins s σ H Q I ⟨env,r,hG⟩
 rw [eval_ListComp]
 refine wpAny_comprehension_free (use:=none) rfl hs (JaE (h.cells C I.ok)) h.kind (fun y hy e=>((h.at hy).2.2 e).1) (Jdl (RR0:=fun acc C=>compPost (model X.prog X.w) X.A X.xe none (EP X pins σ Q) acc C) C h hsrc htg hif helt I r (JdM r hG) ?_ fun _ _ _ _ e=>e)
 intro acc ys Hf Cd m s4 dn If hn f ha h0 sm rs hg
 refine ⟨m,hn,fun h' hsb=>⟨.ref acc,Hf,Jhz If f hsb,rfl,?_⟩⟩
 obtain ⟨ds',e',hQ⟩:=hg
 cases e'
 exact hQ acc ys Hf sm h0 ha rs
end
end Rd
namespace Rd
open PySem PySem.Spec PyProof.Rows L2 Pu
open PySem.SeqAt (EqAt RcAt RcNeAt)
theorem JcE (l b:Addr) (items items2:Array Value) (n n2:Nat) (dd dd2:Option Addr) (sl sl2:Array (Option Value)) (hc0:items.size + items2.size <= sizeLine) :
  Meets (Builtin.«list.__add__» ⟨[.ref l,.ref b],[]⟩) (fun _ R s=>s.heap.get? l = some { cls:=.type "list",dict:=dd,data:=.seq items n,slots:=sl } /\ s.heap.get? b = some { cls:=.type "list",dict:=dd2,data:=.seq items2 n2,slots:=sl2 } /\ R (.ok (.ret (Value.ref s.heap.objs.size))) { s with heap:=s.heap.push { cls:=Value.type "list",data:=Data.seq (items ++ items2) },toks:=s.toks }):=
 .of_wp fun prog w A R s h=>by
  obtain ⟨hp,g,d,tk,os⟩:=s; obtain ⟨hl,hb,h⟩:=h; have f1:=AutoSeq1.idx_int; have f2:=AutoSeq1.sub_tuple_tuple; have f3:=AutoSeq1.sub_list_list; have f4:=AutoSeq1.sub_tuple_list; have f5:=AutoSeq1.sub_list_tuple
  wp_walk using AutoSeq1.wpAny_loadPart' hl,AutoSeq1.wpAny_loadPart' hb; exact ⟨_,rfl,h⟩
theorem Jdu {prog:Program} {w:World} {A:Around} {E:Value -> Shared -> Prop} {s:Shared} {l b:Addr} {items items2:Array Value} {Q:Value -> Shared -> Prop} (hl:s.heap.IsList l items) (hb:s.heap.IsList b items2)
  (h:Q (.ref s.heap.objs.size) { s with heap:=s.heap.push { cls:=.type "list",data:=.seq (items ++ items2) } }) (hsz:items.size + items2.size <= sizeLine):wpAny (model prog w) A (binaryOp .Add (.ref l) (.ref b)) Q E s:=by
 obtain ⟨⟨cls,dd,data,sl⟩,ho,hc,n,hd⟩:=id hl
 obtain ⟨⟨cls2,dd2,data2,sl2⟩,ho2,hc2,n2,hd2⟩:=id hb
 simp only at hc hd hc2 hd2
 subst hc hd hc2 hd2
 exact concat_meets ⟨_,ho,rfl⟩ ⟨_,ho2,rfl⟩ PySem.noFill_list_add PySem.seq_list_add F.slot_list_add F.entry_list_add (F.args_list_add_2 _ _) (JcE l b items items2 n n2 dd dd2 sl sl2 hsz) ⟨ho,ho2,h⟩
theorem Jef {prog:Program} {w:World} {A:Around} {E:Value -> Shared -> Prop} {s:Shared} {t b:Addr} {ws:List Value} {Q:Value -> Shared -> Prop} (ht:IsTup s.heap t ([]:List Value).toArray) (hb:IsTup s.heap b ws.toArray)
  (h:Q (.ref b) s):wpAny (model prog w) A (binaryOp .Add (.ref t) (.ref b)) Q E s:=by
 obtain ⟨⟨cls,dd,data,sl⟩,ho,hc,n,hd⟩:=id ht
 obtain ⟨⟨cls2,dd2,data2,sl2⟩,ho2,hc2,n2,hd2⟩:=id hb
 simp only at hc hd hc2 hd2
 subst hc hd hc2 hd2
 exact concat_meets ⟨_,ho,rfl⟩ ⟨_,ho2,rfl⟩ noFill_tuple_add seq_tuple_add PySem.F.slot_tuple_add PySem.F.entry_tuple_add (PySem.F.args_tuple_add_2 _ _)
   (tuple_addW0 t b ([]:List Value).toArray ws.toArray n n2 dd dd2 sl sl2 (by simp)) ⟨ho,ho2,h⟩
section
variable {X:Cx}
theorem JD {n:Nat} (h:n <= lineD):n <= sizeLine:=by rw [sizeLine_eq]; exact h
theorem JfH:OpR X (binaryOp .Add) (rD2 X .add):=by
 intro pins s σ H x y v u Q I rx ry ⟨dx,dy,r1,r2,h⟩
 cases dx <;> cases dy <;> first
  | exact (show False from h).elim
  | exact JhK pins s σ H x y v u Q I rx ry ⟨_,_,r1,r2,Out.now h rfl⟩
  | skip
 ·simp only [op2] at h
  split at h
  ·rename_i hz
   exact Jcj pins s σ H x y v u Q I rx ry ⟨_,_,r1,r2,JD hz,Out.now h rfl⟩
  ·exact h.elim
 ·rename_i ds es
  simp only [op2] at h
  split at h
  ·rename_i hz
   obtain ⟨a,xs,rfl,h1,h2⟩:=r1
   obtain ⟨b,ys,rfl,h3,h4⟩:=r2
   have l1:=h2.length
   have l2:=h4.length
   by_cases hx:xs = []
   ·subst hx
    have hd:ds = []:=h2.nil_iff.mp rfl
    subst hd
    cases rx
    cases ry
    obtain ⟨its,q1,p1,_⟩:=I.tuple h1
    obtain ⟨its2,q2,p2,_⟩:=I.tuple h3
    cases q1
    exact Jef p1 p2 ⟨.ref b,H,I,rfl,Out.now h ⟨b,ys,rfl,h3,h4⟩⟩
   ·refine JfP pins s σ H _ _ v u Q I rx ry ⟨a,b,xs,ys,rfl,rfl,h1,h3,hx,JD (by rw [l1,l2]; exact hz),fun hy=>?_,fun hy p hp=>?_⟩
    ·have he:es = []:=h4.nil_iff.mp hy
     subst he
     exact Out.now h ⟨a,xs,rfl,h1,by simpa using h2⟩
    ·obtain ⟨s1,q1⟩:=JbD (K:=X.K) hp (h2.append h4)
     exact h _ _ s1 q1
  ·exact h.elim
 ·rename_i ds es
  simp only [op2] at h
  split at h
  ·rename_i hz
   obtain ⟨a,xs,rfl,h1,h2⟩:=r1
   obtain ⟨b,ys,rfl,h3,h4⟩:=r2
   have l1:=h2.length
   have l2:=h4.length
   cases rx
   cases ry
   obtain ⟨its,q1,p1,_⟩:=I.list h1
   obtain ⟨its2,q2,p2,_⟩:=I.list h3
   have l3:=q1.length
   have l4:=q2.length
   have hz':xs.length + ys.length <= sizeLine:=JD (by rw [l1,l2]; exact hz)
   refine Jdu p1.isList p2.isList ?_ (by rw [List.size_toArray,List.size_toArray]; omega)
   have ea:its.toArray ++ its2.toArray = (its ++ its2).toArray:=by simp
   rw [ea]
   obtain ⟨s1,w1⟩:=Jea (K:=X.K) (xs:=xs ++ ys) I.fresh (h2.append h4)
   exact ⟨.ref _,_,I.lnew (t':=s.toks) (q1.append q2) (by rw [List.length_append]; exact hz'),rfl,h _ _ s1 w1⟩
  ·exact h.elim
theorem Jcc {α:Type} (xs:Array α):∀ (n:Nat) (acc:Array α),((List.replicate n xs).foldl (· ++ ·) acc).size = acc.size + n * xs.size
 | 0,acc=>by simp
 | n + 1,acc=>by
  rw [List.replicate_succ,List.foldl_cons,Jcc xs n,Array.size_append,Nat.succ_mul]
  omega
theorem Jgd:OpR X (binaryOp .Mult) (rD2 X .mul):=by
 intro pins s σ H x y v u Q I rx ry ⟨dx,dy,r1,r2,h⟩
 cases dx <;> cases dy <;> first
  | exact (show False from h).elim
  | skip
 ·rename_i i j
  simp only [op2] at h
  split at h
  ·rename_i hz
   refine Jgk pins s σ H x y v u Q I rx ry ⟨i,j,r1,r2,?_,Out.now h rfl⟩
   simp only [smallI,Bool.or_eq_true,Bool.and_eq_true,decide_eq_true_eq] at hz
   exact hz
  ·exact h.elim
 ·rename_i i j
  simp only [op2] at h
  split at h
  ·rename_i hz
   obtain ⟨h1,h2,h3,h4⟩:=hz
   have e1:x = V.str i:=r1
   have e2:y = V.int j:=r2
   subst e1 e2
   obtain ⟨t,rfl⟩:=rx
   obtain ⟨t',rfl⟩:=ry
   have hm:i.length * j.toNat <= 1000 * 1000:=Nat.mul_le_mul h4 (by omega)
   have hk:PySem.Builtin.Str.tooLong (i.length * j.toNat) = false:=by
    unfold PySem.Builtin.Str.tooLong
    rw [decide_eq_false]
    have:=sizeLine_eq
    omega
   have hg:(j == 1 || i.length == 0) = false:=by
    rw [Bool.or_eq_false_iff,beq_eq_false_iff_ne,beq_eq_false_iff_ne]
    omega
   refine P.mul_str ?_ (fun _ _ q=>?_) (fun _ _=>hk) ?_
   ·rw [decide_eq_false (by omega),decide_eq_false (by omega)]; rfl
   ·have:(1000:Int) <= (2 ^ 63 - 1) / j:=by
     refine (Int.le_ediv_iff_mul_le (by omega)).mpr ?_
     omega
    omega
   ·rw [if_neg (by omega),if_neg (by rw [hg]; exact Bool.false_ne_true)]
    refine ⟨?_,⟨.str (repS i j),H,I.tok _,⟨_,rfl⟩,Out.now h rfl⟩⟩
    have e:(⟨(List.replicate j.toNat i.cps).foldl (· ++ ·) #[]⟩:Str).length = i.length * j.toNat:=by
     show ((List.replicate j.toNat i.cps).foldl (· ++ ·) #[]).size = _
     rw [Jcc,Nat.mul_comm]
     simp [Str.length]
    rw [e]
    have:=sizeLine_eq
    omega
  ·exact h.elim
theorem JdY:OpR X (binaryOp .FloorDiv) (rD2 X .fdiv):=by
 intro pins s σ H x y v u Q I rx ry ⟨dx,dy,r1,r2,h⟩
 cases dx <;> cases dy <;> first
  | exact (show False from h).elim
  | skip
 rename_i i j
 simp only [op2] at h
 split at h
 ·rename_i hz
  exact Jgc pins s σ H x y v u Q I rx ry ⟨i,j,r1,r2,hz,Out.now h rfl⟩
 ·exact h.elim
theorem JfA:OpR X (binaryOp .Mod) (rD2 X .mod):=by
 intro pins s σ H x y v u Q I rx ry ⟨dx,dy,r1,r2,h⟩
 cases dx <;> cases dy <;> first
  | exact (show False from h).elim
  | skip
 rename_i i j
 simp only [op2] at h
 split at h
 ·rename_i hz
  exact JgX pins s σ H x y v u Q I rx ry ⟨i,j,r1,r2,hz,Out.now h rfl⟩
 ·exact h.elim
theorem JeT (hu:X.A.units + 64 < cLine):OpR X (compareOp .Eq) (rD2 X .eq):=by
 intro pins s σ H x y v u Q I rx ry ⟨dx,dy,r1,r2,h⟩
 have h':(if (okDep dx && okDep dy) = true then Rs.ok (.bl (dx.eqv dy)) else .stuck:Rs D).Good (Out X H Q) (XW X H):=by
  cases dx <;> cases dy <;> exact h
 split at h'
 ·rename_i hd
  simp only [okDep,Bool.and_eq_true,decide_eq_true_eq] at hd
  exact (JfO I 20 X.A dx dy hd.1 (by omega) (by omega) r1 r2 rx ry (by omega)).1 X.prog X.w X.xe _ ⟨.bl _,H,I,rfl,Out.now h' rfl⟩
 ·exact h'.elim
theorem Jdq (hu:X.A.units + 64 < cLine):OpR X (compareOp .NotEq) (rD2 X .ne):=by
 intro pins s σ H x y v u Q I rx ry ⟨dx,dy,r1,r2,h⟩
 have h':(if (okDep dx && okDep dy) = true then Rs.ok (.bl (!dx.eqv dy)) else .stuck:Rs D).Good (Out X H Q) (XW X H):=by
  cases dx <;> cases dy <;> exact h
 split at h'
 ·rename_i hd
  simp only [okDep,Bool.and_eq_true,decide_eq_true_eq] at hd
  exact (JfO I 20 X.A dx dy hd.1 (by omega) (by omega) r1 r2 rx ry (by omega)).2.1 X.prog X.w X.xe _ ⟨.bl _,H,I,rfl,Out.now h' rfl⟩
 ·exact h'.elim
theorem JeX:OpR X (compareOp .Lt) (rD2 X .lt):=by
 intro pins s σ H x y v u Q I rx ry ⟨dx,dy,r1,r2,h⟩
 cases dx <;> cases dy <;> first
  | exact (show False from h).elim
  | exact op_lt pins s σ H x y v u Q I rx ry ⟨_,_,r1,r2,Out.now h rfl⟩
  | exact JdO pins s σ H x y v u Q I rx ry ⟨_,_,r1,r2,Out.now h rfl⟩
theorem JcR:OpR X (compareOp .LtE) (rD2 X .le):=by
 intro pins s σ H x y v u Q I rx ry ⟨dx,dy,r1,r2,h⟩
 cases dx <;> cases dy <;> first
  | exact (show False from h).elim
  | exact op_le pins s σ H x y v u Q I rx ry ⟨_,_,r1,r2,Out.now h rfl⟩
theorem Jgl:OpR X (compareOp .Gt) (rD2 X .gt):=by
 intro pins s σ H x y v u Q I rx ry ⟨dx,dy,r1,r2,h⟩
 cases dx <;> cases dy <;> first
  | exact (show False from h).elim
  | exact op_gt pins s σ H x y v u Q I rx ry ⟨_,_,r1,r2,Out.now h rfl⟩
theorem Jdm:∀ {ds:List D} {j:Nat} {d:D},ds[j]? = some d -> d.dep <= deps ds
 | [],_,_,h=>by simp at h
 | a :: ds,0,d,h=>by simp at h; subst h; simp only [deps]; omega
 | a :: ds,j + 1,d,h=>by
  have:=Jdm (ds:=ds) (j:=j) (d:=d) (by simpa using h)
  simp only [deps]; omega
open Classical in
def eU (ds:List D) (its:List Value) (d:D) (y:Value):Bool:=decide (∃ (j:Nat) (d':D),its[j]? = some y /\ ds[j]? = some d' /\ d'.eqv d = true)
open Classical in
theorem JcK {pins:List (Addr × Obj)} {σ:L2.St} {H:Hp} {s:Shared} (I:L2.Inv X pins σ H s) {ds:List D} {xs:List V} {its:List Value} (hr:Reps X.K H ds xs) (hv:Vals xs its) (pd:deps ds < 1000) {d d':D} {j:Nat} {y:Value} (h1:its[j]? = some y) (h2:ds[j]? = some d') :
  eU ds its d y = d'.eqv d:=by
 have same:∀ k d'',its[k]? = some y -> ds[k]? = some d'' -> d'' = d':=fun k d'' k1 k2=>by
  obtain ⟨x1,e1,r1⟩:=hr.get h2
  obtain ⟨x2,e2,r2⟩:=hr.get k2
  obtain ⟨u1,f1,w1⟩:=hv.get e1
  obtain ⟨u2,f2,w2⟩:=hv.get e2
  rw [h1] at f1; cases f1
  rw [k1] at f2; cases f2
  have:=w1.inj w2
  subst this
  exact Rep.inj I _ (Nat.lt_of_le_of_lt (Jdm k2) pd) (Nat.lt_of_le_of_lt (Jdm h2) pd) r2 r1
 cases e:d'.eqv d with
 | true=>exact decide_eq_true ⟨j,d',h1,h2,e⟩
 | false=>
  refine decide_eq_false ?_
  rintro ⟨k,d'',k1,k2,k3⟩
  rw [same k d'' k1 k2,e] at k3
  cases k3
open Classical in
theorem JbX {pins:List (Addr × Obj)} {σ:L2.St} {H:Hp} {s:Shared} (I:L2.Inv X pins σ H s) {ds:List D} {xs:List V} {its:List Value} (hr:Reps X.K H ds xs) (hv:Vals xs its) (pd:deps ds < 1000) (d:D):its.toArray.any (eU ds its d) = ds.any fun d'=>d'.eqv d:=by
 have l1:=hv.length
 have l2:=hr.length
 rw [show its.toArray.any (eU ds its d) = its.any (eU ds its d) by simp,Bool.eq_iff_iff,List.any_eq_true,List.any_eq_true]
 constructor
 ·rintro ⟨y,hy,e⟩
  obtain ⟨j,d',_,k2,k3⟩:=of_decide_eq_true e
  exact ⟨d',List.mem_of_getElem? k2,k3⟩
 ·rintro ⟨d',hd,e⟩
  obtain ⟨j,hj⟩:=List.getElem?_of_mem hd
  have hjl:j < its.length:=by
   have:=(List.getElem?_eq_some_iff.mp hj).1
   omega
  refine ⟨its[j],List.getElem_mem hjl,?_⟩
  rw [JcK I hr hv pd (List.getElem?_eq_getElem hjl) hj]
  exact e
theorem Jao {pins:List (Addr × Obj)} {σ:L2.St} {H:Hp} {s:Shared} (hu:X.A.units + 64 < cLine) (I:L2.Inv X pins σ H s) {ds:List D} {xs:List V} {its:List Value} (hr:Reps X.K H ds xs) (hv:Vals xs its) {d:D} {x:V} {v:Value} (rd:Rep X.K H d x) (rx:RelV x v) (hd:deps ds <= 20) (hdd:d.dep <= 20) :
  ∀ y,y ∈ its.toArray -> EqAt X.A.in1 s y v (eU ds its d y):=by
 intro y hy
 have hy':y ∈ its:=by simpa using hy
 obtain ⟨j,hj⟩:=List.getElem?_of_mem hy'
 have l1:=hv.length
 have l2:=hr.length
 have hjl:=(List.getElem?_eq_some_iff.mp hj).1
 have hdj:ds[j]? = some (ds.getD j .non):=by
  rw [List.getD_eq_getElem?_getD,List.getElem?_eq_getElem (by omega)]
  rfl
 rw [JcK I hr hv (by omega) hj hdj]
 obtain ⟨x1,e1,r1⟩:=hr.get hdj
 obtain ⟨u1,f1,w1⟩:=hv.get e1
 rw [hj] at f1
 cases f1
 exact (JfO I 20 X.A.in1 _ d (JB hd) (Nat.lt_of_le_of_lt (JB hd) (by decide)) (by omega) r1 rd w1 rx (by show X.A.units + 1 + 20 + 1 < cLine; omega)).2.2
theorem Jcg {x:Str} (h:x.cps = #[x.cps.getD 0 0]):x = ⟨#[x.cps.getD 0 0]⟩:=by
 obtain ⟨c⟩:=x
 show Str.mk c = _
 rw [<- h]
theorem JeZ (hu:X.A.units + 64 < cLine):OpR X (compareOp .In) (rD2 X .isin):=by
 intro pins s σ H x y v u Q I rx ry ⟨dx,dy,r1,r2,h⟩
 cases dy with
 | str z=>
  cases dx with
  | str w=>
   simp only [op2] at h
   split at h
   ·rename_i hc
    refine Jdj pins s σ H x y v u Q I rx ry ⟨w,z,r1,r2,?_⟩
    have e:=PySem.StrLaws.found_one z (w.cps.getD 0 0)
    rw [<- Jcg hc] at e
    rw [e]
    exact Out.now h rfl
   ·exact h.elim
  | _=>exact (show False from h).elim
 | tup ds=>
  have h':(if (okDep (.tup ds) && okDep dx) = true then Rs.ok (.bl (ds.any fun d=>d.eqv dx)) else .stuck:Rs D).Good (Out X H Q) (XW X H):=by
   cases dx <;> exact h
  split at h'
  ·rename_i hc
   have hc':deps ds + 1 <= 20 /\ dx.dep <= 20:=by simpa [okDep,D.dep] using hc
   obtain ⟨a,xs,rfl,h1,h2⟩:=r2
   cases ry
   obtain ⟨its,rv,p,_⟩:=I.tuple h1
   refine SeqAt.in_tupleAt (eU ds its dx) p (Jao hu I h2 rv r1 rx (by omega) hc'.2) ⟨.bl _,H,I,rfl,?_⟩
   rw [JbX I h2 rv (by omega)]
   exact Out.now h' rfl
  ·exact h'.elim
 | lst ds=>
  have h':(if (okDep (.lst ds) && okDep dx) = true then Rs.ok (.bl (ds.any fun d=>d.eqv dx)) else .stuck:Rs D).Good (Out X H Q) (XW X H):=by
   cases dx <;> exact h
  split at h'
  ·rename_i hc
   have hc':deps ds + 1 <= 20 /\ dx.dep <= 20:=by simpa [okDep,D.dep] using hc
   obtain ⟨a,xs,rfl,h1,h2⟩:=r2
   cases ry
   obtain ⟨its,rv,p,_⟩:=I.list h1
   refine SeqAt.in_listAt (eU ds its dx) p.isList (Jao hu I h2 rv r1 rx (by omega) hc'.2) ⟨.bl _,H,I,rfl,?_⟩
   rw [JbX I h2 rv (by omega)]
   exact Out.now h' rfl
  ·exact h'.elim
 | _=>cases dx <;> exact (show False from h).elim
theorem Jdd (hu:X.A.units + 64 < cLine):OpR X (compareOp .NotIn) (rD2 X .notin):=by
 intro pins s σ H x y v u Q I rx ry ⟨dx,dy,r1,r2,h⟩
 cases dy with
 | str z=>
  cases dx with
  | str w=>
   simp only [op2] at h
   split at h
   ·rename_i hc
    refine Jbo pins s σ H x y v u Q I rx ry ⟨w,z,r1,r2,?_⟩
    have e:=PySem.StrLaws.found_one z (w.cps.getD 0 0)
    rw [<- Jcg hc] at e
    rw [e]
    exact Out.now h rfl
   ·exact h.elim
  | _=>exact (show False from h).elim
 | tup ds=>
  have h':(if (okDep (.tup ds) && okDep dx) = true then Rs.ok (.bl (!ds.any fun d=>d.eqv dx)) else .stuck:Rs D).Good (Out X H Q) (XW X H):=by
   cases dx <;> exact h
  split at h'
  ·rename_i hc
   have hc':deps ds + 1 <= 20 /\ dx.dep <= 20:=by simpa [okDep,D.dep] using hc
   obtain ⟨a,xs,rfl,h1,h2⟩:=r2
   cases ry
   obtain ⟨its,rv,p,_⟩:=I.tuple h1
   refine SeqAt.notIn_tupleAt (eU ds its dx) p (Jao hu I h2 rv r1 rx (by omega) hc'.2) ⟨.bl _,H,I,rfl,?_⟩
   rw [JbX I h2 rv (by omega)]
   exact Out.now h' rfl
  ·exact h'.elim
 | lst ds=>
  have h':(if (okDep (.lst ds) && okDep dx) = true then Rs.ok (.bl (!ds.any fun d=>d.eqv dx)) else .stuck:Rs D).Good (Out X H Q) (XW X H):=by
   cases dx <;> exact h
  split at h'
  ·rename_i hc
   have hc':deps ds + 1 <= 20 /\ dx.dep <= 20:=by simpa [okDep,D.dep] using hc
   obtain ⟨a,xs,rfl,h1,h2⟩:=r2
   cases ry
   obtain ⟨its,rv,p,_⟩:=I.list h1
   refine SeqAt.notIn_listAt (eU ds its dx) p.isList (Jao hu I h2 rv r1 rx (by omega) hc'.2) ⟨.bl _,H,I,rfl,?_⟩
   rw [JbX I h2 rv (by omega)]
   exact Out.now h' rfl
  ·exact h'.elim
 | _=>cases dx <;> exact (show False from h).elim
theorem Jdg {K:PySem.W.Frag} {H:Hp} {ds:List D} {xs:List V} {i:Int} {d:D} (hr:Reps K H ds xs) (h:atD ds i = some d):∃ x,atI xs i = some x /\ Rep K H d x:=by
 have l:=hr.length
 unfold atD at h
 unfold atI
 have e:L2.ixN xs.length i = ixn ds.length i:=by rw [l]; rfl
 rw [e]
 cases q:ixn ds.length i with
 | none=>rw [q] at h; cases h
 | some j=>
  rw [q] at h
  exact hr.get h
theorem Jhl:IxR X (rD2 X .idx):=by
 intro value slice pins s σ H x y v u Q I rx ry ⟨dx,dy,r1,r2,h⟩ hs
 cases dx <;> cases dy <;> first
  | exact (show False from h).elim
  | skip
 ·rename_i z i
  simp only [op2] at h
  split at h
  ·rename_i hz
   cases q:atD z.cps.toList i with
   | none=>rw [q] at h; exact h.elim
   | some c=>
    rw [q] at h
    exact JhB value slice pins s σ H x y v u Q I rx ry ⟨z,i,c,r1,r2,JD hz,q,Out.now h rfl⟩ hs
  ·exact h.elim
 ·rename_i ds i
  simp only [op2] at h
  cases q:atD ds i with
  | none=>rw [q] at h; exact h.elim
  | some d=>
   rw [q] at h
   obtain ⟨a,xs,rfl,h1,h2⟩:=r1
   obtain ⟨w,k1,k2⟩:=Jdg h2 q
   exact JgC value slice pins s σ H _ y v u Q I rx ry ⟨a,xs,i,w,rfl,r2,h1,k1,Out.now h k2⟩ hs
 ·rename_i ds i
  simp only [op2] at h
  cases q:atD ds i with
  | none=>rw [q] at h; exact h.elim
  | some d=>
   rw [q] at h
   obtain ⟨a,xs,rfl,h1,h2⟩:=r1
   obtain ⟨w,k1,k2⟩:=Jdg h2 q
   exact JfT value slice pins s σ H _ y v u Q I rx ry ⟨a,xs,i,w,rfl,r2,h1,k1,Out.now h k2⟩ hs
end
end Rd
namespace HT
open PySem PyProof.Rows
theorem JU {prog:Program} {w:World} {A:Around} {E:Value -> Shared -> Prop} {s:Shared} {t sl:Addr} {items:Array Value} {vl vu:Value} {lo hi:Option Int} {Q:Value -> Shared -> Prop} (ht:IsTup s.heap t items) (hs:s.heap.IsSliceOf sl vl vu .none) (pl:IsPart vl lo) (pu:IsPart vu hi)
  (hw:sIx items.size 0 lo = 0 /\ sIx items.size items.size hi = items.size) (h:Q (.ref t) s):wpAny (model prog w) A (getItem (.ref t) (.ref sl)) Q E s:=by
 obtain ⟨os,hos,hcs,hds⟩:=id hs
 have hTs:s.TypeIs (.ref sl) "slice":=⟨os,hos,hcs⟩
 unfold getItem
 try with_reducible refine wpAny_holding ?_
 first | refine wpAny_bind (wpAny_pure ?_) | skip
 refine wpAny_bind (wpAny_sequenceKey ht.typeIs (by decide) ?_)
 refine wpAny_bind (wpAny_callSpecial?_slot (name:=Str.ofString "__getitem__") ht.typeIs PyProof.Rows.slot_tuple_getitem
  (wpAny_call_entry PyProof.Rows.slot_tuple_getitem ht.typeIs entry_tuple_getitem ?_ (args_tuple_getitem _ _)))
 show wpAny _ _ (Builtin.Tuple.tupleItemsOf (.ref t) >>= _) _ _ s
 refine wpAny_bind (tupleItemsOf_ ht ?_)
 refine wpAny_bind (wpAny_typeOf hTs ?_)
 rw [if_pos (by decide)]
 refine wpAny_bind (JC hs pl pu ?_)
 have hyes:(((sIx items.size 0 lo:Nat):Int) == 0 && (1:Int) == 1 && (sIx items.size items.size hi - sIx items.size 0 lo) == items.size) = true:=by
  rw [hw.1,hw.2]; simp
 show wpAny _ _ (if (((sIx items.size 0 lo:Nat):Int) == 0 && (1:Int) == 1 && (sIx items.size items.size hi - sIx items.size 0 lo) == items.size) = true then _ else _) _ _ s
 rw [if_pos hyes]
 have hex:∀ {Q':Bool -> Shared -> Prop},Q' true s -> wpAny (model prog w) A.in1 (Builtin.Tuple.tupleIsExact (.ref t)) Q' E s:=fun {Q'} q=>by
  obtain ⟨o,ho,hc,n,hd⟩:=id ht
  unfold Builtin.Tuple.tupleIsExact
  refine wpAny_bind (wpAny_typeOf (T:="tuple") ⟨o,ho,hc⟩ ?_)
  exact wpAny_pure q
 first
  | exact wpAny_bind (hex (by simp only [if_true]; exact wpAny_bind (wpAny_rule (wpAny_pure ⟨_,rfl,wpAny_pure h⟩))))
  | exact wpAny_bind (wpAny_of_in1 (hex (by simp only [if_true]; exact wpAny_bind (wpAny_rule (wpAny_pure ⟨_,rfl,wpAny_pure h⟩)))))
end HT
namespace Rd
open PySem PySem.Spec PyProof.Rows L2 Pu
open PySem.SeqAt (EqAt RcAt RcNeAt)
section
variable {X:Cx} {call:CallD} {e a b c:Expr} {es:List Expr} {p pa pb pc pl ph:Px} {pos:Pos}
theorem JaX {K:PySem.W.Frag} {H:Hp} {ds:List D} {xs:List V} {lo hi:Option Int} (hr:Reps K H ds xs):Reps K H (cutD ds lo hi) (cutV xs lo hi):=by
 have l:=hr.length
 have e:cutV xs lo hi = (xs.drop (six ds.length 0 lo)).take (six ds.length ds.length hi - six ds.length 0 lo):=by
  unfold cutV; rw [l]; rfl
 rw [e]
 exact (hr.drop _).take _
theorem Jdz {v:Value} {o:Option Int} (h:IsPart v o):∃ p:Option (Int × Tok),v = partValue p /\ p.map (·.1) = o:=by
 cases h with
 | none=>exact ⟨none,rfl,rfl⟩
 | int i t=>exact ⟨some (i,t),rfl,rfl⟩
theorem Jbg (n:Nat) (lo hi:Option Int):Builtin.Str.strSliceIndices lo hi 1 n = (List.range (six n n hi - six n 0 lo)).map fun k=>six n 0 lo + k:=by
 have key:∀ a b:Nat,sliceRange (a:Int) (b:Int) 1 = (List.range (b - a)).map fun k=>a + k:=fun a b=>by
  unfold sliceRange
  have e:(if (a:Int) < b then ((b:Int) - a + 1 - 1) / 1 else 0).toNat = b - a:=by
   split <;> simp <;> omega
  simp only [show (1:Int) > 0 by decide,if_true,e]
  refine List.map_congr_left fun k _=>?_
  omega
 have clip:∀ (v:Option Int) (d:Nat),(match v with | none=>(d:Int) | some i=>max 0 (min (if i < 0 then i + (n:Int) else i) n)) = ((six n d v:Nat):Int):=fun v d=>by
  cases v with
  | none=>rfl
  | some i=>
   unfold six
   by_cases h:i < 0
   ·simp only [h,if_true]; omega
   ·simp only [h,if_false]; omega
 rw [<- key]
 have h1:=clip lo 0
 have h2:=clip hi n
 unfold Builtin.Str.strSliceIndices
 simp only [show (1:Int) > 0 by decide,if_true]
 rw [<- h1,<- h2]
 cases lo <;> cases hi <;> rfl
theorem Jdv (x:Str) (lo hi:Option Int):Txt.slice x lo hi = mkS (Pu.cutD x.cps.toList lo hi):=by
 have hn:x.cps.toList.length = x.length:=Array.length_toList
 have hle:∀ (d:Nat),d <= x.length -> ∀ v,six x.length d v <= x.length:=fun d hd v=>by
  cases v with
  | none=>exact hd
  | some i=>
   simp only [six]
   split <;> omega
 have ha:=hle 0 (Nat.zero_le _) lo
 have hb:=hle x.length (Nat.le_refl _) hi
 have hc:(Builtin.Str.strSliceIndices lo hi 1 x.length).filterMap (x.cps[·]?) = Pu.cutD x.cps.toList lo hi:=by
  rw [Jbg,Pu.cutD,hn]
  have:=StrLaws.picks x.cps.toList (six x.length x.length hi - six x.length 0 lo)
  generalize six x.length 0 lo = a at ha this
  generalize six x.length x.length hi = b at hb this
  by_cases h:a <= b
  ·rw [<- this a (by omega)]
   simp only [Array.getElem?_toList]
  ·rw [show b - a = 0 by omega]; simp
 unfold Txt.slice
 rw [hc]
 split
 ·rename_i h
  have hl:(Builtin.Str.strSliceIndices lo hi 1 x.length).length = x.length:=by simpa using h
  rw [Jbg,List.length_map,List.length_range] at hl
  have h0:six x.length 0 lo = 0:=by omega
  have h1:six x.length x.length hi = x.length:=by omega
  rw [Pu.cutD,hn,h0,h1,Nat.sub_zero,List.drop_zero,<- hn,List.take_length]
  rfl
 ·rfl
def rSlD (X:Cx):V -> Option Int -> Option Int -> Hp -> VK -> Prop:=fun x lo hi H Q=>∃ d,Rep X.K H d x /\ (match d with
 | .tup ds=>Rs.ok (.tup (cutD ds lo hi))
 | .lst ds=>.ok (.lst (cutD ds lo hi))
 | .str x=>if x.length <= 1000 then .ok (.str (mkS (Pu.cutD x.cps.toList lo hi))) else .stuck
 | _=>.stuck:Rs D).Good (Out X H Q) (XW X H)
theorem slD:SlR X (rSlD X):=by
 intro pins s σ H x v vl vu lo hi sl Q I rx hs pl pu ⟨d,r,h⟩
 cases d with
 | tup ds=>
  obtain ⟨a,xs,rfl,h1,h2⟩:=r
  by_cases hw:HT.sIx xs.length 0 lo = 0 /\ HT.sIx xs.length xs.length hi = xs.length
  ·cases rx
   obtain ⟨its,r,ht,hz⟩:=I.tuple h1
   have hlen:its.toArray.size = xs.length:=by rw [List.size_toArray]; exact r.length.symm
   refine ⟨"tuple",_,PyProof.Rows.slot_tuple_getitem.lookup,ht.typeIs,HT.JU ht hs pl pu (by rw [hlen]; exact hw) ⟨.ref a,H,I,rfl,Out.now h ⟨a,xs,rfl,h1,?_⟩⟩⟩
   have e:=JaX (lo:=lo) (hi:=hi) h2
   have e2:cutV xs lo hi = xs:=by unfold cutV; rw [hw.1,hw.2]; simp
   rw [e2] at e
   exact e
  ·refine JgT pins s σ H _ v vl vu lo hi sl Q I rx hs pl pu ⟨a,xs,rfl,h1,hw,fun p hp=>?_⟩
   obtain ⟨s1,q1⟩:=JbD (K:=X.K) hp (JaX (lo:=lo) (hi:=hi) h2)
   exact h _ _ s1 q1
 | lst ds=>
  obtain ⟨a,xs,rfl,h1,h2⟩:=r
  refine Jfp pins s σ H _ v vl vu lo hi sl Q I rx hs pl pu ⟨a,xs,rfl,h1,fun p hp=>?_⟩
  obtain ⟨s1,q1⟩:=Jea (K:=X.K) hp (JaX (lo:=lo) (hi:=hi) h2)
  exact h _ _ s1 q1
 | str x=>
  cases r
  obtain ⟨t,rfl⟩:=rx
  have h:(if x.length <= 1000 then Rs.ok (D.str (mkS (Pu.cutD x.cps.toList lo hi))) else Rs.stuck:Rs D).Good (Out X H Q) (XW X H):=h
  split at h
  ·rename_i hz
   obtain ⟨lo',e1,e2⟩:=Jdz pl
   obtain ⟨hi',e3,e4⟩:=Jdz pu
   obtain ⟨o,ho,hc,hd⟩:=hs
   subst e1 e3 e2 e4
   refine ⟨"str",_,F.slot_str_getitem.lookup,typeIs_str _ _ _,wpAny_getItem_str_slice (l:=lo') (u:=hi') (st:=none) ⟨o,ho,hc,hd⟩ rfl (post_val_or_str ⟨?_,fun t' k=>?_⟩)⟩
   ·exact Nat.le_trans (Txt.slice_le x _ _) (Nat.le_trans hz (show 1000 <= sizeLine by rw [sizeLine_eq]; decide))
   ·refine ⟨.str (Txt.slice x (lo'.map (·.1)) (hi'.map (·.1))),H,I.tok _,⟨_,rfl⟩,?_⟩
    rw [Jdv]
    exact Out.now h rfl
  ·exact h.elim
 | _=>exact h.elim
def tO (X:Cx) (call:CallD) (p:Px):TO:=fun σ H Q=>∃ env,ReadOk X.K H σ env /\ ((evD call p env).bind D.bound).Good (fun o=>∀ H',Same H H' -> Q o H') (XW X H)
theorem JaJ:PO X none (tO X call (.con .non)):=fun pins s σ H Q I ⟨env,r,h⟩=>Jfq pins s σ H Q I (h H (Same.refl H))
theorem JaM (h:PE X e (tI X call p)):PO X (some e) (tO X call (.un .asI p)):=fun pins s σ H Q I ⟨env,r,hg⟩=>Jgg h pins s σ H Q I (by
 simp only [evD,Rs.bind_assoc] at hg
 refine ⟨env,r,(Rs.good_bind.mp hg).imp fun d hd v H' s1 rv=>?_⟩
 cases d with
 | int i=>exact ⟨i,rv,hd H' s1⟩
 | _=>exact (show False from hd).elim)
theorem Jad {lo hi:Option Expr} {p2:Pos} (he:PE X e (tI X call pa)) (hl:PO X lo (tO X call pl)) (hu:PO X hi (tO X call ph)):PE X (.Subscript e (.Slice lo hi none p2) pos) (tI X call (.sl pa pl ph)):=by
 refine PE.weak (JeF slD he hl hu) fun σ H Q ⟨env,r,h⟩=>?_
 simp only [evD] at h
 refine tI.then r h fun d v H1 s1 rv r1 h1=>?_
 rw [<- Rs.bind_assoc] at h1
 refine ⟨env,r1,(Rs.good_bind.mp h1).imp fun l h2 H2 s2=>?_⟩
 rw [<- Rs.bind_assoc] at h2
 refine ⟨env,r1.mono s2,((Rs.good_bind.mp h2).imp fun u h3 H3 s3=>?_).mono (fun _ x=>x) fun c x=>x.mono s2⟩
 refine ⟨d,rv.mono (s2.trans s3),?_⟩
 have h4:=h3.mono (fun d' (o:Out X H1 Q d')=>o.mono (s2.trans s3)) fun c (x:XW X H1 c)=>x.mono (s2.trans s3)
 cases d <;> exact h4
theorem tF.of {σ:L2.St} {H:Hp} {Q:VK} (h:tI X call p σ H Q) (hl:∀ env d,ReadOk X.K H σ env -> evD call p env = .ok d -> ∃ ds,d = .lst ds):tF X call p σ H Q:=by
 obtain ⟨env,r,h⟩:=h
 refine ⟨env,r,?_⟩
 cases q:evD call p env with
 | ok d=>
  rw [q] at h
  obtain ⟨ds,rfl⟩:=hl env d r q
  exact ⟨ds,rfl,fun l xs H' s h1 h2 h3=>h _ _ s ⟨l,xs,rfl,SqL.of h2,h3⟩⟩
 | ex c=>rw [q] at h; exact h
 | stuck=>rw [q] at h; exact h
def isL:Px -> Bool
 | .comp _ _ _ _=>true
 | .dis _=>true
 | _=>false
theorem Jdh {env:Fm} {d:D} (h:isL p = true) (e:evD call p env = .ok d):∃ ds,d = .lst ds:=by
 cases p with
 | comp nt a b c=>
  simp only [evD] at e
  cases q:evD call a env with
  | ok d'=>
   rw [q] at e
   cases d' with
   | lst ds=>
    simp only [Rs.bind_ok,D.asL] at e
    split at e
    ·cases q2:compL nt (evD call b) (evD call c) env ds with
     | ok ys=>rw [q2] at e; cases e; exact ⟨ys,rfl⟩
     | ex c=>rw [q2] at e; cases e
     | stuck=>rw [q2] at e; cases e
    ·cases e
   | _=>cases e
  | ex c=>rw [q] at e; cases e
  | stuck=>rw [q] at e; cases e
 | dis a=>
  simp only [evD] at e
  cases q:evD call a env with
  | ok d'=>
   rw [q] at e
   cases d' with
   | lst ds=>
    simp only [Rs.bind_ok,D.asL] at e
    split at e
    ·cases e; exact ⟨ds,rfl⟩
    ·cases e
   | _=>cases e
  | ex c=>rw [q] at e; cases e
  | stuck=>rw [q] at e; cases e
 | _=>cases h
theorem Ji (h:PE X e (tF X call p)) (hl:isL p = true:=by rfl):PE X e (tI X call p):=PE.weak h fun σ H Q hq=>tF.of hq fun env d _ q=>Jdh hl q
theorem Jp (h:PA X es (tA X call p)):PE X (.List es pos) (tF X call (.dis p)):=by
 refine PE.weak (Jho h) fun σ H Q ⟨env,r,h⟩=>?_
 simp only [evD] at h
 refine ⟨env,r,(Rs.good_bind.mp h).imp fun d hd=>?_⟩
 cases d with
 | lst ds=>
  simp only [D.asL,Rs.bind_ok] at hd
  refine ⟨ds,rfl,fun vs H' s rs=>?_⟩
  split at hd
  ·rename_i hz
   refine ⟨by rw [rs.length,sizeLine_eq]; exact hz,fun a ha=>?_⟩
   obtain ⟨s2,r2⟩:=Jea ha rs
   obtain ⟨ds',e',hQ⟩:=hd
   cases e'
   exact hQ a vs _ (s.trans s2) (s.free ha) Jm (rs.mono s2)
  ·exact hd.elim
 | _=>exact hd.elim
def rC1 (X:Cx) (o:O1):List V -> Hp -> VK -> Prop:=fun xs H Q=>∃ x d,xs = [x] /\ Rep X.K H d x /\ (op1 o d).Good (Out X H Q) (XW X H)
theorem tC1 {o:O1} {σ:L2.St} {H:Hp} {Q:VK} (h:tI X call (.un o pa) σ H Q):tCB (rC1 X o) (tA X call (.cons pa .nil)) σ H Q:=by
 obtain ⟨env,r,h⟩:=h
 simp only [evD] at h
 refine ⟨env,r,?_⟩
 simp only [evD]
 refine Rs.good_bind.mpr ((Rs.good_bind.mp h).imp fun d hd=>?_)
 simp only [Rs.bind_ok,D.asL]
 refine ⟨[d],rfl,fun vs H' s rs=>?_⟩
 obtain ⟨x,r',e',h1,h2⟩:=rs
 cases h2
 subst e'
 exact ⟨x,d,rfl,h1,hd.mono (fun _ o=>o.mono s) fun _ x=>x.mono s⟩
section
variable {G:Gw} {N:List Str} {nm:List (Str × NameKind)} {x:Str} {id T:String} {p1:Pos}
theorem Jfe {o:O1} (C:Ctx X G N nm) (hc:CallR X (.builtin id) (rC1 X o)) (ha:PE X a (tI X call pa)) (hg:gloB nm x = true) (hm:G.mg x = none) (hv:bootBuiltins x = some (.builtin id)) (hn:x ≠ "__name__") (hdb:(x == ("__debug__" : Str)) = false)
  (hs:starEach [a] X.env = (false,eval a X.env) :: starEach [] X.env:=by rfl):PE X (.Call (.Name x p1) [a] [] pos) (tI X call (.un o pa)):=
 PE.weak (JaY hc (C.glo _ hg) (by rw [C.mg]; exact hm) hv (Ja ha Jc hs) hn hdb hs rfl) fun σ H Q h=>tC1 h
theorem pI_ty {o:O1} (C:Ctx X G N nm) (hc:CallR X (.type T) (rC1 X o)) (ha:PE X a (tI X call pa)) (hg:gloB nm x = true) (hm:G.mg x = none) (hv:bootBuiltins x = some (.type T)) (hn:x ≠ "__name__") (hdb:(x == ("__debug__" : Str)) = false)
  (hs:starEach [a] X.env = (false,eval a X.env) :: starEach [] X.env:=by rfl):PE X (.Call (.Name x p1) [a] [] pos) (tI X call (.un o pa)):=
 PE.weak (Jdp hc (C.glo _ hg) (by rw [C.mg]; exact hm) hv (Ja ha Jc hs) hn hdb hs rfl) fun σ H Q h=>tC1 h
end
theorem Jhy:CallR X (.builtin "len") (rC1 X .len):=by
 intro pins s σ H xs us Q I rv ⟨x,d,e,r,h⟩
 subst e
 cases d with
 | str z=>
  simp only [op1] at h
  split at h
  ·rename_i hz
   exact Jbb pins s σ H _ us Q I rv ⟨z,by rw [show x = V.str z from r],JD hz,Out.now h rfl⟩
  ·exact h.elim
 | tup ds=>
  obtain ⟨a,ys,rfl,h1,h2⟩:=r
  exact JY pins s σ H _ us Q I rv ⟨a,ys,rfl,.inr h1,by rw [h2.length]; exact Out.now h rfl⟩
 | lst ds=>
  obtain ⟨a,ys,rfl,h1,h2⟩:=r
  exact JY pins s σ H _ us Q I rv ⟨a,ys,rfl,.inl h1,by rw [h2.length]; exact Out.now h rfl⟩
 | _=>exact (show False from h).elim
theorem Jee:CallR X (.type "tuple") (rC1 X .tuple):=by
 intro pins s σ H xs us Q I rv ⟨x,d,e,r,h⟩
 subst e
 cases d with
 | tup ds=>
  obtain ⟨a,ys,rfl,h1,h2⟩:=r
  exact JM pins s σ H _ us Q I rv ⟨a,ys,rfl,.inr ⟨h1,Out.now h ⟨a,ys,rfl,h1,h2⟩⟩⟩
 | lst ds=>
  obtain ⟨a,ys,rfl,h1,h2⟩:=r
  refine JM pins s σ H _ us Q I rv ⟨a,ys,rfl,.inl ⟨h1,fun l hl=>?_⟩⟩
  obtain ⟨s1,q1⟩:=JbD (K:=X.K) hl h2
  exact h _ _ s1 q1
 | _=>exact (show False from h).elim
theorem JdC {K:PySem.W.Frag} {H:Hp}:∀ {ds:List D} {bs:List Bool} {xs:List V},blsOf ds = some bs -> Reps K H ds xs -> xs = bs.map V.bl
 | [],_,_,h,r=>by
  simp only [blsOf] at h
  cases h
  cases r
  rfl
 | d :: ds,bs,_,h,⟨x,r,e,h1,h2⟩=>by
  subst e
  cases d with
  | bl b=>
   simp only [blsOf] at h
   cases q:blsOf ds with
   | none=>rw [q] at h; cases h
   | some bs'=>
    rw [q] at h
    cases h
    have:=JdC q h2
    subst this
    cases h1
    rfl
  | _=>simp [blsOf] at h
theorem JcS {bs:List Bool}:(List.range bs.length).all (fun i=>bs.getD i false) = bs.all id:=by
 induction bs with
 | nil=>rfl
 | cons b bs ih=>
  rw [List.length_cons,List.range_succ_eq_map,List.all_cons,List.all_map]
  simp only [List.all_cons,<- ih]
  rfl
theorem JdU {pins:List (Addr × Obj)} {σ:L2.St} {H:Hp} {s:Shared} (hcalm:X.calm = true) (I:L2.Inv X pins σ H s) {a:Addr} {bs:List Bool} (h1:SqL X.K H a (bs.map V.bl)) {Q:Value -> Shared -> Prop} {g:Bool} {tr:Nat -> Bool}
  (hq:∀ h' tk,(∀ b o,s.heap.get? b = some o -> h'.get? b = some o) -> Q (.bool g) { s with heap:=h',toks:=tk }) :
  wpAny (model X.prog X.w) X.A.in1 (pyIter (.ref a)) (fun it s₂=>∃ I fp wr n P St tr,it = .ref I /\ Walks X.prog X.w X.A.in1 I fp wr n P St /\ St 0 s₂.heap /\ TruthOf X.prog X.w X.A.in1 P tr /\ n = bs.length /\ tr = (fun i=>bs.getD i false) /\
   ∀ h' tk,(∀ b o,b ∉ wr -> s₂.heap.get? b = some o -> h'.get? b = some o) -> Q (.bool g) { s₂ with heap:=h',toks:=tk }) X.xe s:=by
 obtain ⟨its,rv,p,hz⟩:=I.list h1
 have hh:X.A.in1.handled = none:=by show X.A.handled = none; exact I.ok.hd hcalm
 refine wpAny_pyIter_list p.isList ?_
 obtain ⟨o,ho,_⟩:=p.isList
 have hlt:a < s.heap.objs.size:=Heap.lt_size ho
 refine ⟨s.heap.objs.size,_,_,_,_,_,fun i=>bs.getD i false,rfl,Walks.list hh s.heap.objs.size a (Nat.ne_of_lt hlt) its.toArray,⟨⟨_,Heap.get?_push_size _ rfl,rfl,rfl⟩,p.isList.push _⟩,?_,?_,rfl,fun h' tk k=>?_⟩
 ·intro i v Q' E' s' hv q
  have hv':its[i]? = some v:=by simpa using hv
  have hl:=rv.length
  have hi:i < its.length:=(List.getElem?_eq_some_iff.mp hv').1
  have hbi:(bs.map V.bl)[i]? = some (V.bl (bs.getD i false)):=by
   rw [List.getElem?_map,List.getD_eq_getElem?_getD,List.getElem?_eq_getElem (by rw [List.length_map] at hl; omega)]
   rfl
  obtain ⟨u,e1,e2⟩:=rv.get hbi
  rw [hv'] at e1
  cases e1
  cases e2
  exact wpAny_truthy_bool q
 ·have hl:=rv.length
  rw [List.length_map] at hl
  rw [List.size_toArray]
  exact hl.symm
 ·refine hq h' tk fun b o e=>k b o ?_ (Heap.get?_push_of_some _ e)
  intro hb
  have:b = s.heap.objs.size:=by simpa using hb
  rw [this] at e
  exact Nat.lt_irrefl _ (Heap.lt_size e)
theorem Jhx (hcalm:X.calm = true):CallR X (.builtin "all") (rC1 X .all):=by
 intro pins s σ H xs us Q I rv ⟨x,d,e,r,h⟩
 subst e
 cases d with
 | lst ds=>
  simp only [op1] at h
  cases q:blsOf ds with
  | none=>rw [q] at h; exact h.elim
  | some bs=>
   rw [q] at h
   obtain ⟨a,ys,rfl,h1,h2⟩:=r
   have:=JdC q h2
   subst this
   obtain ⟨u,rfl,rx⟩:=Jbp rv
   cases rx
   refine call_all_walk (thn (JdU (g:=bs.all id) (tr:=fun _=>true) hcalm I h1 (Q:=EP X pins σ Q) fun h' tk k=>⟨.bl _,H,I.kept k,rfl,Out.now h rfl⟩) fun it s2 ⟨I',fp,wr,n,Pz,Sz,tr,e1,W,st,tt,e2,e3,hq⟩=>?_)
   subst e2; subst e3
   refine ⟨I',fp,wr,_,Pz,Sz,_,e1,W,st,tt,fun h' tk k=>?_⟩
   rw [JcS]
   exact hq h' tk k
 | _=>exact (show False from h).elim
theorem tI.un1 {o:O1} {σ:L2.St} {H:Hp} {Q:VK} {Q':VK} (h:tI X call (.un o pa) σ H Q) (hk:∀ d v H',Same H H' -> Rep X.K H' d v -> (op1 o d).Good (Out X H' Q) (XW X H') -> Q' v H'):tI X call pa σ H Q':=by
 obtain ⟨env,r,h⟩:=h
 simp only [evD] at h
 exact tI.then r h fun d v H' s rv _ hd=>hk d v H' s rv hd
theorem Jfs {K:PySem.W.Frag} {H:Hp} {d:D} {v:V} (r:Rep K H d v):op1 .isN d = .ok (.bl (decide (v = .non))) /\ op1 .notN d = .ok (.bl (!decide (v = .non))):=by
 cases d with
 | non=>cases r; exact ⟨rfl,rfl⟩
 | bl b=>cases r; exact ⟨rfl,rfl⟩
 | int b=>cases r; exact ⟨rfl,rfl⟩
 | str b=>cases r; exact ⟨rfl,rfl⟩
 | tup ds=>obtain ⟨a,xs,rfl,_,_⟩:=r; exact ⟨rfl,rfl⟩
 | lst ds=>obtain ⟨a,xs,rfl,_,_⟩:=r; exact ⟨rfl,rfl⟩
 | dct t z ks vs=>obtain ⟨a,xs,rfl,_,_⟩:=r; exact ⟨rfl,rfl⟩
 | exc c=>obtain ⟨a,o,C,rfl,_⟩:=r; exact ⟨rfl,rfl⟩
 | fn x i=>obtain ⟨f,rfl,_⟩:=r; exact ⟨rfl,rfl⟩
theorem Jhi {j p'} (ha:PE X a (tI X call pa)):PT X (.Compare a [.Is] [.Constant .none j p'] pos) (tT X call (.un .isN pa)):=
 PT.weak (JgK (Jgs ha)) fun σ H Q h=>h.asTest.un1 fun d v H' s rv hd=>by rw [(Jfs rv).1] at hd; exact Out.now hd rfl
theorem JhL (ha:PE X a (tI X call pa)):PE X (.UnaryOp .USub a pos) (tI X call (.un .neg pa)):=by
 refine PE.weak (pe_un Jhf ha) fun σ H Q h=>h.un1 fun d v H' s rv hd=>?_
 cases d with
 | int i=>exact ⟨i,rv,Out.now hd rfl⟩
 | _=>exact (show False from hd).elim
theorem tI.chain {o1 o2:O2} {σ:L2.St} {H:Hp} {Q:VK} (h:tI X call (.and (.bi o1 pa pb) (.bi o2 pb pc)) σ H Q):tChain (rD2 X o1) (rD2 X o2) (tI X call pa) (tI X call pb) (tI X call pc) σ H Q:=by
 obtain ⟨env,r,h⟩:=h
 simp only [evD,Rs.bind_assoc] at h
 refine tI.then r h fun dx x H1 s1 r1 q1 h1=>?_
 cases hb:evD call pb env with
 | ok dy=>
  rw [hb] at h1
  refine ⟨env,q1,?_⟩
  rw [hb]
  intro y H2 s2 r2
  have h2:=h1.mono (fun d (o:Out X H1 Q d)=>o.mono s2) fun c (x:XW X H1 c)=>x.mono s2
  simp only [Rs.bind_ok] at h2
  refine ⟨dx,dy,r1.mono s2,r2,(Rs.good_bind.mp h2).imp fun dz hz z H3 s3 r3=>?_⟩
  cases dz with
  | bl k=>
   refine ⟨k,r3,?_⟩
   cases k with
   | true=>
    have h3:=hz.mono (fun d (o:Out X H2 Q d)=>o.mono s3) fun c (x:XW X H2 c)=>x.mono s3
    refine iteT (tI.then (q1.mono (s2.trans s3)) h3 fun dw w H4 s4 r4 q4 h4=>⟨dy,dw,r2.mono (s3.trans s4),r4,h4⟩)
   | false=>exact iteF (hz _ _ s3 rfl)
  | _=>exact hz.elim
 | ex c=>exact ⟨env,q1,by rw [hb] at h1 ⊢; exact h1⟩
 | stuck=>rw [hb] at h1; exact h1.elim
theorem JeA {o1 o2:O2} {op op':CmpOp} (ho:OpR X (compareOp op) (rD2 X o1)) (ho':OpR X (compareOp op') (rD2 X o2)) (ha:PE X a (tI X call pa)) (hb:PE X b (tI X call pb)) (hc:PE X c (tI X call pc))
  (hm:lastMarks [op,op'] [b,c] = false:=by with_unfolding_all rfl):PE X (.Compare a [op,op'] [b,c] pos) (tI X call (.and (.bi o1 pa pb) (.bi o2 pb pc))):=PE.weak (Jet ho ho' ha hb hc hm) fun σ H Q h=>h.chain
theorem JeG {o1 o2:O2} {op op':CmpOp} (ho:OpR X (compareOp op) (rD2 X o1)) (ho':OpR X (compareOp op') (rD2 X o2)) (ha:PE X a (tI X call pa)) (hb:PE X b (tI X call pb)) (hc:PE X c (tI X call pc))
  (hm:lastMarks [op,op'] [b,c] = false:=by with_unfolding_all rfl):PT X (.Compare a [op,op'] [b,c] pos) (tT X call (.and (.bi o1 pa pb) (.bi o2 pb pc))):=PT.weak (JdW ho ho' ha hb hc hm) fun σ H Q h=>h.asTest.chain
end
end Rd
namespace Rd
open PySem PySem.Spec PyProof.Rows L2 Pu
section
variable {prog:Program} {w:World} {A:Around} {E:Value -> Shared -> Prop} {s:Shared} {t:Bool} {it a:Addr} {i:Nat} {items:Array Value}
end
def Sq (K:PySem.W.Frag) (t:Bool) (H:Hp) (a:Addr) (xs:List V):Prop:=match t with
 | true=>SqT K H a xs
 | false=>SqL K H a xs
theorem Sq.same {K:PySem.W.Frag} {t:Bool} {H H':Hp} {a:Addr} {xs:List V} (e:Same H H') (h:Sq K t H a xs):Sq K t H' a xs:=by
 cases t
 ·exact Same.seq e (show SqL K H a xs from h)
 ·exact SqT.same e (show SqT K H a xs from h)
section
variable {X:Cx} {pins:List (Addr × Obj)} {σ:L2.St} {H:Hp} {s:Shared} {t:Bool} {a:Addr} {xs ys:List V}
end
def Ite (K:PySem.W.Frag) (t:Bool) (a:Addr):It:=
 ⟨fun i H=>∃ xs x,Sq K t H a xs /\ xs[i]? = some x,fun i H x H'=>∃ T v,H T = none /\ x = .ref T /\ H' = upd H T (.tup [.int i,v]) /\ ∀ xs,Sq K t H a xs -> xs[i]? = some v,fun i H=>∃ xs,Sq K t H a xs /\ xs.length = i⟩
theorem JaD {X:Cx} {pins:List (Addr × Obj)} {σ:L2.St} {H:Hp} {s:Shared} {h':Heap} {tk:Nat} {ch:List Addr} (I:L2.Inv X pins σ H s) (hf:∀ b ∈ ch,FpOk X pins H b) (k:∀ b o,b ∉ ch -> s.heap.get? b = some o -> h'.get? b = some o) :
  L2.Inv X pins σ H { s with heap:=h',toks:=tk }:=by
 refine I.step (g':=s.gens) (d':=s.drawn) (ch:=ch) (fun b hb=>?_) (fun b o _ _ hc e _=>k b o hc e) (fun b o _ _ hc e _=>⟨o.slots,k b o hc e⟩) (fun _ _ _ _ n=>n) (fun b o hc e=>⟨o,k b o hc e⟩) (fun _ _ e=>e) (fun _ _ _ e=>e) (fun b ps e=>⟨#[],by rw [e]; simp⟩) (fun m hm=>?_) (fun b u e=>?_) I.bare
 ·obtain ⟨_,f1,_,f3,f4,f5⟩:=hf b hb
  exact ⟨f3,f1,f4,f5⟩
 ·obtain ⟨o,es,ep,ho,r⟩:=hm
  exact ⟨o,es,ep,k _ o (fun hb=>(hf _ hb).2.1 rfl) ho,r⟩
 ·refine (I.hok b u e).stay (fun c v hc q=>k c v ?_ q) (fun _ q=>q) fun _ _ q=>q
  intro hb
  have hn:=(hf c hb).1
  rcases hc with z | z
  ·rw [<- z,hn] at e; cases e
  ·rw [hn] at z; cases z
end Rd
namespace Rd
open PySem PySem.Spec PyProof.Rows L2 Pu
section
variable {prog:Program} {w:World} {A:Around} {E:Value -> Shared -> Prop} {s:Shared} {z TI TO i1 i2 l1 l2:Addr} {t1 t2:Bool} {k:Nat} {xs ys:Array Value} {x y a b:Value}
end
end Rd
namespace Rd
open PySem PySem.Spec PyProof.Rows L2 Pu
open AutoSeq1 (wpAny_loadPart')
section
variable {prog:Program} {w:World} {A:Around} {E:Value -> Shared -> Prop} {s:Shared}
end
theorem JZ:∀ (ds:List D) (k i:Nat),(enumFrom k ds)[i]? = (ds[i]?).map fun d=>.tup [.int ((k + i:Nat):Int),d]
 | [],_,_=>by simp [enumFrom]
 | d :: ds,k,0=>by simp [enumFrom]
 | d :: ds,k,i + 1=>by
  have:=JZ ds (k + 1) i
  simp only [enumFrom,List.getElem?_cons_succ,this]
  rw [show k + 1 + i = k + (i + 1) by omega]
theorem JG:∀ (ds:List D) (k:Nat),(enumFrom k ds).length = ds.length
 | [],_=>rfl
 | d :: ds,k=>by simp [enumFrom,JG ds]
section
variable {X:Cx} {pins:List (Addr × Obj)} {σ:L2.St} {H:Hp} {s:Shared}
theorem Jgw (I:L2.Inv X pins σ H s) {t:Bool} {a:Addr} {xs:List V} {ds:List D} (h1:Sq X.K t H a xs) (h2:Reps X.K H ds xs):Walk X.K (Ite X.K t a) H (enumFrom 0 ds):=by
 intro H' sm
 have l:=h2.length
 have h1':=Sq.same sm h1
 have h2':=h2.mono sm
 refine ⟨fun i hi=>?_,⟨xs,h1',by rw [JG]; exact l⟩,fun i x H'' hi ⟨T,v,hT,e1,e2,hv⟩=>?_⟩
 ·rw [JG] at hi
  exact ⟨xs,xs[i]'(by omega),h1',List.getElem?_eq_getElem (by omega)⟩
 ·subst e1; subst e2
  obtain ⟨d,hd,rd⟩:=h2'.get' (hv xs h1')
  obtain ⟨s1,r1⟩:=JbD (K:=X.K) (ds:=[.int i,d]) (xs:=[.int i,v]) hT ⟨_,_,rfl,rfl,_,_,rfl,rd,rfl⟩
  refine ⟨s1,_,by rw [JZ,hd]; rfl,?_⟩
  simpa using r1
theorem JdZ {a:Addr} {xs:List V} {ds:List D} {K:PySem.W.Frag} (h1:SqT K H a xs) (h2:Reps K H ds xs) (inj:∀ H' ys,Same H H' -> SqT K H' a ys -> True):Walk K (Itt K a) H ds:=by
 intro H' sm
 have l:=h2.length
 have h1':=SqT.same sm h1
 refine ⟨fun i hi=>⟨xs,xs[i]'(by omega),h1',List.getElem?_eq_getElem (by omega)⟩,⟨xs,h1',by omega⟩,fun i x H'' hi ⟨e,hx⟩=>?_⟩
 subst e
 obtain ⟨d,hd,rd⟩:=(h2.mono sm).get' (hx xs h1')
 exact ⟨Same.refl _,d,hd,rd⟩
theorem Jeo {a:Addr} {xs:List V} {ds:List D} {K:PySem.W.Frag} (h1:SqL K H a xs) (h2:Reps K H ds xs):Walk K (Itl K a) H ds:=by
 intro H' sm
 have l:=h2.length
 have h1':=Same.seq sm h1
 refine ⟨fun i hi=>⟨xs,xs[i]'(by omega),h1',List.getElem?_eq_getElem (by omega)⟩,⟨xs,h1',by omega⟩,fun i x H'' hi ⟨e,hx⟩=>?_⟩
 subst e
 obtain ⟨d,hd,rd⟩:=(h2.mono sm).get' (hx xs h1')
 exact ⟨Same.refl _,d,hd,rd⟩
theorem Jcm {lo:Int} {n:Nat} {K:PySem.W.Frag}:Walk K (Itr lo n) H (upTo lo n):=by
 intro H' sm
 have l:(upTo lo n).length = n:=by simp [Pu.upTo]
 refine ⟨fun i hi=>by rw [l] at hi; exact hi,by show n <= _; rw [l]; exact Nat.le_refl _,fun i x H'' hi ⟨e,hx⟩=>?_⟩
 subst e
 refine ⟨Same.refl _,.int (lo + i),?_,hx⟩
 rw [l] at hi
 simp [Pu.upTo,List.getElem?_range hi]
def Its (x:Str):It:=⟨fun i _=>i < x.cps.size,fun i H v H'=>H' = H /\ ∃ c,x.cps[i]? = some c /\ v = .str ⟨#[c]⟩,fun i _=>i = x.cps.size⟩
theorem Jej {x:Str} {K:PySem.W.Frag}:Walk K (Its x) H (chars x):=by
 intro H' sm
 have l:(chars x).length = x.cps.size:=by simp [chars]
 refine ⟨fun i hi=>by rw [l] at hi; exact hi,l,fun i v H'' hi ⟨e,c,hc,hv⟩=>?_⟩
 subst e
 refine ⟨Same.refl _,.str ⟨#[c]⟩,?_,hv⟩
 unfold chars
 rw [List.getElem?_map,Array.getElem?_toList,hc]
 rfl
theorem JbZ {P:Program} {w:World} {A:Around} (hh:A.handled = none) (I:Addr) (x:Str) (t:Tok):Walks P w A I [I] [I] x.cps.size (SignAt x) (fun i h=>h.IsStrIter I (strIterType x) x t i):=by
 cases ha:x.cps.all (· < 128)
 ·rw [show strIterType x = "str_iterator" by simp [strIterType,ha]]; exact Walks.strWide hh I x t
 ·rw [show strIterType x = "str_ascii_iterator" by simp [strIterType,ha]]; exact Walks.strAscii hh I x t
theorem Jeg {P:Program} {w:World} {K:PySem.W.Frag} {y:Str} {px:Pos} (x:Str) (t:Tok) (I:Addr):Turn P w K (.Name y px) (Its x) [I] I (fun i h=>h.IsStrIter I (strIterType x) x t i) where
 mem:=by simp
 obj:=fun i h st b hb=>by
  have e:b = I:=by simpa using hb
  subst e
  obtain ⟨o,h1,_,h3⟩:=st
  exact ⟨o,h1,fun v q=>by rw [h3] at q; cases q⟩
 keep:=fun i h h' st k=>let ⟨o,h1,h2⟩:=st; ⟨o,k I (by simp) o h1,h2⟩
 item:=by
  intro X hP hw hK hc i pins s σ H E Iv hf st hg
  subst hP hw hK
  refine (JbZ (Iv.ok.hd hc) I x t).item i s _ _ hg st fun v h' tk hv st' kk=>?_
  obtain ⟨c,u,hcc,rfl⟩:=hv
  have I1:L2.Inv X pins σ H { s with heap:=h',toks:=tk }:=JaD Iv hf fun b o hb e=>kk b o hb e
  exact ⟨_,rfl,wpAny_pure ⟨.str ⟨#[c]⟩,H,I1,⟨u,rfl⟩,⟨rfl,c,hcc,rfl⟩,st',fun b hb=>(hf b hb).1⟩⟩
 done:=by
  intro X hP hw hK hc i pins s σ H E Iv hf st hg
  subst hP hw hK
  have e:i = x.cps.size:=hg
  subst e
  exact (JbZ (Iv.ok.hd hc) I x t).done s _ _ st fun h' tk kk=>⟨rfl,JaD Iv hf fun b o hb e=>kk b o hb e⟩
 self:=fun A i s Q E st h=>by
  cases ha:x.cps.all (· < 128)
  ·rw [show strIterType x = "str_iterator" by simp [strIterType,ha]] at st; exact wpAny_pyIter_striter_wide st h
  ·rw [show strIterType x = "str_ascii_iterator" by simp [strIterType,ha]] at st; exact wpAny_pyIter_striter_ascii st h
end
theorem JgM {K:PySem.W.Frag} {a:Addr}:ItOk (Itl K a):=fun L i H x H' _ ⟨e,h⟩=>⟨by rw [e],fun xs q=>h xs (hid_same.seq q)⟩
theorem Jhh {K:PySem.W.Frag} {a:Addr}:ItOk (Itt K a):=fun L i H x H' _ ⟨e,h⟩=>⟨by rw [e],fun xs q=>h xs (SqT.same hid_same q)⟩
theorem Jep {lo:Int} {n:Nat}:ItOk (Itr lo n):=fun L i H x H' _ ⟨e,h⟩=>⟨by rw [e],h⟩
theorem Jht {x:Str}:ItOk (Its x):=fun L i H v H' _ ⟨e,h⟩=>⟨by rw [e],h⟩
section
variable {X:Cx} {call:CallD} {G:Gw} {N:List Str} {nm:List (Str × NameKind)} {a b l:Expr} {p pa pb:Px} {pos p1:Pos} {tg:Expr}
theorem Jam {y:Str} {px:Pos} (hl:PE X l (tI X call p)):PI X (.Name y px) l (tW X call (.walk p)):=by
 intro pins s σ H R I ⟨env,r,h⟩
 simp only [evD] at h
 refine thn (hl pins s σ H (fun v H'=>∃ d ds,Rep X.K H' d v /\ d.walk = .ok ds /\ Same H H' /\ ∀ J H2,Same H H2 -> Walk X.K J H2 ds -> ItOk J -> R J H2) I ⟨env,r,(Rs.good_bind.mp h).imp fun d hd v H' s1 rv=>?_⟩) fun v s1 ⟨x,H1,I1,r1,d,ds,rd,hw,s2,hR⟩=>?_
 ·cases q:d.walk with
  | ok ds=>
   rw [q] at hd
   obtain ⟨ds',e,hR⟩:=hd
   cases e
   exact ⟨d,ds,rv,q,s1,hR⟩
  | ex c=>exact (JfL q).elim
  | stuck=>rw [q] at hd; exact hd.elim
 cases d with
 | tup es=>
  cases hw
  obtain ⟨a,xs,rfl,h1,h2⟩:=rd
  cases r1
  obtain ⟨its,rv,pt,hz⟩:=I1.tuple h1
  refine wpAny_pyIter_tuple (show s1.heap.IsTuple a its.toArray from pt) ⟨s1.heap.objs.size,[s1.heap.objs.size],_,_,H1,rfl,I1.kept (t':=s1.toks) fun b o e=>Heap.get?_push_of_some _ e,Jck a _,⟨_,Heap.get?_push_size _ rfl,rfl,rfl⟩,fun b hb=>?_,hR _ _ s2 (JdZ h1 h2 fun _ _ _ _=>trivial) Jhh⟩
  have e:b = s1.heap.objs.size:=by simpa using hb
  subst e; exact I1.fpOk (Nat.le_refl _) (I1.hok.fresh (Nat.le_refl _))
 | lst es=>
  cases hw
  obtain ⟨a,xs,rfl,h1,h2⟩:=rd
  cases r1
  obtain ⟨its,rv,pt,hz⟩:=I1.list h1
  refine wpAny_pyIter_list pt.isList ⟨s1.heap.objs.size,[s1.heap.objs.size],_,_,H1,rfl,I1.kept (t':=s1.toks) fun b o e=>Heap.get?_push_of_some _ e,JdE a _,⟨_,Heap.get?_push_size _ rfl,rfl,rfl⟩,fun b hb=>?_,hR _ _ s2 (Jeo h1 h2) JgM⟩
  have e:b = s1.heap.objs.size:=by simpa using hb
  subst e; exact I1.fpOk (Nat.le_refl _) (I1.hok.fresh (Nat.le_refl _))
 | str z=>
  cases hw
  have hx:x = V.str z:=rd
  subst hx
  obtain ⟨t,rfl⟩:=r1
  refine wpAny_pyIter_strU ⟨s1.heap.objs.size,[s1.heap.objs.size],_,_,H1,rfl,I1.kept (t':=s1.toks) fun b o e=>Heap.get?_push_of_some _ e,Jeg z t _,⟨_,Heap.get?_push_size _ rfl,rfl,rfl⟩,fun b hb=>?_,hR _ _ s2 Jej Jht⟩
  have e:b = s1.heap.objs.size:=by simpa using hb
  subst e; exact I1.fpOk (Nat.le_refl _) (I1.hok.fresh (Nat.le_refl _))
 | _=>cases hw
theorem JdG (C:Ctx X G N nm) (ha:PE X a (tI X call pa)) (hg:gloB nm "range" = true) (hm:G.mg "range" = none) (hs:starEach [a] X.env = [(false,eval a X.env)]:=by rfl):PI X tg (.Call (.Name "range" p1) [a] [] pos) (tW X call (.un .range pa)):=by
 intro pins s σ H R I ⟨env,r,h⟩
 simp only [evD] at h
 refine JcU (C.glo _ hg) (by rw [C.mg]; exact hm) (Ja (call:=call) ha Jc hs) hs pins s σ H R I ⟨env,r,?_⟩
 simp only [evD]
 refine Rs.good_bind.mpr ((Rs.good_bind.mp h).imp fun d hd=>?_)
 cases d with
 | int i=>
  simp only [op1] at hd
  split at hd
  ·rename_i hz
   simp only [midI,Bool.and_eq_true,decide_eq_true_eq] at hz
   obtain ⟨ds',e,hR⟩:=hd
   cases e
   refine ⟨[.int i],rfl,fun vs H' s1 rs=>?_⟩
   obtain ⟨v,r',e1,h1,h2⟩:=rs
   cases h2; cases h1; subst e1
   exact ⟨i,rfl,hz.1,hz.2,hR _ _ s1 Jcm Jep⟩
  ·exact hd.elim
 | _=>exact (show False from hd).elim
end
end Rd
namespace Rd
open PySem PySem.Spec PyProof.Rows L2 Pu
def uni (L:List Addr) (H H1:Hp):Hp:=fun a=>if a ∈ L then H a else H1 a
section
variable {L L':List Addr} {H H' H1:Hp} {a:Addr} {o:HO}
theorem Jv (h:a ∉ L):uni L H H1 a = H1 a:=by unfold uni; rw [if_neg h]
theorem JaP (h:a ∈ L):uni L H H1 a = H a:=by unfold uni; rw [if_pos h]
theorem JcW (h:∀ a ∈ L,H1 a = none):hid L (uni L H H1) = H1:=by
 funext a
 by_cases q:a ∈ L
 ·rw [JaI q,h a q]
 ·rw [Jq q,Jv q]
theorem JbW (s:Same (hid L H) H1):Same H (uni L H H1):=fun a o h=>by
 by_cases q:a ∈ L
 ·rw [JaP q]; exact h
 ·rw [Jv q]; exact s a o (by rw [Jq q]; exact h)
theorem Ows.tup {K:PySem.W.Frag} (h:Ows L H):Tups K H (hid L H):=by
 have nin:∀ b o,H b = some o -> ¬ Chgb o -> b ∉ L:=fun b o e nc hm=>by
  obtain ⟨u,e1,c⟩:=h b hm
  rw [e] at e1; cases e1; exact nc c
 refine ⟨fun b xs q=>?_,fun b o u q=>by rw [Jq (nin b _ q fun z=>z)]; exact q⟩
 rcases q with q | q
 ·exact .inl (by rw [Jq (nin b _ q fun z=>z)]; exact q)
 ·exact .inr q
end
section
variable {X:Cx} {pins ps:List (Addr × Obj)} {σ σ':L2.St} {H H1:Hp} {s s':Shared} {L:List Addr}
theorem Inv.obj (I:L2.Inv X pins σ H s) {a:Addr} {o:HO} (h:H a = some o) (hc:Chgb o):∃ ob,s.heap.get? a = some ob /\ ∀ v,ob.data ≠ .cell v:=by
 have:=I.hok a o h
 cases o with
 | lst xs=>obtain ⟨_,its,n,_,e⟩:=this; exact ⟨_,e,fun v z=>by cases z⟩
 | dK kvs=>obtain ⟨_,_,vs,_,ob,es,ep,e,c,d,_⟩:=this; exact ⟨ob,e,fun v z=>by rw [d] at z; cases z⟩
 | dT kvs=>obtain ⟨_,_,xs,_,ob,es,ep,e,c,d,_⟩:=this; exact ⟨ob,e,fun v z=>by rw [d] at z; cases z⟩
 | _=>exact hc.elim
theorem JbR (I:L2.Inv X pins σ H s):∀ L,Ows L H -> ∃ ps:List (Addr × Obj),ps.map (·.1) = L /\ ∀ p ∈ ps,s.heap.get? p.1 = some p.2 /\ ∀ v,p.2.data ≠ .cell v
 | [],_=>⟨[],rfl,by simp⟩
 | a :: L,h=>by
  obtain ⟨o,e,c⟩:=h a (by simp)
  obtain ⟨ob,e1,e2⟩:=Inv.obj I e c
  obtain ⟨ps,e3,e4⟩:=JbR I L fun b hb=>h b (by simp [hb])
  refine ⟨(a,ob) :: ps,by simp [e3],fun p hp=>?_⟩
  rcases List.mem_cons.mp hp with rfl | hp
  ·exact ⟨e1,e2⟩
  ·exact e4 p hp
theorem Inv.fsFree (I:L2.Inv X pins σ H s) {b:Addr} (hb:b ∈ X.fs):H b = none:=by
 obtain ⟨_,o,ho,_⟩:=I.ok.funs.mem hb
 exact I.base.free b o ho (I.ok.frf b hb) fun z=>I.ok.exfs b z hb
theorem Inv.hide (I:L2.Inv X pins σ H s) (hL:Ows L H):∃ ps:List (Addr × Obj),ps.map (·.1) = L /\ (∀ p ∈ ps,s.heap.get? p.1 = some p.2) /\ L2.Inv X (ps ++ pins) σ (hid L H) s:=by
 obtain ⟨ps,e1,e2⟩:=JbR I L hL
 have hin:∀ p ∈ ps,p.1 ∈ L:=fun p hp=>by rw [<- e1]; exact List.mem_map_of_mem hp
 have nin:∀ b o,H b = some o -> ¬ Chgb o -> b ∉ L:=fun b o e nc hm=>by
  obtain ⟨u,e3,c⟩:=hL b hm
  rw [e] at e3; cases e3; exact nc c
 have hn:∀ b,H b = none -> hid L H b = none:=fun b e=>by unfold hid; split <;> first | rfl | exact e
 refine ⟨ps,e1,fun p hp=>(e2 p hp).1,?_⟩
 exact {
  ok:=I.ok,os:=I.os,bare:=I.bare
  base:=⟨I.base.keep,I.base.slot,fun b o q n x=>hn b (I.base.free b o q n x),I.base.there,fun b xs q=>by
    have:=I.base.tups b xs q
    rw [Jq (nin b _ this fun z=>z)]; exact this,
   fun b o u q=>by
    have:=I.base.frzs b o u q
    rw [Jq (nin b _ this fun z=>z)]; exact this,
   fun b qs q=>by
    obtain ⟨m,this⟩:=I.base.tbls b qs q
    exact ⟨m,by rw [Jq (nin b _ this fun z=>z)]; exact this⟩⟩
  loc:=I.loc,cell:=I.cell,free:=hn _ I.free,freeC:=fun x c e=>hn _ (I.freeC x c e)
  pin:=fun p hp=>by
   have hp':p ∈ ps \/ p ∈ X.pn ++ pins:=by
    simp only [List.mem_append] at hp ⊢
    rcases hp with h | h | h
    ·exact .inr (.inl h)
    ·exact .inl h
    ·exact .inr (.inr h)
   rcases hp' with hp | hp
   ·obtain ⟨o,e3,_⟩:=hL p.1 (hin p hp)
    refine ⟨(e2 p hp).1,JaI (hin p hp),fun z=>?_,fun z=>?_,(e2 p hp).2⟩
    ·rw [z,I.free] at e3; cases e3
    ·rw [Inv.fsFree I z] at e3; cases e3
   ·obtain ⟨q1,q2,q3⟩:=I.pin p hp
    exact ⟨q1,hn _ q2,q3⟩
  hok:=fun a o e=>by
   obtain ⟨h1,h2⟩:=JaU e
   exact (I.hok a o h2).stay (fun _ _ _ q=>q) (fun b q=>by rw [Jq (nin b _ q fun z=>z)]; exact q) (fun b xs q=>by rw [Jq (nin b _ q fun z=>z)]; exact q) fun b o' u' q=>by rw [Jq (nin b _ q fun z=>z)]; exact q
  len:=I.len }
theorem Inv.unhide (I:L2.Inv X pins σ H s) (hL:Ows L H) (e1:ps.map (·.1) = L) (e2:∀ p ∈ ps,s.heap.get? p.1 = some p.2) (sm:Same (hid L H) H1) (I':L2.Inv X (ps ++ pins) σ' H1 s'):(∀ a ∈ L,H1 a = none) /\ L2.Inv X pins σ' (uni L H H1) s':=by
 have nin:∀ b o,H b = some o -> ¬ Chgb o -> b ∉ L:=fun b o e nc hm=>by
  obtain ⟨u,e3,c⟩:=hL b hm
  rw [e] at e3; cases e3; exact nc c
 have pinL:∀ a ∈ L,∃ ob,s.heap.get? a = some ob /\ s'.heap.get? a = some ob /\ H1 a = none:=fun a ha=>by
  rw [<- e1] at ha
  obtain ⟨p,hp,rfl⟩:=List.mem_map.mp ha
  obtain ⟨q1,q2,_⟩:=I'.pin p (by simp [hp])
  exact ⟨p.2,e2 p hp,q1,q2⟩
 have hnL:∀ b,H b = none -> b ∉ L:=fun b e hm=>by
  obtain ⟨o,e3,_⟩:=hL b hm
  rw [e] at e3; cases e3
 have tp:∀ b xs,H b = some (.tup xs) -> uni L H H1 b = some (.tup xs):=fun b xs q=>by
  have hb:=nin b _ q fun z=>z
  rw [Jv hb]; exact sm b _ (by rw [Jq hb]; exact q)
 refine ⟨fun a ha=>let ⟨_,_,_,h⟩:=pinL a ha; h,?_⟩
 exact {
  ok:=I.ok,os:=I'.os,bare:=I'.bare
  base:=⟨I'.base.keep,I'.base.slot,fun b o q n x=>by rw [Jv (hnL b (I.base.free b o q n x))]; exact I'.base.free b o q n x,I'.base.there,
   fun b xs q=>by rw [Jv (nin b _ (I.base.tups b xs q) fun z=>z)]; exact I'.base.tups b xs q,
   fun b o u q=>by rw [Jv (nin b _ (I.base.frzs b o u q) fun z=>z)]; exact I'.base.frzs b o u q,
   fun b qs q=>by
    obtain ⟨m,this⟩:=I.base.tbls b qs q
    rw [Jv (nin b _ this fun z=>z)]; exact I'.base.tbls b qs q⟩
  loc:=I'.loc,cell:=I'.cell
  free:=by rw [Jv (hnL _ I.free)]; exact I'.free
  freeC:=fun x c e=>by rw [Jv (hnL _ (I.freeC x c e))]; exact I'.freeC x c e
  pin:=fun p hp=>by
   obtain ⟨q1,q2,q3⟩:=I'.pin p (by
    simp only [List.mem_append] at hp ⊢
    rcases hp with h | h
    ·exact .inl h
    ·exact .inr (.inr h))
   exact ⟨q1,by rw [Jv (hnL _ (I.pin p hp).2.1)]; exact q2,q3⟩
  hok:=fun a o e=>by
   by_cases ha:a ∈ L
   ·rw [JaP ha] at e
    obtain ⟨u,e3,hc⟩:=hL a ha
    rw [e] at e3; cases e3
    obtain ⟨ob,h1,h2,_⟩:=pinL a ha
    have:=I.hok a o e
    have tr:∀ {x:Obj},s.heap.get? a = some x -> s'.heap.get? a = some x:=fun {x} q=>by rw [h1] at q; cases q; exact h2
    cases o with
    | lst xs=>obtain ⟨z,its,n,r,q⟩:=this; exact ⟨z,its,n,r,tr q⟩
    | dK kvs=>obtain ⟨z,y,vs,r,ob,es,ep,q,c⟩:=this; exact ⟨z,y,vs,r,ob,es,ep,tr q,c⟩
    | dT kvs=>obtain ⟨z,y,xs,r,ob,es,ep,q,c⟩:=this; exact ⟨z,y,xs,Paired.mapP r fun p q z=>⟨z.1,tp _ _ z.2.1,z.2.2⟩,ob,es,ep,tr q,c⟩
    | _=>exact hc.elim
   ·rw [Jv ha] at e
    have nz:∀ b o,H1 b = some o -> b ∉ L:=fun b o q hm=>by
     obtain ⟨_,_,_,h⟩:=pinL b hm
     rw [q] at h; cases h
    exact (I'.hok a o e).stay (fun _ _ _ q=>q) (fun b q=>by rw [Jv (nz b _ q)]; exact q) (fun b xs q=>by rw [Jv (nz b _ q)]; exact q) fun b o' u' q=>by rw [Jv (nz b _ q)]; exact q
  len:=I'.len }
end
def OutH (X:Cx) (L:List Addr) (H:Hp) (Q:VK) (d:D):Prop:=∀ v H',Same H H' -> (∀ a ∈ L,H' a = H a) -> Rep X.K (hid L H') d v -> Q v H'
def tH (X:Cx) (call:CallD) (p:Px):TE:=fun σ H Q=>∃ env L,Ows L H /\ ReadOk X.K (hid L H) σ env /\ (evD call p env).Good (OutH X L H Q) (XW X (hid L H))
section
variable {X:Cx} {call:CallD} {e:Expr} {p:Px}
theorem Jdi (he:PE X e (tI X call p)):PE X e (tH X call p):=by
 intro pins s σ H Q I ⟨env,L,hL,r,h⟩
 obtain ⟨ps,e1,e2,I'⟩:=Inv.hide I hL
 refine wpAny_mono (he (ps ++ pins) s σ (hid L H) (fun v H1=>Same (hid L H) H1 /\ ((∀ a ∈ L,H1 a = none) -> Q v (uni L H H1))) I' ⟨env,r,h.mono (fun d hd v H1 s1 rv=>⟨s1,fun hn=>hd v _ (JbW s1) (fun a ha=>JaP ha) ?_⟩) fun c z=>z⟩)
  (fun u s1 ⟨v,H1,I1,rv,sm,q⟩=>?_) fun _ _ z=>z
 ·rw [JcW hn]; exact rv
 ·obtain ⟨hn,I2⟩:=Inv.unhide I hL e1 e2 sm I1
  exact ⟨v,_,I2,rv,q hn⟩
end
def tWH (X:Cx) (call:CallD) (p:Px):TI:=fun σ H R=>∃ env L,Ows L H /\ ReadOk X.K (hid L H) σ env /\ (evD call p env).Good (fun d=>∃ ds,d = .lst ds /\ ∀ J H',Same H H' -> (∀ a ∈ L,H' a = H a) -> Walk X.K J (hid L H') ds -> ItOk J -> R J H') (XW X (hid L H))
section
variable {X:Cx} {call:CallD} {tg iter:Expr} {p:Px}
theorem JgQ (hi:PI X tg iter (tW X call p)):PI X tg iter (tWH X call p):=by
 intro pins s σ H R I ⟨env,L,hL,r,h⟩
 obtain ⟨ps,e1,e2,I'⟩:=Inv.hide I hL
 refine wpAny_mono (hi (ps ++ pins) s σ (hid L H) (fun J H1=>Same (hid L H) H1 /\ ((∀ a ∈ L,H1 a = none) -> R J (uni L H H1))) I' ⟨env,r,h.mono (fun d ⟨ds,ed,hd⟩=>⟨ds,ed,fun J H1 s1 w ok=>⟨s1,fun hn=>hd J _ (JbW s1) (fun a ha=>JaP ha) ?_ ok⟩⟩) fun c z=>z⟩)
  (fun v s1 q1=>wpAny_mono q1 (fun itv s2 ⟨it,fp,tn,J,H1,e3,I1,T,t0,hf,sm,q⟩=>?_) fun _ _ z=>z) fun _ _ z=>z
 ·rw [JcW hn]; exact w
 ·obtain ⟨hn,I2⟩:=Inv.unhide I hL e1 e2 sm I1
  refine ⟨it,fp,tn,J,_,e3,I2,T,t0,fun b hb=>?_,q hn⟩
  obtain ⟨f0,f1,f2,f3,f4,f5⟩:=hf b hb
  have hbL:b ∉ L:=fun hm=>by
   rw [<- e1] at hm
   obtain ⟨p,hp,rfl⟩:=List.mem_map.mp hm
   exact f5 p (by simp [hp]) rfl
  exact ⟨by rw [Jv hbL]; exact f0,f1,f2,f3,f4,fun p hp=>f5 p (by
   simp only [List.mem_append] at hp ⊢
   rcases hp with h | h
   ·exact .inl h
   ·exact .inr (.inr h))⟩
end
end Rd
namespace Rd
open PySem PySem.Spec PyProof.Rows L2 Pu
def owA (env:Fm) (σ:L2.St) (i:Nat):Option Addr:=match env[i]?,σ[i]? with
 | some (some _),some (some (.ref l))=>some l
 | _,_=>none
def Ow (M:List Nat) (env:Fm) (σ:L2.St):List Addr:=M.filterMap (owA env σ)
theorem owA_iff {env:Fm} {σ:L2.St} {i:Nat} {l:Addr}:owA env σ i = some l ↔ ∃ d,env[i]? = some (some d) /\ σ[i]? = some (some (.ref l)):=by
 unfold owA
 constructor
 ·intro h
  split at h
  ·rename_i d m h1 h2; cases h; exact ⟨d,h1,h2⟩
  ·cases h
 ·rintro ⟨d,h1,h2⟩
  rw [h1,h2]
theorem mem_Ow {M:List Nat} {env:Fm} {σ:L2.St} {l:Addr}:l ∈ Ow M env σ ↔ ∃ i ∈ M,∃ d,env[i]? = some (some d) /\ σ[i]? = some (some (.ref l)):=by
 unfold Ow
 rw [List.mem_filterMap]
 constructor
 ·rintro ⟨i,hi,h⟩; exact ⟨i,hi,owA_iff.mp h⟩
 ·rintro ⟨i,hi,h⟩; exact ⟨i,hi,owA_iff.mpr h⟩
theorem JbO {M:List Nat} {env env':Fm} {σ σ':L2.St} (h:∀ i ∈ M,owA env σ i = owA env' σ' i):Ow M env σ = Ow M env' σ':=by
 unfold Ow
 induction M with
 | nil=>rfl
 | cons i M ih=>simp only [List.filterMap_cons,h i (.head _),ih fun j hj=>h j (.tail _ hj)]
theorem JfJ {env:Fm} {σ:L2.St} {i j:Nat} {s:Option D} {t:Option V} (h:j ≠ i):owA (env.set i s) (σ.set i t) j = owA env σ j:=by
 unfold owA
 rw [List.getElem?_set_ne (Ne.symm h),List.getElem?_set_ne (Ne.symm h)]
theorem Jca {M:List Nat} {env:Fm} {σ:L2.St} {i:Nat} {s:Option D} {t:Option V} (h:i ∉ M):Ow M (env.set i s) (σ.set i t) = Ow M env σ:=JbO fun j hj=>JfJ fun e=>h (e ▸ hj)
def OwnIs (K:PySem.W.Frag) (Hh H:Hp) (l:Addr):D -> Prop
 | .lst ds=>∃ xs,H l = some (.lst xs) /\ Reps K Hh ds xs
 | .dct t z ks vs=>z = false /\ ∃ xs,DK H l t false ks xs /\ Reps K Hh vs xs
 | _=>False
theorem OwnIs.mono {K:PySem.W.Frag} {Hh Hh' H H':Hp} {l:Addr} {d:D} (h:OwnIs K Hh H l d) (e:Same Hh Hh') (k:∀ o,H l = some o -> H' l = some o):OwnIs K Hh' H' l d:=by
 cases d with
 | lst ds=>obtain ⟨xs,h1,h2⟩:=h; exact ⟨xs,k _ h1,h2.mono e⟩
 | dct t z ks vs=>obtain ⟨hz,xs,h1,h2⟩:=h; exact ⟨hz,xs,h1.mono k,h2.mono e⟩
 | _=>exact h.elim
theorem OwnIs.chg {K:PySem.W.Frag} {Hh H:Hp} {l:Addr} {d:D} (h:OwnIs K Hh H l d):∃ o,H l = some o /\ Chgb o:=by
 cases d with
 | lst ds=>obtain ⟨xs,h1,h2⟩:=h; exact ⟨_,h1,trivial⟩
 | dct t z ks vs=>
  obtain ⟨hz,xs,h1,h2⟩:=h
  cases t <;> obtain ⟨kvs,h3,_⟩:=h1
  ·exact ⟨_,h3,trivial⟩
  ·exact ⟨_,h3,trivial⟩
 | _=>exact h.elim
theorem OwnIs.rep {K:PySem.W.Frag} {Hh H:Hp} {l:Addr} {d:D} (h:OwnIs K Hh H l d) (e:Same Hh H):Rep K H d (.ref l):=by
 cases d with
 | lst ds=>obtain ⟨xs,h1,h2⟩:=h; exact ⟨l,xs,rfl,SqL.of h1,h2.mono e⟩
 | dct t z ks vs=>obtain ⟨rfl,xs,h1,h2⟩:=h; exact ⟨l,xs,rfl,h1,h2.mono e⟩
 | _=>exact h.elim
structure EnvOk (K:PySem.W.Frag) (M:List Nat) (H0 H:Hp) (σ:L2.St) (env:Fm):Prop where
 same:Same H0 H
 len:σ.length = env.length
 read:∀ (i:Nat) (d:D),i ∉ M -> env[i]? = some (some d) -> ∃ v,σ[i]? = some (some v) /\ Rep K (hid (Ow M env σ) H) d v
 own:∀ (i:Nat) (d:D),i ∈ M -> env[i]? = some (some d) -> ∃ l,σ[i]? = some (some (.ref l)) /\ H0 l = none /\ OwnIs K (hid (Ow M env σ) H) H l d
 apart:∀ (i j:Nat) (l:Addr) (d d':D),i ∈ M -> j ∈ M -> i ≠ j -> env[i]? = some (some d) -> env[j]? = some (some d') -> σ[i]? = some (some (.ref l)) -> σ[j]? ≠ some (some (.ref l))
structure Fz (L:List Addr) (H:Hp) (L':List Addr) (H':Hp):Prop where
 keep:∀ a o,H a = some o -> a ∉ L -> H' a = some o
 own:∀ l ∈ L',l ∈ L \/ H l = none
section
variable {L L1 L2:List Addr} {H H1 H2:Hp}
theorem Fz.of (s:Same H H1) (h:∀ l ∈ L1,l ∈ L \/ H l = none):Fz L H L1 H1:=⟨fun a o e _=>s a o e,h⟩
theorem Fz.sm (s:Same H H1):Fz L H L H1:=.of s fun _ h=>.inl h
theorem Fz.trans (a:Fz L H L1 H1) (b:Fz L1 H1 L2 H2):Fz L H L2 H2 where
 keep:=fun c o e hn=>b.keep c o (a.keep c o e hn) fun hm=>by
  rcases a.own c hm with h | h
  ·exact hn h
  ·rw [e] at h; cases h
 own:=fun l hl=>by
  rcases b.own l hl with h | h
  ·exact a.own l h
  ·by_cases hm:l ∈ L
   ·exact .inl hm
   ·cases q:H l with
    | none=>exact .inr rfl
    | some o=>rw [a.keep l o q hm] at h; cases h
theorem Fz.hid (a:Fz L H L1 H1):Same (hid L H) (hid L1 H1):=JeD fun b o e hn=>⟨a.keep b o e hn,fun hm=>by
 rcases a.own b hm with h | h
 ·exact hn h
 ·rw [e] at h; cases h⟩
end
section
variable {K:PySem.W.Frag} {M:List Nat} {H0 H H':Hp} {σ:L2.St} {env:Fm}
theorem EnvOk.ows (e:EnvOk K M H0 H σ env):Ows (Ow M env σ) H:=fun a ha=>by
 obtain ⟨i,hi,d,h1,h2⟩:=mem_Ow.mp ha
 obtain ⟨l,h3,_,h4⟩:=e.own i d hi h1
 rw [h2] at h3; cases h3
 exact h4.chg
theorem EnvOk.same0 (e:EnvOk K M H0 H σ env):Same H0 (hid (Ow M env σ) H):=fun a o h=>by
 have hn:a ∉ Ow M env σ:=fun ha=>by
  obtain ⟨i,hi,d,h1,h2⟩:=mem_Ow.mp ha
  obtain ⟨l,h3,h0,_⟩:=e.own i d hi h1
  rw [h2] at h3; cases h3
  rw [h] at h0; cases h0
 rw [Jq hn]; exact e.same a o h
theorem EnvOk.readOk (e:EnvOk K M H0 H σ env):ReadOk K H σ env:=fun i d h=>by
 by_cases hi:i ∈ M
 ·obtain ⟨l,h1,_,h2⟩:=e.own i d hi h
  exact ⟨_,h1,h2.rep hid_same⟩
 ·obtain ⟨v,h1,h2⟩:=e.read i d hi h
  exact ⟨v,h1,h2.mono hid_same⟩
theorem EnvOk.readHid (e:EnvOk K M H0 H σ env):ReadOk K (hid (Ow M env σ) H) σ (blankD M 0 env):=fun i d h=>by
 rw [JN] at h
 cases q:env[i]? with
 | none=>rw [q] at h; cases h
 | some s=>
  rw [q] at h
  simp only [Option.map_some,Nat.zero_add,Option.some.injEq] at h
  split at h
  ·cases h
  ·rename_i hi
   subst h
   exact e.read i d hi q
theorem EnvOk.grow (e:EnvOk K M H0 H σ env) (s:Same H H'):EnvOk K M H0 H' σ env where
 same:=e.same.trans s
 len:=e.len
 read:=fun i d hi h=>let ⟨v,h1,h2⟩:=e.read i d hi h; ⟨v,h1,h2.mono (Fz.sm s).hid⟩
 own:=fun i d hi h=>let ⟨l,h1,h0,h2⟩:=e.own i d hi h; ⟨l,h1,h0,h2.mono (Fz.sm s).hid (s l)⟩
 apart:=e.apart
theorem Jx {α:Type} {l:List α} {i j:Nat} {a b:α} (h:(l.set i a)[j]? = some b):(j = i /\ b = a /\ i < l.length) \/ (j ≠ i /\ l[j]? = some b):=by
 by_cases q:j = i
 ·subst q
  by_cases hl:j < l.length
  ·rw [List.getElem?_set_self hl] at h; cases h; exact .inl ⟨rfl,rfl,hl⟩
  ·rw [List.getElem?_eq_none (by rw [List.length_set]; omega)] at h; cases h
 ·rw [List.getElem?_set_ne (Ne.symm q)] at h; exact .inr ⟨q,h⟩
theorem EnvOk.put (e:EnvOk K M H0 H σ env) {i:Nat} {d:D} {v:V} (hM:i ∉ M) (r:Rep K (hid (Ow M env σ) H) d v):EnvOk K M H0 H (σ.set i (some v)) (env.set i (some d)) where
 same:=e.same
 len:=by rw [List.length_set,List.length_set]; exact e.len
 read:=fun j d' hj h=>by
  rw [Jca hM]
  rcases Jx h with ⟨rfl,hd,hl⟩ | ⟨hn,h⟩
  ·cases hd; exact ⟨v,List.getElem?_set_self (by rw [e.len]; exact hl),r⟩
  ·rw [List.getElem?_set_ne (Ne.symm hn)]; exact e.read j d' hj h
 own:=fun j d' hj h=>by
  rw [Jca hM]
  rcases Jx h with ⟨rfl,_,_⟩ | ⟨hn,h⟩
  ·exact absurd hj hM
  ·rw [List.getElem?_set_ne (Ne.symm hn)]; exact e.own j d' hj h
 apart:=fun j k l d1 d2 hj hk hn h1 h2 h3=>by
  have n1:j ≠ i:=fun z=>hM (z ▸ hj)
  have n2:k ≠ i:=fun z=>hM (z ▸ hk)
  rw [List.getElem?_set_ne (Ne.symm n1)] at h1 h3
  rw [List.getElem?_set_ne (Ne.symm n2)] at h2 ⊢
  exact e.apart j k l d1 d2 hj hk hn h1 h2 h3
theorem JeR {i:Nat} {d:D} {l:Addr} (b:Addr) (h:b ∈ Ow M (env.set i (some d)) (σ.set i (some (.ref l)))):b = l \/ b ∈ Ow M env σ:=by
 obtain ⟨j,hj,d',h1,h2⟩:=mem_Ow.mp h
 by_cases q:j = i
 ·subst q
  by_cases hl:j < σ.length
  ·rw [List.getElem?_set_self hl] at h2; cases h2; exact .inl rfl
  ·rw [List.getElem?_eq_none (by rw [List.length_set]; omega)] at h2; cases h2
 ·rw [List.getElem?_set_ne (Ne.symm q)] at h1 h2
  exact .inr (mem_Ow.mpr ⟨j,hj,d',h1,h2⟩)
theorem EnvOk.putOwn (e:EnvOk K M H0 H σ env) (s:Same H H') {i:Nat} {d:D} {l:Addr} (h0:H l = none) (hl:∀ Hh,Tups K H' Hh -> OwnIs K Hh H' l d) :
  EnvOk K M H0 H' (σ.set i (some (.ref l))) (env.set i (some d)) /\ Fz (Ow M env σ) H (Ow M (env.set i (some d)) (σ.set i (some (.ref l)))) H':=by
 have fz:Fz (Ow M env σ) H (Ow M (env.set i (some d)) (σ.set i (some (.ref l)))) H':=.of s fun b hb=>by
  rcases JeR b hb with rfl | h
  ·exact .inr h0
  ·exact .inl h
 have ows:Ows (Ow M (env.set i (some d)) (σ.set i (some (.ref l)))) H':=fun b hb=>by
  rcases JeR b hb with rfl | h
  ·exact (hl H' (Tups.of (Same.refl _))).chg
  ·obtain ⟨o,h1,h2⟩:=e.ows b h; exact ⟨o,s _ _ h1,h2⟩
 refine ⟨{
  same:=e.same.trans s
  len:=by rw [List.length_set,List.length_set]; exact e.len
  read:=fun j d' hj h=>?_
  own:=fun j d' hj h=>?_
  apart:=fun j k m d1 d2 hj hk hn h1 h2 h3 h4=>?_ },fz⟩
 ·rcases Jx h with ⟨rfl,hd,hz⟩ | ⟨hn,h⟩
  ·cases hd
   exact ⟨.ref l,List.getElem?_set_self (by rw [e.len]; exact hz),(hl _ ows.tup).rep hid_same |> fun r=>by
    have ho:l ∉ Ow M (env.set j (some d)) (σ.set j (some (.ref l))):=fun hm=>by
     obtain ⟨k,hk,d2,k1,k2⟩:=mem_Ow.mp hm
     by_cases q:k = j
     ·exact hj (q ▸ hk)
     ·rw [List.getElem?_set_ne (Ne.symm q)] at k1 k2
      obtain ⟨l',g1,_,g3⟩:=e.own k d2 hk k1
      rw [k2] at g1; cases g1
      obtain ⟨o,g4,_⟩:=g3.chg
      rw [h0] at g4; cases g4
    have:=hl _ (ows.tup)
    cases d with
    | lst ds=>obtain ⟨xs,q1,q2⟩:=this; exact ⟨l,xs,rfl,SqL.of (by rw [Jq ho]; exact q1),q2⟩
    | dct t z ks vs=>obtain ⟨rfl,xs,q1,q2⟩:=this; exact ⟨l,xs,rfl,q1.mono fun o q=>by rw [Jq ho]; exact q,q2⟩
    | _=>exact this.elim⟩
  ·obtain ⟨v,g1,g2⟩:=e.read j d' hj h
   exact ⟨v,by rw [List.getElem?_set_ne (Ne.symm hn)]; exact g1,g2.mono fz.hid⟩
 ·rcases Jx h with ⟨rfl,hd,hz⟩ | ⟨hn,h⟩
  ·cases hd; exact ⟨l,List.getElem?_set_self (by rw [e.len]; exact hz),e.same.free h0,hl _ ows.tup⟩
  ·obtain ⟨m,g1,g0,g2⟩:=e.own j d' hj h
   exact ⟨m,by rw [List.getElem?_set_ne (Ne.symm hn)]; exact g1,g0,g2.mono fz.hid (s m)⟩
 ·have old:∀ q dq,q ∈ M -> q ≠ i -> env[q]? = some (some dq) -> σ[q]? ≠ some (some (.ref l)):=fun q dq hq hqi hqe hqs=>by
   obtain ⟨l',g1,_,g3⟩:=e.own q dq hq hqe
   rw [g1] at hqs; cases hqs
   obtain ⟨o,g4,_⟩:=g3.chg
   rw [h0] at g4; cases g4
  rcases Jx h1 with ⟨q1,_,hz⟩ | ⟨n1,k1⟩
  ·rw [q1,List.getElem?_set_self (by rw [e.len]; exact hz)] at h3
   cases h3
   rcases Jx h2 with ⟨q,_,_⟩ | ⟨n2,k2⟩
   ·exact hn (q1.trans q.symm)
   ·rw [List.getElem?_set_ne (Ne.symm n2)] at h4
    exact old k d2 hk n2 k2 h4
  ·rw [List.getElem?_set_ne (Ne.symm n1)] at h3
   rcases Jx h2 with ⟨q2,_,hz⟩ | ⟨n2,k2⟩
   ·rw [q2,List.getElem?_set_self (by rw [e.len]; exact hz)] at h4
    cases h4
    exact old j d1 hj n1 k1 h3
   ·rw [List.getElem?_set_ne (Ne.symm n2)] at h4
    exact e.apart j k m d1 d2 hj hk hn k1 k2 h3 h4
theorem JbC {L:List Addr} {l:Addr} {o:HO} (h:l ∈ L):hid L (upd H l o) = hid L H:=by
 funext b
 by_cases q:b ∈ L
 ·rw [JaI q,JaI q]
 ·rw [Jq q,Jq q,Jh (fun z:b = l=>q (by rw [z]; exact h))]
theorem EnvOk.change (e:EnvOk K M H0 H σ env) {i:Nat} {l:Addr} {d d':D} {o:HO} (hi:i ∈ M) (he:env[i]? = some (some d)) (hs:σ[i]? = some (some (.ref l))) (new:OwnIs K (hid (Ow M env σ) H) (upd H l o) l d') :
  EnvOk K M H0 (upd H l o) σ (env.set i (some d')) /\ Fz (Ow M env σ) H (Ow M (env.set i (some d')) σ) (upd H l o):=by
 have hl:l ∈ Ow M env σ:=mem_Ow.mpr ⟨i,hi,d,he,hs⟩
 obtain ⟨l',h1,h0,h2⟩:=e.own i d hi he
 rw [hs] at h1; cases h1
 have iσ:i < env.length:=(List.getElem?_eq_some_iff.mp he).1
 have ow:Ow M (env.set i (some d')) σ = Ow M env σ:=JbO fun j hj=>by
  by_cases q:j = i
  ·subst q
   rw [owA_iff.mpr ⟨d,he,hs⟩]
   exact owA_iff.mpr ⟨d',List.getElem?_set_self iσ,hs⟩
  ·unfold owA
   rw [List.getElem?_set_ne (Ne.symm q)]
 have hh:hid (Ow M (env.set i (some d')) σ) (upd H l o) = hid (Ow M env σ) H:=by rw [ow,JbC hl]
 refine ⟨⟨fun b ob q=>?_,by rw [List.length_set]; exact e.len,fun j dj hj h=>?_,fun j dj hj h=>?_,fun j k m d1 d2 hj hk hn h1 h2 h3=>?_⟩,⟨fun a ob q hn=>?_,fun b hb=>.inl (by rw [ow] at hb; exact hb)⟩⟩
 ·rw [Jh (Je q h0)]; exact e.same b ob q
 ·rw [hh]
  rcases Jx h with ⟨rfl,_,_⟩ | ⟨hn,h⟩
  ·exact absurd hi hj
  ·exact e.read j dj hj h
 ·rw [hh]
  rcases Jx h with ⟨rfl,hd,_⟩ | ⟨hn,h⟩
  ·cases hd; exact ⟨l,hs,h0,new⟩
  ·obtain ⟨m,g1,g0,g2⟩:=e.own j dj hj h
   have hne:m ≠ l:=fun z=>e.apart i j l _ _ hi hj (Ne.symm hn) he h hs (z ▸ g1)
   exact ⟨m,g1,g0,g2.mono (Same.refl _) fun ob q=>by rw [Jh hne]; exact q⟩
 ·have back:∀ (q:Nat) (dq:D),(env.set i (some d'))[q]? = some (some dq) -> ∃ dq',env[q]? = some (some dq'):=fun q dq hq=>by
   rcases Jx hq with ⟨rfl,_,_⟩ | ⟨_,hq⟩
   ·exact ⟨_,he⟩
   ·exact ⟨dq,hq⟩
  obtain ⟨e1,k1⟩:=back j d1 h1
  obtain ⟨e2,k2⟩:=back k d2 h2
  exact e.apart j k m e1 e2 hj hk hn k1 k2 h3
 ·rw [Jh (fun z:a = l=>hn (by rw [z]; exact hl))]; exact q
end
def Chg (m:Bool) (L:List Addr) (H:Hp) (L':List Addr) (H':Hp):Prop:=Fz L H L' H' /\ (m = false -> Same H H')
section
variable {m n:Bool} {L L1 L2:List Addr} {H H1 H2:Hp}
theorem Chg.of (s:Same H H1):Chg m L H L H1:=⟨Fz.sm s,fun _=>s⟩
theorem Chg.trans (a:Chg m L H L1 H1) (b:Chg n L1 H1 L2 H2):Chg (m || n) L H L2 H2:=⟨a.1.trans b.1,fun h=>by
 simp only [Bool.or_eq_false_iff] at h
 exact (a.2 h.1).trans (b.2 h.2)⟩
theorem Chg.weak (a:Chg m L H L1 H1) (h:n = false -> m = false):Chg n L H L1 H1:=⟨a.1,fun q=>a.2 (h q)⟩
end
def OutS (X:Cx) (M:List Nat) (H0:Hp) (L:List Addr) (H:Hp) (m:Bool) (D:Ends) (r:Fw × Fm):Prop:=match r.1 with
 | .nx=>∀ σ' H',EnvOk X.K M H0 H' σ' r.2 -> Chg m L H (Ow M r.2 σ') H' -> D.nx σ' H'
 | .rt d=>∀ v H',Same H0 H' -> Rep X.K H' d v -> D.rt v H'
 | .bk=>∀ σ' H',EnvOk X.K M H0 H' σ' r.2 -> Chg m L H (Ow M r.2 σ') H' -> D.bk σ' H'
 | .ct=>∀ σ' H',EnvOk X.K M H0 H' σ' r.2 -> Chg m L H (Ow M r.2 σ') H' -> D.ct σ' H'
def tS (X:Cx) (call:CallD) (M:List Nat) (H0:Hp) (p:Sx):TS:=fun D σ H=>∃ env,EnvOk X.K M H0 H σ env /\ (exD call p env).Good (OutS X M H0 (Ow M env σ) H (mutS p) D) (XW X H0)
theorem OutS.after {X:Cx} {M:List Nat} {H0 H H1:Hp} {L L1:List Addr} {m n k:Bool} {D:Ends} {r:Fw × Fm} (h:OutS X M H0 L H k D r) (c:Chg m L H L1 H1) (hk:k = false -> m = false /\ n = false):OutS X M H0 L1 H1 n D r:=by
 obtain ⟨f,e⟩:=r
 have tr:∀ {L':List Addr} {H':Hp},Chg n L1 H1 L' H' -> Chg k L H L' H':=fun c2=>(c.trans c2).weak fun q=>by obtain ⟨a,b⟩:=hk q; rw [a,b]; rfl
 cases f with
 | nx=>exact fun σ' H' e' c'=>h σ' H' e' (tr c')
 | rt d=>exact h
 | bk=>exact fun σ' H' e' c'=>h σ' H' e' (tr c')
 | ct=>exact fun σ' H' e' c'=>h σ' H' e' (tr c')
section
variable {X:Cx} {call:CallD} {M:List Nat} {H0:Hp} {e c:Expr} {p pc:Px} {a b:Sx} {pos:Pos} {st:Stmt} {rest sa sb:List Stmt}
theorem PS.weak {t t':TS} (h:PS X st t) (hm:∀ D σ H,t' D σ H -> t D σ H):PS X st t':=fun pins s σ H D I hw=>h pins s σ H D I (hm D σ H hw)
theorem PSs.weak {sts:List Stmt} {t t':TS} (h:PSs X sts t) (hm:∀ D σ H,t' D σ H -> t D σ H):PSs X sts t':=fun pins s σ H D I hw=>h pins s σ H D I (hm D σ H hw)
theorem Jo:PSs X [] (tS X call M H0 .skip):=PSs.weak Jge fun D σ H ⟨env,e,h⟩=>h σ H e (Chg.of (Same.refl H))
theorem Jg (h:PS X st (tS X call M H0 a)):PSs X [st] (tS X call M H0 a):=JaL h
theorem Jd (h1:PS X st (tS X call M H0 a)) (h2:PSs X rest (tS X call M H0 b)):PSs X (st :: rest) (tS X call M H0 (.seq a b)):=by
 refine PSs.weak (Jek h1 h2) fun D σ H ⟨env,e,h⟩=>⟨env,e,?_⟩
 simp only [exD] at h
 refine (Rs.good_bind.mp h).imp fun r hr=>?_
 obtain ⟨f,env2⟩:=r
 have wk:mutS (.seq a b) = false -> mutS a = false:=fun q=>by simp only [mutS,Bool.or_eq_false_iff] at q; exact q.1
 cases f with
 | nx=>
  intro σ' H' e' c'
  refine ⟨env2,e',hr.imp fun r2 h2=>h2.after c' fun q=>?_⟩
  simp only [mutS,Bool.or_eq_false_iff] at q
  exact q
 | rt d=>exact hr
 | bk=>exact fun σ' H' e' c'=>hr σ' H' e' (c'.weak wk)
 | ct=>exact fun σ' H' e' c'=>hr σ' H' e' (c'.weak wk)
theorem Jk (he:PE X e (tI X call p)):PS X (.Return (some e) pos) (tS X call M H0 (.ret p)):=by
 refine PS.weak (JcV he) fun D σ H ⟨env,e,h⟩=>⟨env,e.readOk,?_⟩
 simp only [exD] at h
 exact (Rs.good_bind.mp h).mono (fun d hd v H' s r=>hd v H' (e.same.trans s) r) fun c z=>z.mono e.same
theorem Jw (hc:PT X c (tT X call pc)) (ha:PSs X sa (tS X call M H0 a)) (hb:PSs X sb (tS X call M H0 b)):PS X (.If c sa sb pos) (tS X call M H0 (.ite pc a b)):=by
 refine PS.weak (ps_if hc ha hb) fun D σ H ⟨env,e,h⟩=>⟨env,e.readOk,?_⟩
 simp only [exD] at h
 refine (Rs.good_bind.mp h).mono (fun d hd=>?_) fun c z=>z.mono e.same
 cases d with
 | bl k=>
  refine ⟨k,rfl,fun H' s=>?_⟩
  have fix:∀ {q:Sx},(mutS (.ite pc a b) = false -> mutS q = false) -> (exD call q env).Good (OutS X M H0 (Ow M env σ) H (mutS (.ite pc a b)) D) (XW X H0) -> tS X call M H0 q D σ H':=fun hm hg=>
   ⟨env,e.grow s,hg.imp fun r hr=>hr.after (m:=false) (Chg.of s) fun z=>⟨rfl,hm z⟩⟩
  cases k with
  | true=>exact iteT (fix (fun z=>by simp only [mutS,Bool.or_eq_false_iff] at z; exact z.1) hd)
  | false=>exact iteF (fix (fun z=>by simp only [mutS,Bool.or_eq_false_iff] at z; exact z.2) hd)
 | _=>exact hd.elim
section
variable {G:Gw} {N:List Str} {nm:List (Str × NameKind)} {x:Str} {i:Nat} {px:Pos}
theorem JcY (hM:i ∉ M) (hsp:sepP M p = true) {D:Ends} {σ:L2.St} {H:Hp} (h:tS X call M H0 (.set false i p) D σ H):tAsg (tH X call p) (gName i) D σ H:=by
 obtain ⟨env,e,h⟩:=h
 simp only [exD,Bool.false_and,Bool.false_eq_true,if_false] at h
 refine ⟨blankD M 0 env,Ow M env σ,e.ows,e.readHid,?_⟩
 rw [JO call env hsp]
 exact (Rs.good_bind.mp h).mono (fun d hd v H' s k r=>hd _ _ ((e.grow s).put hM r) (by rw [Jca hM]; exact Chg.of s)) fun c z=>z.mono e.same0
theorem JfD {D:Ends} {σ:L2.St} {H:Hp} (h:tS X call M H0 (.own i p) D σ H):tAsg (tF X call p) (gName i) D σ H:=by
 obtain ⟨env,e,h⟩:=h
 simp only [exD] at h
 refine ⟨env,e.readOk,(Rs.good_bind.mp h).mono (fun d hd=>?_) fun c z=>z.mono e.same⟩
 cases d with
 | lst ds=>
  simp only at hd
  split at hd
  ·exact hd.elim
  ·rename_i q
   have him:imms ds = true:=by simpa using q
   refine ⟨ds,rfl,fun l xs H' s q0 q1 q2=>?_⟩
   obtain ⟨e2,f2⟩:=e.putOwn s (i:=i) (d:=.lst ds) q0 fun Hh tp=>⟨xs,q1,Reps.tups tp ds him q2⟩
   exact hd _ _ e2 ⟨f2,fun _=>s⟩
 | _=>exact hd.elim
theorem Jhr (C:Ctx X G N nm) (hi:N[i]? = some x) (hx:locB nm x = true) (hM:i ∉ M) (hsp:sepP M p = true) (he:PE X e (tI X call p)) (hs:swapsWith e (some (.Name x px)) pos.line X.env = pure false:=by rfl) :
  PS X (.Assign [.Name x px] e pos) (tS X call M H0 (.set false i p)):=by
 obtain ⟨h1,h2⟩:=C.sto x hx
 exact PS.weak (JcI (by rw [C.hN]; exact C.nd) (by rw [C.hN]; exact hi) h1 (Jdi he) hs h2) fun D σ H h=>JcY hM hsp h
theorem JgI (C:Ctx X G N nm) (hi:N[i]? = some x) (hx:locB nm x = true) (he:PE X e (tF X call p)) (hs:swapsWith e (some (.Name x px)) pos.line X.env = pure false:=by rfl) :
  PS X (.Assign [.Name x px] e pos) (tS X call M H0 (.own i p)):=by
 obtain ⟨h1,h2⟩:=C.sto x hx
 exact PS.weak (JcI (by rw [C.hN]; exact C.nd) (by rw [C.hN]; exact hi) h1 he hs h2) fun D σ H h=>JfD h
theorem JeM {m:Bool} {te:TE} (hM:i ∈ M) {D:Ends} {σ:L2.St} {H:Hp} (h:tS X call M H0 (.app m i p) D σ H)
  (hte:∀ env,EnvOk X.K M H0 H σ env -> ∀ Q,(evD call p env).Good (fun d=>∀ v H1,Same H H1 -> (m = true -> d.imm = true) -> Rep X.K (hid (Ow M env σ) H1) d v -> Q v H1) (XW X H0) -> (∀ d,evD call p env = .ok d -> m = true -> d.imm = true) -> te σ H Q) :
  ∃ l,σ[i]? = some (some (.ref l)) /\ (∃ xs,H l = some (.lst xs)) /\ te σ H fun v H1=>∃ xs,H1 l = some (.lst xs) /\ xs.length < sizeLine /\ D.nx σ (upd H1 l (.lst (xs ++ [v]))):=by
 obtain ⟨env,e,h⟩:=h
 simp only [exD] at h
 cases q:env[i]? with
 | none=>rw [q] at h; exact h.elim
 | some o=>
  rw [q] at h
  cases o with
  | none=>exact h.elim
  | some d=>
   cases d with
   | lst ds=>
    obtain ⟨l,hσ,h0,xs,hl,hr⟩:=e.own i _ hM q
    refine ⟨l,hσ,⟨xs,hl⟩,hte env e _ ((Rs.good_bind.mp h).imp fun d hd v H1 s1 him r1=>?_) fun d ed hm=>?_⟩
    ·split at hd
     ·exact hd.elim
     ·rename_i hz
      simp only [Bool.or_eq_true,not_or,Bool.not_eq_true',Bool.not_eq_true,decide_eq_false_iff_not,Decidable.not_not] at hz
      have hl1:=s1 _ _ hl
      have hz2:ds.length < lineD:=by simpa using hz.2
      refine ⟨xs,hl1,by rw [hr.length,sizeLine_eq]; exact hz2,?_⟩
      obtain ⟨e2,f2⟩:=(e.grow s1).change (d':=.lst (ds ++ [d])) (o:=.lst (xs ++ [v])) hM q hσ ⟨_,Jm,(hr.mono (Fz.sm s1).hid).append (Reps.one r1)⟩
      exact hd σ _ e2 ⟨(Fz.sm s1).trans f2,fun z=>by cases z⟩
    ·rw [ed] at h
     simp only [Rs.bind_ok] at h
     split at h
     ·exact h.elim
     ·rename_i hz
      simp only [Bool.or_eq_true,not_or,hm,Bool.true_and] at hz
      simpa using hz.1
   | _=>exact h.elim
theorem JhH {apos:Pos} (C:Ctx X G N nm) (hi:N[i]? = some x) (hx:visB nm x = true) (hd1:(x == ("__debug__" : Str)) = false) (hd2:(x == ("__classdict__" : Str)) = false) (hM:i ∈ M) (hsp:sepP M p = true) (he:PE X e (tI X call p))
  (hl:(apos.endLine == pos.line) = true) {pos':Pos} (hs:starEach [e] X.env = (false,eval e X.env) :: starEach [] X.env:=by rfl):PS X (.Expr (.Call (.Attribute (.Name x px) "append" apos) [e] [] pos) pos') (tS X call M H0 (.app false i p)):=by
 refine PS.weak (Jgh (JfG PySem.F.plainAttrs_list PySem.F.slot_list_append PySem.F.type_list_append JdA (Jbm (by rw [C.hN]; exact hi) (C.vis x hx) hd1 hd2) (Jt (Jdi he) JJ hs) rfl (by rw [hs]; rfl) hl hs rfl) rfl) fun D σ H h=>?_
 obtain ⟨l,hσ,⟨xs,hl⟩,h⟩:=JeM (te:=tH X call p) hM h fun env e Q g _=>⟨blankD M 0 env,Ow M env σ,e.ows,e.readHid,by
  rw [JO call env hsp]
  exact g.mono (fun d hd v H' s k r=>hd v H' s (fun z=>by cases z) r) fun c z=>z.mono e.same0⟩
 obtain ⟨env,L,k1,k2,k3⟩:=h
 refine ⟨.ref l,hσ,.inl ⟨rfl,xs,SqL.of hl⟩,env,L,k1,k2,k3.imp fun d hd v H1 s1 kk r1=>?_⟩
 simp only [tNil]
 obtain ⟨ys,g1,g2,g3⟩:=hd v H1 s1 kk r1
 exact ⟨l,ys,v,rfl,rfl,g1,g2,g3⟩
end
end
end Rd
namespace Rd
open PySem PySem.Spec PyProof.Rows L2 Pu
def gS (X:Cx) (M:List Nat) (H0:Hp) (ts:List Nat) (nt:Nat):TG:=fun v σ H Q=>∃ env d new,EnvOk X.K M H0 H σ env /\ Rep X.K (hid (Ow M env σ) H) d v /\ bindT nt d = .ok new /\ ∀ σ',EnvOk X.K M H0 H σ' (setAll ts new env) -> Ow M (setAll ts new env) σ' = Ow M env σ -> Q σ' H
section
variable {X:Cx} {call:CallD} {M:List Nat} {H0:Hp} {G:Gw} {N:List Str} {nm:List (Str × NameKind)} {x y z:Str} {i j l k:Nat} {pos p1 p2 p3:Pos}
theorem JgD (C:Ctx X G N nm) (hi:N[i]? = some x) (hx:locB nm x = true) (hM:i ∉ M):PG X (.Name x pos) (gS X M H0 [i] 0):=by
 obtain ⟨h1,h2⟩:=C.sto x hx
 intro pins s σ H v u Q I r ⟨env,d,new,e,rd,hb,h⟩
 refine JdF (pos:=pos) (i:=i) (by rw [C.hN]; exact C.nd) (by rw [C.hN]; exact hi) h1 h2 pins s σ H v u Q I r ?_
 simp only [bindT,if_true] at hb
 cases hb
 exact h _ (e.put hM rd) (Jca hM)
theorem Jei {body:Sx} {ts:List Nat} {nt:Nat} {D:Ends} {σ:L2.St} {H H1:Hp} {env:Fm} {ds:List Pu.D} {J:It} (e:EnvOk X.K M H0 H1 σ env) (s1:Same H H1)
  (wk:∀ L' H',Chg (mutS body) (Ow M env σ) H1 L' H' -> Ows L' H' -> (∀ i,i < ds.length -> J.go i H') /\ J.stop ds.length H' /\ ∀ i x H'',i < ds.length -> J.yld i H' x H'' -> Same H' H'' /\ ∃ d,ds[i]? = some d /\ Rep X.K (hid L' H'') d x)
  (h:(forL ts nt (exD call body) ds env).Good (OutS X M H0 (Ow M env σ) H (mutS body) D) (XW X H0)) :
  ∃ W:Nat -> Nat -> L2.St -> Hp -> Prop,(∃ m,W 0 m σ H1) /\ ∀ i m σ H,W i m σ H -> (J.stop i H /\ D.nx σ H) \/ (J.go i H /\ ∃ Nn:L2.St -> Hp -> Prop,(∀ σ' H',Nn σ' H' -> ∃ m',m' < m /\ W (i + 1) m' σ' H') /\
   ∀ x H',J.yld i H x H' -> gS X M H0 ts nt x σ H' fun σ2 H2=>tS X call M H0 body { D with nx:=Nn,ct:=Nn,bk:=D.nx } σ2 H2):=by
 refine ⟨fun i m σ' H'=>∃ env',EnvOk X.K M H0 H' σ' env' /\ Chg (mutS body) (Ow M env σ) H1 (Ow M env' σ') H' /\ i <= ds.length /\ m = ds.length - i /\ (forL ts nt (exD call body) (ds.drop i) env').Good (OutS X M H0 (Ow M env σ) H (mutS body) D) (XW X H0),
  ⟨ds.length,env,e,Chg.of (Same.refl _),Nat.zero_le _,rfl,by simpa using h⟩,?_⟩
 rintro i m σ' H' ⟨env',e',c',hi,rfl,hg⟩
 obtain ⟨w1,w2,w3⟩:=wk _ H' c' e'.ows
 have cH:∀ {L':List Addr} {Hz:Hp},Chg (mutS body) (Ow M env σ) H1 L' Hz -> Chg (mutS body) (Ow M env σ) H L' Hz:=fun z=>((Chg.of (m:=false) s1).trans z).weak fun q=>by rw [q]; rfl
 by_cases hlt:i < ds.length
 ·refine .inr ⟨w1 i hlt,fun σ2 H2=>∃ m',m' < ds.length - i /\ ∃ env',EnvOk X.K M H0 H2 σ2 env' /\ Chg (mutS body) (Ow M env σ) H1 (Ow M env' σ2) H2 /\ i + 1 <= ds.length /\ m' = ds.length - (i + 1) /\ (forL ts nt (exD call body) (ds.drop (i + 1)) env').Good (OutS X M H0 (Ow M env σ) H (mutS body) D) (XW X H0),fun σ2 H2 q=>q,fun x H2 hy=>?_⟩
  obtain ⟨s2,d,hd,rd⟩:=w3 i x H2 hlt hy
  rw [Jbj hd] at hg
  simp only [forL] at hg
  replace hg:=Rs.good_bind.mp hg
  cases hb:bindT nt d with
  | stuck=>rw [hb] at hg; exact hg.elim
  | ex c=>exact (Jce hb).elim
  | ok new=>
   rw [hb] at hg
   refine ⟨env',d,new,e'.grow s2,rd,hb,fun σ3 e3 ow3=>⟨setAll ts new env',e3,(Rs.good_bind.mp hg).imp fun r hr=>?_⟩⟩
   have c2:Chg (mutS body) (Ow M env σ) H1 (Ow M env' σ') H2:=(c'.trans (n:=false) (Chg.of s2)).weak fun q=>by rw [q]; rfl
   have cc:∀ {L':List Addr} {Hz:Hp},Chg (mutS body) (Ow M (setAll ts new env') σ3) H2 L' Hz -> Chg (mutS body) (Ow M env σ) H1 L' Hz:=fun z=>by
    rw [ow3] at z
    exact (c2.trans z).weak fun q=>by rw [q]; rfl
   obtain ⟨f,env4⟩:=r
   cases f with
   | nx=>exact fun σ4 H4 e4 c4=>⟨_,by omega,env4,e4,cc c4,by omega,rfl,hr⟩
   | ct=>exact fun σ4 H4 e4 c4=>⟨_,by omega,env4,e4,cc c4,by omega,rfl,hr⟩
   | bk=>exact fun σ4 H4 e4 c4=>hr σ4 H4 e4 (cH (cc c4))
   | rt d=>exact hr
 ·have he:i = ds.length:=by omega
  subst he
  rw [List.drop_length] at hg
  exact .inl ⟨w2,hg σ' H' e' (cH c')⟩
variable {tg iter:Expr} {body:List Stmt} {src:Px} {sb:Sx} {ts:List Nat} {nt:Nat}
theorem Jfd (C:Ctx X G N nm) (hp:PassesOwn (model X.prog X.w) X.A X.env X.xe) (hi:PI X tg iter (tW X call src)) (hg:PG X tg (gS X M H0 ts nt)) (hb:PSs X body (tS X call M H0 sb)) (hsp:sepP M src = true)
  (hs:∀ x,foldedSetIterable iter X.env x = pure x:=by intro _; rfl):PS X (.For tg iter body [] pos) (tS X call M H0 (.loop false ts nt src sb)):=by
 refine PS.weak (Jhq hp C.calm (JgQ hi) hg hb hs) fun D σ H ⟨env,e,h⟩=>⟨blankD M 0 env,Ow M env σ,e.ows,e.readHid,?_⟩
 simp only [exD] at h
 rw [JO call env hsp]
 refine (Rs.good_bind.mp h).mono (fun d hd=>?_) fun c z=>z.mono e.same0
 cases d with
 | lst ds=>
  simp only [Pu.D.asL,Rs.bind_ok,Bool.false_and,Bool.false_eq_true,if_false] at hd
  refine ⟨ds,rfl,fun J H' s1 kk w ok=>Jei (call:=call) (e.grow s1) s1 (fun L' Hz q ow=>?_) hd⟩
  have sh:Same (hid (Ow M env σ) H') (hid L' Hz):=q.1.hid
  obtain ⟨a1,a2,a3⟩:=w Hz (sh.trans hid_same)
  refine ⟨a1,a2,fun i x H'' hi hy=>⟨(a3 i x H'' hi hy).1,?_⟩⟩
  have hy':=ok L' i Hz x H'' ow hy
  exact ((w _ sh).2.2 i x _ hi hy').2
 | _=>exact hd.elim
end
end Rd
namespace Rd
open PySem PySem.Spec PyProof.Rows L2 Pu
def spI (K:PySem.W.Frag) (mg:Str -> Option Value) (call:CallD) (fi:Nat):Sp:=fun vs H Q E=>∃ ds,Reps K H ds vs /\ (call fi ds).Good (fun d=>∀ v H',Same H H' -> Rep K H' d v -> Q v H') (fun c=>∀ C H',mg c = some (.ref C) -> Same H H' -> E (.ref C) none H')
theorem Room.out {k:Nat} {A:Around} (r:Room k A.in1.in1):Room k A:=⟨r.hd,r.dp,by have:=r.un; simp only [Around.in1] at this; omega⟩
structure Callee (G:Gw) (call:CallD) (fi:Nat) (x:Str):Prop where
 ex:∃ (kk:Nat) (f:Addr) (fd:FuncData) (ps:List Str),FnOk G.prog G.w G.K G.mg G.base (CXr G.prog G.w) kk f fd ps (spI G.K G.mg call fi) /\ Room kk G.A.in1.in1 /\ G.mg x = some (.ref f) /\ PySem.W.keepIn G.K (.ref f) = true /\ Binds G.K fd ps []
section
variable {X:Cx} {call:CallD} {G:Gw} {N:List Str} {nm:List (Str × NameKind)} {e:Expr} {es:List Expr} {p:Px} {pos p1:Pos} {x:Str} {fi:Nat}
theorem JfR (C:Ctx X G N nm) (hc:Callee G call fi x) (hg:gloB nm x = true) (hdb:(x == ("__debug__" : Str)) = false) (ha:PA X (e :: es) (tA X call p)) (he:starEach (e :: es) X.env = (false,eval e X.env) :: starEach es X.env:=by rfl)
  (hpl:(backTo pos (starEach es X.env)).any (·.1) = false:=by rfl):PE X (.Call (.Name x p1) (e :: es) [] pos) (tI X call (.call fi p)):=by
 obtain ⟨kk,f,fd,ps,F,hr,hm,hk,hb⟩:=hc.ex
 have hr:=Room.out hr
 have hG:=C.g
 subst hG
 have hp:Passes (CXr X.prog X.w) X (fun cls _ H'=>∀ C,cls = .ref C -> XE X C H'):=fun pins σ H s e s' I hc=>by
  obtain ⟨a,C,H',rfl,F,hE⟩:=Jac I hc
  exact hE C rfl a s' F
 refine PE.weak (Jgi F hr (C.glo x hg) hm hk hb .nil hp ha hdb he hpl) fun σ H Q ⟨env,r,h⟩=>⟨env,r,?_⟩
 simp only [evD] at h
 refine (Rs.good_bind.mp h).imp fun d hd=>?_
 cases d with
 | lst ds=>
  simp only [D.asL,Rs.bind_ok] at hd
  refine ⟨ds,rfl,fun vs H' s rs=>?_⟩
  show spI X.K X.mg call fi (vs ++ []) H' Q _
  rw [List.append_nil]
  exact ⟨ds,rs,hd.mono (fun d o v H2 s2 rv=>o v H2 (s.trans s2) rv) fun c z C H2 hm2 s2 C' e=>by cases e; exact z C H2 hm2 (s.trans s2)⟩
 | _=>exact hd.elim
end
theorem Jbl {n:Nat} {ds:List D} {i:Nat} {d:D} (h:(startD n ds)[i]? = some (some d)):ds[i]? = some d:=by
 unfold startD at h
 by_cases hi:i < ds.length
 ·rw [List.getElem?_append_left (by simpa using hi),List.getElem?_map] at h
  cases q:ds[i]? with
  | none=>rw [q] at h; cases h
  | some d'=>rw [q] at h; cases h; rfl
 ·rw [List.getElem?_append_right (by simpa using hi),List.getElem?_replicate] at h
  split at h <;> cases h
section
variable {P:Program} {w:World} {K:PySem.W.Frag} {mg:Str -> Option Value} {base:Heap} {defs:List DefD} {fi k:Nat} {d:DefD}
theorem Jay {H:Hp} {N:List Str} {ds:List D} {vs:List V} {M:List Nat} (hs:d.slots = N.length) (hl:ds.length <= N.length) (hM:∀ i ∈ M,ds.length <= i) (r:Reps K H ds vs):EnvOk K M H H (L2.start N vs) (startD d.slots ds):=by
 have l:=r.length
 have get:∀ (i:Nat) (dd:D),(startD d.slots ds)[i]? = some (some dd) -> ∃ v,(L2.start N vs)[i]? = some (some v) /\ Rep K H dd v:=fun i dd h=>by
  have h':=Jbl h
  obtain ⟨v,h1,h2⟩:=r.get h'
  refine ⟨v,?_,h2⟩
  have hi:i < vs.length:=(List.getElem?_eq_some_iff.mp h1).1
  unfold L2.start
  rw [List.getElem?_append_left (by simpa using hi),List.getElem?_map,h1]
  rfl
 have no:∀ (i:Nat) (dd:D),i ∈ M -> (startD d.slots ds)[i]? = some (some dd) -> False:=fun i dd hi h=>by
  have h':=Jbl h
  have:=(List.getElem?_eq_some_iff.mp h').1
  have:=hM i hi
  omega
 have ow:Ow M (startD d.slots ds) (L2.start N vs) = []:=by
  cases q:Ow M (startD d.slots ds) (L2.start N vs) with
  | nil=>rfl
  | cons b t=>
   obtain ⟨i,hi,dd,h1,_⟩:=mem_Ow.mp (show b ∈ Ow M (startD d.slots ds) (L2.start N vs) by rw [q]; simp)
   exact (no i dd hi h1).elim
 refine ⟨Same.refl H,?_,fun i dd _ h=>by rw [ow,Jfn]; exact get i dd h,fun i dd hi h=>(no i dd hi h).elim,fun i j l d1 d2 hi _ _ h=>(no i d1 hi h).elim⟩
 unfold L2.start startD
 rw [List.length_append,List.length_append,List.length_map,List.length_map,List.length_replicate,List.length_replicate,hs,l]
structure HX (X:Cx) (nm:List (Str × NameKind)):Prop where
 sc:X.env.scope.names = nm
 pass:PassesOwn (model X.prog X.w) X.A X.env X.xe
 stk:X.stack = X.env :: X.outer
 frm:X.env.frame = some X.env.locals
 ex:X.ex = []
theorem fn_ok {j:Nat} {x qual:Str} {st:Stmt} {f:Addr} {fd:FuncData} {N ps:List Str} {M:List Nat} (F:Fun K x qual st f fd) (S:FnScope N ps (defScope st)) (hd:defs[fi]? = some d) (hs:d.slots = N.length) (hp:d.params = ps.length) (hM:∀ i ∈ M,ps.length <= i) (hpN:ps.length <= N.length)
  (hbody:∀ (X:Cx) (A:Around) (H0:Hp),Ctx X ⟨P,w,K,mg,base,A⟩ N (defScope st).names -> Room j A -> HX X (defScope st).names -> PSs X (defBody st) (tS X (runD defs k) M H0 d.body)) :
  FnOk P w K mg base (CXr P w) (j + 1) f fd ps (spI K mg (runD defs (k + 1)) fi):=by
 have unf:∀ ds,runD defs (k + 1) fi ds = if ds.length = d.params then answerD (exD (runD defs k) d.body (startD d.slots ds)) else .stuck:=fun ds=>by
  simp only [runD,hd]
 obtain ⟨oc,od,kV,doc,pm,an,cdv,ct,osl,rfl,lk,hcd⟩:=F.ex
 refine JfB lk hcd S (fun vs H Q E h=>?_) (fun A outer s H vs Q E hr h=>?_)
 ·obtain ⟨ds,r,g⟩:=h
  rw [unf] at g
  split at g
  ·rename_i q
   rw [r.length,q,hp]
  ·exact g.elim
 ·obtain ⟨ds,r,g⟩:=h
  rw [unf] at g
  split at g
  ·rename_i q
   have C:Ctx (cxOf (CXr P w) P w K mg base N qual (defScope st) f cdv A outer s H E) ⟨P,w,K,mg,base,A.deeper (envOfC qual (defScope st) s.heap.objs.size f cdv)⟩ N (defScope st).names:={
    g:=rfl
    hN:=rfl
    nd:=S.nd
    vis:=fun y hy=>by
     show Vis (defScope st) y
     unfold visB at hy
     split at hy
     ·rename_i z; exact .inl z
     ·rename_i z; exact .inr (.inl z)
     ·rename_i z; exact .inr (.inr z)
     ·cases hy
    cel:=fun y hy=>by
     show (defScope st).names.lookup y = some .cell \/ (defScope st).names.lookup y = some .free
     unfold celB at hy
     split at hy
     ·rename_i z; exact .inl z
     ·rename_i z; exact .inr z
     ·cases hy
    glo:=fun y hy=>by
     show (defScope st).names.lookup y = some .globalImplicit
     unfold gloB at hy
     split at hy
     ·rename_i z; exact z
     ·cases hy
    sto:=fun y hy=>by
     show Loc (defScope st) y /\ (true = true \/ _)
     unfold locB at hy
     split at hy
     ·rename_i z; exact ⟨.inl z,.inl rfl⟩
     ·rename_i z; exact ⟨.inr z,.inl rfl⟩
     ·cases hy
    calm:=rfl
    un:=hr.units
    fr:=⟨_,_,_,rfl,rfl,rfl⟩ }
   refine ⟨_,hbody _ _ H C hr ⟨rfl,PassesOwn.leaving,rfl,rfl,rfl⟩,startD d.slots ds,Jay hs (by omega) (fun i hi=>by have:=hM i hi; omega) r,?_⟩
   cases q2:exD (runD defs k) d.body (startD d.slots ds) with
   | ok r2=>
    rw [q2] at g
    obtain ⟨fl,env2⟩:=r2
    cases fl with
    | nx=>exact fun σ' H' e' _=>g .non H' e'.same rfl
    | rt dd=>exact fun v H' s' r'=>g v H' s' r'
    | bk=>exact g.elim
    | ct=>exact g.elim
   | ex c=>
    rw [q2] at g
    exact fun C2 H2 hm s2 a s' F=>Jcb F (g C2 H2 hm s2)
   | stuck=>rw [q2] at g; exact g.elim
  ·exact g.elim
theorem Jfr {f:Addr} {fd:FuncData} {ps:List Str}:FnOk P w K mg base (CXr P w) 0 f fd ps (spI K mg (runD defs 0) fi):=
 ⟨fun vs H Q E ⟨_,_,h⟩=>h.elim,fun A outer s H args us vs Q E _ _ _ _ ⟨_,_,h⟩=>h.elim⟩
end
section
variable {X:Cx} {call:CallD} {M:List Nat} {H0:Hp} {e:Expr} {p:Px} {pos:Pos} {G:Gw} {N:List Str} {nm:List (Str × NameKind)} {x:Str} {i:Nat} {px:Pos}
end
end Rd
namespace Rd
open PySem PySem.Spec PyProof.Rows L2 Pu
section
variable {X:Cx} {call:CallD} {a b:Expr} {pa pb:Px} {pos p1 p2:Pos} {G:Gw} {N:List Str} {nm:List (Str × NameKind)}
theorem JdI:MtR X "str.startswith" (fun x xs H Q=>∃ y,xs = [y] /\ rD2 X .starts x y H Q):=by
 intro pins s σ H x xs v us Q I rx rv ⟨y,e,dx,dy,r1,r2,h⟩
 subst e
 obtain ⟨u,rfl,ru⟩:=Jbp rv
 cases dx <;> cases dy <;> first
  | exact (show False from h).elim
  | skip
 rename_i z w
 have e1:x = V.str z:=r1
 have e2:y = V.str w:=r2
 subst e1; subst e2
 obtain ⟨t,rfl⟩:=rx
 obtain ⟨t',rfl⟩:=ru
 refine call_meets F.slot_str_startswith (typeIs_str _ _ _) F.entry_str_startswith (F.args_str_startswith_2 _ _) (gives_str_startswith z w t t').meets ?_
 exact ⟨.bl _,H,I,rfl,Out.now h rfl⟩
theorem Jdo {apos:Pos} {dc:D} (ha:PE X a (tI X call pa)) (hb:PE X b (tI X call (.con dc))) (hstr:True) (hl:(apos.endLine == pos.line) = true) (hbase:attributeBase a "startswith" X.env (eval a X.env) = eval a X.env:=by rfl)
  (hs:starEach [b] X.env = (false,eval b X.env) :: starEach [] X.env:=by rfl):PE X (.Call (.Attribute a "startswith" apos) [b] [] pos) (tI X call (.bi .starts pa (.con dc))):=by
 refine PE.weak (JfG F.plainAttrs_str F.slot_str_startswith F.type_str_startswith JdI ha (Jt hb JJ hs) hbase (by rw [hs]; rfl) hl hs rfl) fun σ H Q h=>?_
 obtain ⟨env,r,h⟩:=h
 simp only [evD] at h
 refine tI.then r h fun dx x H1 s1 r1 q1 h1=>?_
 simp only [Rs.bind_ok] at h1
 have ty:∃ z,dx = .str z:=by
  cases dx <;> cases dc <;> first | exact (show False from h1).elim | exact ⟨_,rfl⟩
 obtain ⟨z,rfl⟩:=ty
 refine ⟨by rw [show x = V.str z from r1]; rfl,env,q1,?_⟩
 intro y H2 s2 r2
 exact ⟨y,rfl,.str z,dc,r1.mono s2,r2,h1.mono (fun _ o=>o.mono s2) fun _ q=>q.mono s2⟩
end
def tyName:D -> String
 | .non=>"NoneType"
 | .bl _=>"bool"
 | .int _=>"int"
 | .str _=>"str"
 | .tup _=>"tuple"
 | .lst _=>"list"
 | _=>""
theorem Jes {X:Cx} {pins:List (Addr × Obj)} {σ:L2.St} {H:Hp} {s:Shared} {A:Around} {E:Value -> Shared -> Prop} {Q:Value -> Shared -> Prop} {c:Value} {k:Bool} {d:D} {x:V} {u:Value} (I:L2.Inv X pins σ H s) (r:Rep X.K H d x) (rx:RelV x u) (hp:tyName d ≠ "")
  (e:PySem.W.kitOne X.K (.type (tyName d)) c = some k) (h:∀ tk,Q (.bool k) { s with toks:=tk }):wpAny (model X.prog X.w) A (PySem.call (.builtin "isinstance") [u,c]) Q E s:=by
 cases d with
 | non=>cases r; cases (show u = Value.none from rx); exact PySem.W.kia_one PySem.W.kitx_none I.kIn True.intro e (fun z=>nomatch z) h
 | bl y=>cases r; cases (show u = Value.bool y from rx); exact PySem.W.kia_one PySem.W.kitx_bool I.kIn True.intro e (fun z=>nomatch z) h
 | int i=>cases r; obtain ⟨t,rfl⟩:=rx; exact PySem.W.kia_one PySem.W.kitx_int I.kIn True.intro e (fun z=>nomatch z) h
 | str y=>cases r; obtain ⟨t,rfl⟩:=rx; exact PySem.W.kia_one PySem.W.kitx_str I.kIn True.intro e (fun z=>nomatch z) h
 | tup ds=>
  obtain ⟨a,xs,rfl,h1,_⟩:=r
  cases (show u = Value.ref a from rx)
  obtain ⟨its,_,p,_⟩:=I.tuple h1
  obtain ⟨o,g1,g2,_⟩:=p
  exact PySem.W.kia_one PySem.W.kitx_tuple I.kIn ⟨o,g1,g2⟩ e (fun z=>nomatch z) h
 | lst ds=>
  obtain ⟨a,xs,rfl,h1,_⟩:=r
  cases (show u = Value.ref a from rx)
  obtain ⟨its,_,p,_⟩:=I.list h1
  obtain ⟨o,g1,g2,_⟩:=p.isList
  exact PySem.W.kia_one PySem.W.kitx_list I.kIn ⟨o,g1,g2⟩ e (fun z=>nomatch z) h
 | _=>exact absurd rfl hp
example (K:PySem.W.Frag):PySem.W.kitOne K (.type "str") (.type "tuple") = some false:=by
 first | rfl | decide | (unfold PySem.W.kitOne PySem.W.kitCls; simp)
end Rd
namespace Rd
open PySem PySem.Spec PyProof.Rows L2 Pu
theorem JaZ {K:PySem.W.Frag} {H:Hp} {ds:List D} {xs:List V} (h:Reps K H ds xs):∀ k:Nat,Reps K H (List.replicate k ds).flatten (List.replicate k xs).flatten
 | 0=>rfl
 | k + 1=>by
  rw [List.replicate_succ,List.replicate_succ,List.flatten_cons,List.flatten_cons]
  exact h.append (JaZ h k)
section
variable {X:Cx} {call:CallD} {a b:Expr} {pa pb:Px} {pos p1 p2:Pos} {G:Gw} {N:List Str} {nm:List (Str × NameKind)}
def IsiOp (o:O1) (T:String):Prop:=∀ (K:PySem.W.Frag) (d:D),(tyName d ≠ "" /\ ∃ k,PySem.W.kitOne K (.type (tyName d)) (.type T) = some k /\ op1 o d = .ok (.bl k)) \/ op1 o d = .stuck
theorem Jgf:IsiOp .isStr "str":=fun K d=>by cases d <;> first | exact .inl ⟨by simp [tyName],_,by rfl,by rfl⟩ | exact .inr rfl
theorem JfI:IsiOp .isTup "tuple":=fun K d=>by cases d <;> first | exact .inl ⟨by simp [tyName],_,by rfl,by rfl⟩ | exact .inr rfl
theorem Jhs {o:O1} {T:String} (hi:IsiOp o T):CallR X (.builtin "isinstance") (fun xs H Q=>∃ x d,xs = [x,.ty T] /\ Rep X.K H d x /\ (op1 o d).Good (Out X H Q) (XW X H)):=by
 intro pins s σ H xs us Q I rv ⟨x,d,e,r,h⟩
 subst e
 obtain ⟨u1,u2,rfl,r1,r2⟩:=Jhk rv
 cases (show u2 = Value.type T from r2)
 rcases hi X.K d with ⟨hp,k,e1,e2⟩ | e
 rotate_left
 ·rw [e] at h; exact h.elim
 rw [e2] at h
 exact Jes I r r1 hp e1 fun tk=>⟨.bl k,H,I.kept (t':=tk) (fun _ _ q=>q),rfl,Out.now h rfl⟩
theorem cIsi {o:O1} {T:String} {y:Str} (hi:IsiOp o T) (C:Ctx X G N nm) (hm:G.mg "isinstance" = none) (hy:G.mg y = none) (hv:bootBuiltins y = some (.type T)) (ha:PE X a (tI X call pa)) (hg:gloB nm "isinstance" = true) (hgy:gloB nm y = true) (hn:y ≠ "__name__") (hdb:(y == ("__debug__" : Str)) = false)
  (hs:starEach [a,.Name y p2] X.env = (false,eval a X.env) :: starEach [.Name y p2] X.env:=by rfl):PE X (.Call (.Name "isinstance" p1) [a,.Name y p2] [] pos) (tI X call (.un o pa)):=by
 refine PE.weak (JaY (Jhs hi) (C.glo _ hg) (by rw [C.mg]; exact hm) PyProof.Rows.boot_isinstance (Jt ha (Jt (JdH (v:=.ty T) (C.glo _ hgy) (by rw [C.mg]; exact hy) hv rfl hn hdb) JJ rfl) hs) (by decide +kernel) (by decide +kernel) hs rfl) fun σ H Q ⟨env,r,h⟩=>?_
 simp only [evD] at h
 refine ⟨env,r,(Rs.good_bind.mp h).imp fun d hd v H' s rv=>?_⟩
 exact ⟨v,d,rfl,rv,hd.mono (fun _ o=>o.mono s) fun _ q=>q.mono s⟩
theorem Js:fillsNumberSlot (.type "tuple") "mul" = pure false:=
 PySem.fillsNumberSlot_seq (id:="tuple.__mul__") (r:=some (.builtin "tuple.__rmul__")) PySem.F.slot_tuple_mul.lookup (by decide +kernel) PySem.F.slot_tuple_rmul.lookup (by decide +kernel)
theorem JF:seqRepeat? (.type "tuple") = pure (some (.builtin "tuple.__mul__")):=by
 unfold seqRepeat?
 rw [PySem.seqSlot_of (T:="tuple") (name:="__mul__") (id:="tuple.__mul__") PySem.F.slot_tuple_mul.lookup (by decide +kernel),PySem.seqSlot_of (T:="tuple") (name:="__rmul__") (id:="tuple.__rmul__") PySem.F.slot_tuple_rmul.lookup (by decide +kernel)]
 rfl
theorem Jy (a:Int) (t:Tok) (l:Addr) (items:Array Value) (n:Nat) (dd:Option Addr) (sl:Array (Option Value)) :
  Meets (Builtin.«int.__rmul__» ⟨[.int a t,.ref l],[]⟩) (fun _ R s=>s.heap.get? l = some { cls:=.type "tuple",dict:=dd,data:=.seq items n,slots:=sl } /\ R (.ok (.ret Value.notImplemented)) s):=
 .of_wp fun prog w A R s h=>by obtain ⟨hp,g,d,tk,os⟩:=s; obtain ⟨hl,h⟩:=h; wp_walk; exact ⟨_,rfl,h⟩
theorem Jcl (k:Int) (t:Tok) (l:Addr) (items:Array Value) (n:Nat) (dd:Option Addr) (sl:Array (Option Value)) (h1:(decide (k < -(2 ^ 63)) || decide (k ≥ 2 ^ 63)) = false) (h2:(items.isEmpty || k == 1) = false) (h3:(decide (k <= 0) || items.isEmpty) = false)
  (h4:decide (items.size * k > (2 ^ 63 - 1) / 8) = false) (h5:Builtin.Tuple.tupleTooMany (items.size * k) = false) (h6:((List.replicate k.toNat items).foldl (fun x1 x2=>x1 ++ x2) #[]).size <= sizeLine) :
  Meets (Builtin.«tuple.__mul__» ⟨[.ref l,.int k t],[]⟩) (fun _ R s=>s.heap.get? l = some { cls:=.type "tuple",dict:=dd,data:=.seq items n,slots:=sl } /\ R (.ok (.ret (Value.ref s.heap.objs.size))) { s with heap:=s.heap.push { cls:=Value.type "tuple",data:=Data.seq (List.foldl (fun x1 x2=>x1 ++ x2) #[] (List.replicate k.toNat items)) },toks:=s.toks }):=
 .of_wp fun prog w A R s h=>by
  obtain ⟨hp,g,d,tk,os⟩:=s; obtain ⟨hl,h⟩:=h
  have f1:=AutoSeq1.idx_int; have f2:=AutoSeq1.sub_tuple_tuple; have f3:=AutoSeq1.sub_list_list; have f4:=AutoSeq1.sub_tuple_list; have f5:=AutoSeq1.sub_list_tuple
  wp_walk using AutoSeq1.wpAny_loadPart' hl
  refine wpAny_ite_false (by rw [h1]; rfl) ?_
  wp_walk using AutoSeq1.wpAny_loadPart' hl
  refine wpAny_ite_false h4 ?_
  wp_walk using AutoSeq1.wpAny_loadPart' hl
  exact ⟨_,rfl,h⟩
theorem Jfl {prog:Program} {w:World} {A:Around} {E:Value -> Shared -> Prop} {s:Shared} {l:Addr} {its:List Value} {k:Int} {t:Tok} {Q:Value -> Shared -> Prop} (hl:IsTup s.heap l its.toArray) (hk:2 <= k) (hne:its ≠ []) (hz:its.length * k.toNat <= sizeLine)
  (h:Q (.ref s.heap.objs.size) { s with heap:=s.heap.push { cls:=.type "tuple",data:=.seq (List.replicate k.toNat its).flatten.toArray } }):wpAny (model prog w) A (binaryOp .Mult (.ref l) (.int k t)) Q E s:=by
 obtain ⟨⟨cls,dd,data,sl⟩,ho,hc,n,hd⟩:=id hl
 simp only at hc hd
 subst hc hd
 have hp:1 <= its.length:=by
  cases its with
  | nil=>exact absurd rfl hne
  | cons a r=>simp
 have hkn:k.toNat <= sizeLine:=Nat.le_trans (by calc k.toNat = 1 * k.toNat:=by omega
  _ <= its.length * k.toNat:=Nat.mul_le_mul_right _ hp) hz
 have sl16:sizeLine = 16777216:=sizeLine_eq
 have hki:k = (k.toNat:Int):=by omega
 have hprod:((its.toArray.size:Nat):Int) * k = ((its.length * k.toNat:Nat):Int):=by
  rw [List.size_toArray,Int.natCast_mul,<- hki]
 have hnew:List.foldl (fun x1 x2=>x1 ++ x2) #[] (List.replicate k.toNat its.toArray) = (List.replicate k.toNat its).flatten.toArray:=by
  have:=Jap its k.toNat []
  rw [List.nil_append] at this
  exact this
 have e0:its.toArray.isEmpty = false:=by
  cases its with
  | nil=>exact absurd rfl hne
  | cons a r=>simp
 refine wpAny_binaryOp_repeat_ref (T:="tuple") (U:="int") (by decide) ⟨_,ho,rfl⟩ (fun s'=>typeIs_int s' k t) Js F.fills_int_mul F.slot_int_rmul JF F.slot_int_index.lookup
  (call_meets F.slot_int_rmul (typeIs_int s k t) F.entry_int_rmul (F.args_int_rmul_2 _ _) (Jy k t l its.toArray n dd sl)
   ⟨ho,rfl,⟨_,ho,rfl⟩,call_meets F.slot_tuple_mul ⟨_,ho,rfl⟩ F.entry_tuple_mul (F.args_tuple_mul_2 _ _) (Jcl k t l its.toArray n dd sl ?_ ?_ ?_ ?_ ?_ ?_) ⟨ho,?_⟩⟩)
 ·simp only [Bool.or_eq_false_iff,decide_eq_false_iff_not]; omega
 ·rw [e0]; simp only [Bool.false_or,beq_eq_false_iff_ne]; omega
 ·rw [e0]; simp only [Bool.or_false,decide_eq_false_iff_not]; omega
 ·rw [hprod,decide_eq_false_iff_not]
  have:((its.length * k.toNat:Nat):Int) <= 16777216:=by omega
  omega
 ·simp only [Builtin.Tuple.tupleTooMany,decide_eq_false_iff_not,hprod]; omega
 ·rw [hnew,List.size_toArray,JbB,Nat.mul_comm]; exact hz
 ·rw [hnew]; exact h
theorem JdT:OpR X (binaryOp .Mult) (rD2 X .repT):=by
 intro pins s σ H x y v u Q I rx ry ⟨dx,dy,r1,r2,h⟩
 cases dx <;> cases dy <;> first
  | exact (show False from h).elim
  | skip
 rename_i ds k
 simp only [op2] at h
 split at h
 ·rename_i hz
  simp only [Bool.and_eq_true,decide_eq_true_eq] at hz
  obtain ⟨a,xs,rfl,h1,h2⟩:=r1
  have e2:y = V.int k:=r2
  subst e2
  have l1:=h2.length
  cases rx
  obtain ⟨t,rfl⟩:=ry
  obtain ⟨its,q1,p1,_⟩:=I.tuple h1
  have l2:=q1.length
  have hne:its ≠ []:=fun z=>hz.1.2 (h2.nil_iff.mp (q1.nil_iff.mp z))
  have hlen:(List.replicate k.toNat xs).flatten.length <= sizeLine:=by rw [JbB,l1,Nat.mul_comm]; exact JD hz.2
  refine Jfl p1 hz.1.1 hne (by rw [<- l2,l1]; exact JD hz.2) ?_
  obtain ⟨s1,w1⟩:=JbD (K:=X.K) I.fresh (JaZ h2 k.toNat)
  refine ⟨.ref s.heap.objs.size,_,I.laid (t':=s.toks) (o:=.tup (List.replicate k.toNat xs).flatten) (fun b ob q=>Heap.get?_push_of_some _ q) (Nat.le_refl _) ?_,rfl,h _ _ s1 w1⟩
  exact ⟨⟨hlen,JaF⟩,_,q1.rep k.toNat,IsTup.new _ _⟩
 ·exact h.elim
theorem globT {K:PySem.W.Frag} {a:Addr} {y:Str} (hy:ModT K y a) {its:List Value} {n:Nat} {sl:Array (Option Value)} {ds:List D} {xs:List V} (v:K.lookup a = some ⟨.type "tuple",none,.seq its.toArray n,sl⟩) (hz:its.length <= 1000) (r:Vals xs its) (rs:∀ H,Reps K H ds xs) (H:Hp):Rep K H (.tup ds) (.ref a):=
 ⟨a,xs,rfl,.inr ⟨y,_,its.toArray,n,hy,v,rfl,rfl,rfl,JD (Nat.le_trans (by simpa using hz) (by decide)),by simpa using r⟩,rs H⟩
variable {M:List Nat} {H0:Hp}
end
end Rd
namespace Rd
open PySem PySem.Spec PyProof.Rows L2 Pu
section
variable {prog:Program} {w:World}
def keysAre (es:List (Int × Value)):List Str:=es.map fun e=>strOf e.2
def TS (prog:Program) (w:World) (lb:Bool) (h:Heap) (a:Addr) (ks:List Str):Prop:=
 ∃ o es ep t,(h.get? a = some o /\ o.ExactSet /\ o.data = .set es ep t) /\ ElemsOf (PySem.strKind prog w) es.toList /\ (t.fits es.size = true /\ es.size < scanBound) /\ t.led = lb /\ (es.size ≠ 0 -> t.plain = false) /\ (keysAre es.toList).Perm ks /\ ks.Nodup
theorem TS.there {lb:Bool} {h:Heap} {a:Addr} {ks:List Str} (x:TS prog w lb h a ks):∃ o,h.get? a = some o:=let ⟨o,_,_,_,⟨e,_⟩,_⟩:=x; ⟨o,e⟩
end
section
variable {prog:Program} {w:World} {A:Around} {E:Value -> Shared -> Prop} {s:Shared}
end
end Rd
namespace Rd
open PySem PySem.Spec PyProof.Rows L2 Pu
section
variable {prog:Program} {w:World} {A:Around} {R:Result -> Shared -> Prop} {I:Addr} {fp wr:List Addr} {G:Array GenState -> Array GenState -> Prop} {n:Nat} {P:Nat -> Value -> Prop} {St:Nat -> Shared -> Prop} {lb:Bool}
end
section
variable {prog:Program} {w:World} {A:Around} {E:Value -> Shared -> Prop} {s:Shared}
abbrev byT (w:World):Bool:=w.params.followText "set-order"
end
end Rd
namespace Rd
open PySem PySem.Spec PyProof.Rows L2 Pu
section
variable {prog:Program} {w:World} {A:Around} {E:Value -> Shared -> Prop} {s:Shared}
end
end Rd
namespace Rd
open PySem PySem.Spec PyProof.Rows L2 Pu
section
variable {prog:Program} {w:World} {A:Around} {E:Value -> Shared -> Prop} {s:Shared} {a it:Addr} {o:Obj} {es:Array (Int × Value)} {ep:Nat} {t:SetTable}
end
end Rd
namespace Rd
open PySem PySem.Spec PyProof.Rows L2 Pu
section
variable {prog:Program} {w:World} {A:Around} {E:Value -> Shared -> Prop} {s:Shared} {a it:Addr} {o:Obj} {es:Array (Int × Value)} {ep:Nat} {t:SetTable}
end
end Rd
namespace Rd
open PySem PySem.Spec PyProof.Rows L2 Pu
section
variable {prog:Program} {w:World} {A:Around} {E:Value -> Shared -> Prop} {s:Shared} {a:Addr}
end
end Rd
namespace Rd
open PySem PySem.Spec PyProof.Rows L2 Pu
section
variable {prog:Program} {w:World} {A:Around} {E:Value -> Shared -> Prop} {s:Shared} {a:Addr}
end
def SetO (X:Cx) (a:Addr) (ks:List Str):HO:=.ext fun h=>TS X.prog X.w (!byT X.w) h a ks
section
variable {X:Cx}
variable {call:CallD} {a:Expr} {pa:Px} {pos p1 p2 p3:Pos} {G:Gw} {N:List Str} {nm:List (Str × NameKind)}
end
end Rd
namespace Rd
open PySem PySem.Spec PyProof.Rows L2 Pu
def plainN (x:Str):Bool:=!(x == ("__debug__" : Str)) && !(x == ("__classdict__" : Str))
def chkV (N:List Str) (nm:List (Str × NameKind)) (i:Nat) (x:Str):Bool:=(N[i]? == some x) && visB nm x && plainN x
def chkS (N:List Str) (nm:List (Str × NameKind)) (i:Nat) (x:Str):Bool:=(N[i]? == some x) && locB nm x && plainN x
def chkG (nm:List (Str × NameKind)) (x:Str):Bool:=gloB nm x && plainN x
section
variable {X:Cx} {call:CallD} {G:Gw} {N:List Str} {nm:List (Str × NameKind)} {e a b c:Expr} {es:List Expr} {p pa pb pc pl ph:Px} {pos p1 p2 p3:Pos} {x y:Str}
theorem plainN.d (h:plainN x = true):(x == ("__debug__" : Str)) = false /\ (x == ("__classdict__" : Str)) = false:=by
 simpa [plainN] using h
theorem vV (C:Ctx X G N nm) {i:Nat} (h:chkV N nm i x = true):PE X (.Name x pos) (tI X call (.var i)):=by
 simp only [chkV,Bool.and_eq_true,beq_iff_eq] at h
 obtain ⟨d1,d2⟩:=plainN.d h.2
 exact JeO (by rw [C.hN]; exact h.1.1) (C.vis x h.1.2) d1 d2
def GlobC (G:Gw) (x:Str) (d:D):Prop:=∃ v u,G.mg x = some u /\ RelV v u /\ ∀ H,Rep G.K H d v
theorem vG (C:Ctx X G N nm) {d:D} (hk:GlobC G x d) (h:chkG nm x = true):PE X (.Name x pos) (tI X call (.con d)):=by
 simp only [chkG,Bool.and_eq_true] at h
 obtain ⟨d1,d2⟩:=plainN.d h.2
 obtain ⟨v,u,h1,h2,h3⟩:=hk
 exact Jfj (C.glo x h.1) ⟨v,u,by rw [C.mg]; exact h1,h2,fun H=>by rw [C.K]; exact h3 H⟩ d1
theorem cF (C:Ctx X G N nm) {fi:Nat} (hc:Callee G call fi x) (h:chkG nm x = true) (ha:PA X (e :: es) (tA X call p)) (he:starEach (e :: es) X.env = (false,eval e X.env) :: starEach es X.env:=by rfl) (hpl:(backTo pos (starEach es X.env)).any (·.1) = false:=by rfl) :
  PE X (.Call (.Name x p1) (e :: es) [] pos) (tI X call (.call fi p)):=by
 simp only [chkG,Bool.and_eq_true] at h
 exact JfR C hc h.1 (plainN.d h.2).1 ha he hpl
theorem cLen (C:Ctx X G N nm) (hm:G.mg "len" = none) (ha:PE X a (tI X call pa)) (hg:gloB nm "len" = true) (hs:starEach [a] X.env = (false,eval a X.env) :: starEach [] X.env:=by rfl):PE X (.Call (.Name "len" p1) [a] [] pos) (tI X call (.un .len pa)):=Jfe C Jhy ha hg hm PySem.boot_len (by decide +kernel) (by decide +kernel) hs
theorem cAll (C:Ctx X G N nm) (hm:G.mg "all" = none) (ha:PE X a (tI X call pa)) (hg:gloB nm "all" = true) (hs:starEach [a] X.env = (false,eval a X.env) :: starEach [] X.env:=by rfl):PE X (.Call (.Name "all" p1) [a] [] pos) (tI X call (.un .all pa)):=Jfe C (Jhx C.calm) ha hg hm boot_all (by decide +kernel) (by decide +kernel) hs
theorem Jhe (C:Ctx X G N nm) (hm:G.mg "tuple" = none) (ha:PE X a (tI X call pa)) (hg:gloB nm "tuple" = true) (hs:starEach [a] X.env = (false,eval a X.env) :: starEach [] X.env:=by rfl):PE X (.Call (.Name "tuple" p1) [a] [] pos) (tI X call (.un .tuple pa)):=pI_ty C Jee ha hg hm PyProof.Rows.boot_tuple (by decide +kernel) (by decide +kernel) hs
theorem eEq (C:Ctx X G N nm) (ha:PE X a (tI X call pa)) (hb:PE X b (tI X call pb)):PE X (.Compare a [.Eq] [b] pos) (tI X call (.bi .eq pa pb)):=JcL (JeT C.un) ha hb (Jan _)
theorem eNe (C:Ctx X G N nm) (ha:PE X a (tI X call pa)) (hb:PE X b (tI X call pb)):PE X (.Compare a [.NotEq] [b] pos) (tI X call (.bi .ne pa pb)):=JcL (Jdq C.un) ha hb (Jan _)
theorem eIn (C:Ctx X G N nm) (ha:PE X a (tI X call pa)) (hb:PE X b (tI X call pb)) (hm:behindInMarks .In b = false:=by rfl):PE X (.Compare a [.In] [b] pos) (tI X call (.bi .isin pa pb)):=JcL (JeZ C.un) ha hb hm
theorem tEq (C:Ctx X G N nm) (ha:PE X a (tI X call pa)) (hb:PE X b (tI X call pb)):PT X (.Compare a [.Eq] [b] pos) (tT X call (.bi .eq pa pb)):=Jar (JeT C.un) ha hb (Jan _)
theorem tNe (C:Ctx X G N nm) (ha:PE X a (tI X call pa)) (hb:PE X b (tI X call pb)):PT X (.Compare a [.NotEq] [b] pos) (tT X call (.bi .ne pa pb)):=Jar (Jdq C.un) ha hb (Jan _)
theorem tLt (ha:PE X a (tI X call pa)) (hb:PE X b (tI X call pb)):PT X (.Compare a [.Lt] [b] pos) (tT X call (.bi .lt pa pb)):=Jar JeX ha hb (Jan _)
theorem tGt (ha:PE X a (tI X call pa)) (hb:PE X b (tI X call pb)):PT X (.Compare a [.Gt] [b] pos) (tT X call (.bi .gt pa pb)):=Jar Jgl ha hb (Jan _)
theorem tIn (C:Ctx X G N nm) (ha:PE X a (tI X call pa)) (hb:PE X b (tI X call pb)) (hm:behindInMarks .In b = false:=by rfl):PT X (.Compare a [.In] [b] pos) (tT X call (.bi .isin pa pb)):=Jar (JeZ C.un) ha hb hm
theorem tNi (C:Ctx X G N nm) (ha:PE X a (tI X call pa)) (hb:PE X b (tI X call pb)) (hm:behindInMarks .NotIn b = false:=by rfl):PT X (.Compare a [.NotIn] [b] pos) (tT X call (.bi .notin pa pb)):=Jar (Jdd C.un) ha hb hm
theorem eIx (ha:PE X a (tI X call pa)) (hb:PE X b (tI X call pb)) (hs:PlainIx b:=by intro _ _; rfl):PE X (.Subscript a b pos) (tI X call (.bi .idx pa pb)):=pI_ix Jhl ha hb hs
theorem eAdd (ha:PE X a (tI X call pa)) (hb:PE X b (tI X call pb)):PE X (.BinOp a .Add b pos) (tI X call (.bi .add pa pb)):=Jbt JfH ha hb
theorem eMul (ha:PE X a (tI X call pa)) (hb:PE X b (tI X call pb)):PE X (.BinOp a .Mult b pos) (tI X call (.bi .mul pa pb)):=Jbt Jgd ha hb
theorem eMod (ha:PE X a (tI X call pa)) (hb:PE X b (tI X call pb)):PE X (.BinOp a .Mod b pos) (tI X call (.bi .mod pa pb)):=Jbt JfA ha hb
theorem eDiv (ha:PE X a (tI X call pa)) (hb:PE X b (tI X call pb)):PE X (.BinOp a .FloorDiv b pos) (tI X call (.bi .fdiv pa pb)):=Jbt JdY ha hb
theorem gOne (C:Ctx X G N nm) (h:chkS N nm 0 x = true):TgOk X (.Name x pos) 0 1:=by
 simp only [chkS,Bool.and_eq_true,beq_iff_eq] at h
 obtain ⟨h1,h2⟩:=C.sto x h.1.2
 exact Jgr (by rw [C.hN]; exact h.1.1) (by rw [C.hN]; exact C.nd) h1 h2
def scB (N:List Str) (nm:List (Str × NameKind)) (ls:List Str) (sc:Scope):Bool:=(sc.kind == .function) && decide (ls ++ hidN ls N).Nodup && scOkB N nm ls sc.names && N.all (fun n=>!ls.contains n || (sc.names.lookup (dum n)).isNone)
theorem scO {ls:List Str} {sc:Scope} (h:scB N nm ls sc = true):ScOk N nm ls sc:=by
 simp only [scB,Bool.and_eq_true,beq_iff_eq,decide_eq_true_eq] at h
 refine ⟨h.1.1.1,h.1.1.2,h.1.2,fun n hn hc=>?_⟩
 have:=List.all_eq_true.mp h.2 n hn
 simp only [hc,Bool.not_true,Bool.false_or,Option.isNone_iff_eq_none] at this
 exact this
variable {M:List Nat} {H0:Hp} {i j l:Nat} {px:Pos}
def chkA (N:List Str) (nm:List (Str × NameKind)) (M:List Nat) (i:Nat) (x:Str):Bool:=chkS N nm i x && !M.contains i
theorem chkA.at (h:chkA N nm M i x = true):N[i]? = some x /\ locB nm x = true /\ i ∉ M:=by
 simp only [chkA,chkS,Bool.and_eq_true,beq_iff_eq,Bool.not_eq_true',List.contains_eq_mem,decide_eq_false_iff_not] at h
 exact ⟨h.1.1.1,h.1.1.2,h.2⟩
def chkO (N:List Str) (nm:List (Str × NameKind)) (M:List Nat) (i:Nat) (x:Str):Bool:=chkS N nm i x && M.contains i && visB nm x
theorem chkO.at (h:chkO N nm M i x = true):N[i]? = some x /\ locB nm x = true /\ plainN x = true /\ i ∈ M /\ visB nm x = true:=by
 simp only [chkO,chkS,Bool.and_eq_true,beq_iff_eq,List.contains_eq_mem,decide_eq_true_eq] at h
 exact ⟨h.1.1.1.1,h.1.1.1.2,h.1.1.2,h.1.2,h.2⟩
theorem aSet (C:Ctx X G N nm) (h:chkA N nm M i x = true) (he:PE X e (tI X call p)) (hsp:sepP M p = true:=by rfl) (hs:swapsWith e (some (.Name x px)) pos.line X.env = pure false:=by rfl):PS X (.Assign [.Name x px] e pos) (tS X call M H0 (.set false i p)):=by
 obtain ⟨h1,h2,h3⟩:=chkA.at h
 exact Jhr C h1 h2 h3 hsp he hs
theorem aOwn (C:Ctx X G N nm) (h:chkO N nm M i x = true) (he:PE X e (tF X call p)) (hs:swapsWith e (some (.Name x px)) pos.line X.env = pure false:=by rfl):PS X (.Assign [.Name x px] e pos) (tS X call M H0 (.own i p)):=by
 obtain ⟨h1,h2,h3,h4,h5⟩:=chkO.at h
 exact JgI C h1 h2 he hs
section
variable {elt tg iter:Expr} {ifs:List Expr} {ps pe:Px} {nt:Nat} {ls:List Str} {sc:Scope}
def tgN:Expr -> List Str
 | .Name x _=>[x]
 | .Tuple es _ _=>es.filterMap fun e=>match e with
  | .Name x _=>some x
  | _=>none
 | _=>[]
abbrev cN (tg:Expr) (N:List Str):List Str:=tgN tg ++ hidN (tgN tg) N
theorem Jco (C:Ctx X G N nm) (hsc:scB N nm (tgN tg) sc = true) (hsrc:PI X tg iter (tW X call ps)) (htg:∀ X',Ctx X' G (cN tg N) sc.names -> TgOk X' tg nt (tgN tg).length) (hif:∀ X',Ctx X' G (cN tg N) sc.names -> PIf X' ifs (tT X' call pc))
  (helt:∀ X',Ctx X' G (cN tg N) sc.names -> PE X' elt (tI X' call pe)) (hs:∀ x,foldedSetIterable iter X.env x = pure x:=by intro _; rfl):PE X (.ListComp elt [⟨tg,iter,ifs,0⟩] sc pos) (tF X call (.comp nt ps pc pe)):=JfM C (scO hsc) hsrc htg hif helt hs
end
theorem aApp {apos pos':Pos} (C:Ctx X G N nm) (h:chkO N nm M i x = true) (he:PE X e (tI X call p)) (hl:(apos.endLine == pos.line) = true) (hsp:sepP M p = true:=by rfl) (hs:starEach [e] X.env = (false,eval e X.env) :: starEach [] X.env:=by rfl) :
  PS X (.Expr (.Call (.Attribute (.Name x px) "append" apos) [e] [] pos) pos') (tS X call M H0 (.app false i p)):=by
 obtain ⟨h1,h2,h3,h4,h5⟩:=chkO.at h
 obtain ⟨d1,d2⟩:=plainN.d h3
 exact JhH C h1 h5 d1 d2 h4 hsp he hl hs
theorem lOne (C:Ctx X G N nm) (h:chkA N nm M i x = true):PG X (.Name x pos) (gS X M H0 [i] 0):=by
 obtain ⟨h1,h2,h3⟩:=chkA.at h
 exact JgD C h1 h2 h3
theorem eRep (hl:isL pa = true) (ha:PE X a (tF X call pa)) (hb:PE X b (tI X call pb)):PE X (.BinOp a .Mult b pos) (tI X call (.bi .rep pa pb)):=by
 refine PE.weak (JhE Jgo ha hb) fun σ H Q ⟨env,r,h⟩=>⟨env,r,?_⟩
 simp only [evD] at h
 cases q:evD call pa env with
 | ok dx=>
  obtain ⟨ds,rfl⟩:=Jdh hl q
  rw [q,Rs.bind_ok] at h
  refine ⟨ds,rfl,fun l xs H1 s1 k0 k1 k2=>⟨env,r.mono s1,(Rs.good_bind.mp h).mono (fun dy hy y H2 s2 r2=>?_) fun c z=>z.mono s1⟩⟩
  cases dy with
  | int k=>
   simp only [op2] at hy
   split at hy
   ·rename_i hz
    simp only [midI,Bool.and_eq_true,decide_eq_true_eq] at hz
    refine ⟨l,k,xs,rfl,r2,s2 _ _ k1,by omega,by omega,by rw [k2.length,sizeLine_eq]; exact hz.2,fun q hq=>?_⟩
    obtain ⟨s3,r3⟩:=Jea (K:=X.K) hq (JaZ (k2.mono s2) k.toNat)
    exact hy _ _ ((s1.trans s2).trans s3) r3
   ·exact hy.elim
  | _=>exact (show False from hy).elim
 | ex c=>rw [q] at h; exact h
 | stuck=>rw [q] at h; exact h.elim
end
end Rd
namespace Rd
open PySem PySem.Spec PyProof.Rows L2 Pu
structure Landed (X:Cx) (H:Hp) (B h:Heap):Prop where
 tr:∀ b u,H b = some u -> ∃ o,B.get? b = some o
 kp:∀ b o,X.s₀.heap.get? b = some o -> b ∉ frs X.stack -> (X.H₀ b = none -> B.get? b = some o) /\ ∃ o',B.get? b = some o'
 pn:∀ p ∈ X.pn,B.get? p.1 = some p.2
section
variable {X:Cx} {ps:List (Addr × Obj)} {σ:L2.St} {H:Hp} {s:Shared} {B h1 h2:Heap}
theorem Inv.land (hst:X.stack = X.env :: X.outer) (hfm:X.env.frame = some X.env.locals) (hex:X.ex = []) (I:L2.Inv X ps σ H { s with heap:=h1 }) (L:Landed X H B h1) (k1:B.StaysIn h1) (k2:B.StaysIn h2) (up:h1.UpToSlots h2) (t:Nat) :
  L2.Inv X [] (List.replicate X.N.length none) H { s with heap:=h2,toks:=t }:=by
 have hnx:∀ b,b ∉ X.ex:=fun b=>by rw [hex]; simp
 have nst:∀ b o,X.s₀.heap.get? b = some o -> b ∉ X.fs -> b ∉ frs X.stack:=fun b o hb hn hm=>by
  rw [hst] at hm
  unfold frs at hm
  rw [List.filterMap_cons,hfm] at hm
  rcases List.mem_cons.mp hm with e | hm
  ·have:=Heap.lt_size hb
   rw [e] at this
   exact absurd (Nat.lt_of_lt_of_le this I.ok.above) (Nat.lt_irrefl _)
  ·exact hn hm
 have u:=I.base
 exact {
  ok:=I.ok,os:=I.os,bare:=I.bare
  base:=⟨fun b o hb hn hf _=>k2 b o ((L.kp b o hb (nst b o hb hf)).1 hn),fun b o hb hn hf _=>by
    obtain ⟨sl,e1⟩:=u.slot b o hb hn hf (hnx b)
    obtain ⟨_,o1,ho1,hd⟩:=(I.ok.funs).mem hf
    rw [hb] at ho1
    cases ho1
    obtain ⟨sl2,e2⟩:=up b _ e1 hd
    exact ⟨sl2,e2⟩,
   u.free,fun b o hb _=>by
    by_cases hf:b ∈ X.fs
    ·obtain ⟨_,o1,ho1,hd⟩:=(I.ok.funs).mem hf
     rw [hb] at ho1
     cases ho1
     obtain ⟨sl,e1⟩:=u.slot b o hb (I.ok.frf b hf) hf (hnx b)
     obtain ⟨sl2,e2⟩:=up b _ e1 hd
     exact ⟨_,e2⟩
    ·obtain ⟨o',e⟩:=(L.kp b o hb (nst b o hb hf)).2
     exact ⟨o',k2 b o' e⟩,u.tups,u.frzs,u.tbls⟩
  loc:=by
   obtain ⟨m,hn,_⟩:=I.loc
   exact ⟨m,up.ns hn,fun i x v _ q _=>by
    rw [List.getElem?_replicate] at q
    split at q <;> cases q⟩
  cell:=fun x c e=>by
   obtain ⟨v,o,ho,hd⟩:=I.cell x c e
   obtain ⟨sl,e2⟩:=up c o ho fun vs z=>by rw [hd] at z; cases z
   exact ⟨v,_,e2,hd⟩
  free:=I.free,freeC:=I.freeC
  pin:=fun p hp=>by
   have hp':p ∈ X.pn:=by simpa using hp
   obtain ⟨_,q2,q3⟩:=I.pin p (List.mem_append_left _ hp')
   exact ⟨k2 _ _ (L.pn p hp'),q2,q3⟩
  hok:=HOk.onB I.hok L.tr k1 k2
  len:=by simp }
theorem Inv.know (I:L2.Inv X ps σ H s) {a:Addr} {o:Obj} (h0:H a = none) (ho:s.heap.get? a = some o) (hb:B.get? a = none) (L:Landed X H B s.heap) (hst:X.stack = X.env :: X.outer) (hfm:X.env.frame = some X.env.locals) (hex:X.ex = []) (hps:ps = [])
  {vs:Array Value} (hd:o.data = .fields vs):L2.Inv X ps σ (upd H a (.frz o (.ext fun _=>True))) s:=by
 have nfr:a ∉ frs X.stack:=fun hm=>by
  obtain ⟨_,o1,ho1,hn⟩:=I.stack.mem hm
  rw [ho] at ho1; cases ho1
  exact hn vs hd
 have hL:a ≠ X.env.locals:=fun z=>nfr (by
  rw [hst]
  unfold frs
  rw [List.filterMap_cons,hfm,z]
  exact .head _)
 have ne:∀ b,b ≠ a -> upd H a (.frz o (.ext fun _=>True)) b = H b:=fun b h=>Jh h
 exact {
  ok:=I.ok,os:=I.os,bare:=I.bare
  base:=⟨I.base.keep,I.base.slot,fun b o' hb' hn hx=>by
    by_cases q:b = a
    ·subst q
     obtain ⟨o2,e⟩:=(L.kp b o' hb' nfr).2
     rw [hb] at e; cases e
    ·rw [ne b q]; exact I.base.free b o' hb' hn hx,I.base.there,
   fun b xs q=>by rw [ne b (Je (I.base.tups b xs q) h0)]; exact I.base.tups b xs q,fun b o' u q=>by rw [ne b (Je (I.base.frzs b o' u q) h0)]; exact I.base.frzs b o' u q,fun b qs q=>by
    obtain ⟨m,e⟩:=I.base.tbls b qs q
    exact ⟨m,by rw [ne b (Je e h0)]; exact e⟩⟩
  loc:=I.loc,cell:=I.cell
  free:=by rw [ne _ (Ne.symm hL)]; exact I.free
  freeC:=fun x c e=>by
   have:c ≠ a:=fun z=>by
    obtain ⟨v,o2,ho2,hd2⟩:=I.cell x c e
    rw [z,ho] at ho2; cases ho2
    rw [hd] at hd2; cases hd2
   rw [ne c this]; exact I.freeC x c e
  pin:=fun p hp=>by
   obtain ⟨q1,q2,q3⟩:=I.pin p hp
   have:p.1 ≠ a:=fun z=>by
    have hp':p ∈ X.pn:=by rw [hps] at hp; simpa using hp
    have:=L.pn p hp'
    rw [z,hb] at this; cases this
   exact ⟨q1,by rw [ne _ this]; exact q2,q3⟩
  hok:=fun b u e=>by
   by_cases q:b = a
   ·subst q
    rw [Jm] at e; cases e
    exact ⟨ho,trivial,⟨o,ho⟩,fun _ _ _ _=>trivial⟩
   ·rw [ne b q] at e
    exact (I.hok b u e).stay (fun _ _ _ z=>z) (fun c z=>by rw [ne c (Je z h0)]; exact z) (fun c xs z=>by rw [ne c (Je z h0)]; exact z) fun c o' u' z=>by rw [ne c (Je z h0)]; exact z
  len:=I.len }
end
section
variable {X:Cx} {pins:List (Addr × Obj)} {σ σ':L2.St} {H:Hp} {s:Shared} {h':Heap}
theorem Inv.locals (I:L2.Inv X pins σ H s) {m':Str -> Option Value} {t:Nat} (hs:Heap.SameBut X.env.locals s.heap h') (hn:h'.Ns X.env.locals m') (hl:σ'.length = X.N.length)
  (hm:∀ (i:Nat) (x:Str) (v:V),X.N[i]? = some x -> σ'[i]? = some (some v) -> Vis X.env.scope x -> ∃ u,RelV v u /\ Look X.env h' m' x u):L2.Inv X pins σ' H { s with heap:=h',toks:=t }:=by
 have low:∀ b o,X.s₀.heap.get? b = some o -> b ≠ X.env.locals:=fun b o e=>Nat.ne_of_lt (Nat.lt_of_lt_of_le (Heap.lt_size e) I.ok.above)
 exact {
  ok:=I.ok,os:=I.os,bare:=I.bare
  base:=⟨fun b o e n hb hx=>(hs.2 b (low b o e)).trans (I.base.keep b o e n hb hx),fun b o e n hb hx=>let ⟨sl,e1⟩:=I.base.slot b o e n hb hx; ⟨sl,(hs.2 b (low b o e)).trans e1⟩,I.base.free,
   fun b o e hx=>let ⟨o',e1⟩:=I.base.there b o e hx; ⟨o',(hs.2 b (low b o e)).trans e1⟩,I.base.tups,I.base.frzs,I.base.tbls⟩
  loc:=⟨m',hn,hm⟩
  cell:=fun y c e=>let ⟨w',z⟩:=I.cell y c e; ⟨w',z.sameBut hs (I.cne y c e)⟩
  free:=I.free,freeC:=I.freeC
  pin:=fun p hp=>let ⟨e,n,ne,nf,d⟩:=I.pin p hp; ⟨(hs.2 p.1 ne).trans e,n,ne,nf,d⟩
  hok:=fun b ob e=>(I.hok b ob e).stay (fun c w' hc q=>(hs.2 c (by
   rintro rfl
   rcases hc with rfl | hc
   ·rw [I.free] at e; cases e
   ·rw [I.free] at hc; cases hc)).trans q) (fun _ q=>q) fun _ _ q=>q
  len:=hl }
end
structure ExcC (G:Gw) (x:Str):Prop where
 ex:∃ C,PySem.W.nsIn G.K mainGlobals x = some (some (.ref C)) /\ G.mg x = some (.ref C) /\ ∃ bs nid iid Bn,PySem.W.excIn G.K C bs nid = true /\ ExcBaseFacts Bn nid iid bs
abbrev Cx.mk1 (X:Cx) (E:Value -> Shared -> Prop) (pins:List (Addr × Obj)):Cx:={ X with xe:=E,pn:=X.pn ++ pins }
abbrev Cx.mk2 (X:Cx) (A:Around) (E:Value -> Shared -> Prop) (pins:List (Addr × Obj)):Cx:={ X with xe:=E,pn:=X.pn ++ pins,A:=A,calm:=false }
section
variable {X:Cx} {pins:List (Addr × Obj)} {σ:L2.St} {H:Hp} {s:Shared} {E:Value -> Shared -> Prop} {A:Around}
theorem Cx.Ok.to1 (ok:X.Ok):(Cx.mk1 X E pins).Ok:=⟨ok.mod,ok.kind,ok.glob,ok.blt,ok.above,ok.inj,ok.has,ok.cab,ok.hd,ok.frames,ok.stk,ok.exf,ok.bs,ok.bsz,ok.noex,ok.exfs,ok.funs,ok.frf⟩
theorem Cx.Ok.of1 (ok:(Cx.mk1 X E pins).Ok):X.Ok:=⟨ok.mod,ok.kind,ok.glob,ok.blt,ok.above,ok.inj,ok.has,ok.cab,ok.hd,ok.frames,ok.stk,ok.exf,ok.bs,ok.bsz,ok.noex,ok.exfs,ok.funs,ok.frf⟩
theorem Cx.Ok.to2 (ok:X.Ok) (hA:A.frames = X.A.frames):(Cx.mk2 X A E pins).Ok:=⟨ok.mod,ok.kind,ok.glob,ok.blt,ok.above,ok.inj,ok.has,ok.cab,fun h=>(by cases h),hA.trans ok.frames,ok.stk,ok.exf,ok.bs,ok.bsz,ok.noex,ok.exfs,ok.funs,ok.frf⟩
theorem Inv.to1 (I:L2.Inv X pins σ H s):L2.Inv (Cx.mk1 X E pins) [] σ H s:=⟨Cx.Ok.to1 I.ok,I.os,I.bare,I.base,I.loc,I.cell,I.free,I.freeC,fun p hp=>I.pin p (by simpa using hp),I.hok,I.len⟩
theorem Inv.of1 (I:L2.Inv (Cx.mk1 X E pins) [] σ H s):L2.Inv X pins σ H s:=⟨Cx.Ok.of1 I.ok,I.os,I.bare,I.base,I.loc,I.cell,I.free,I.freeC,fun p hp=>I.pin p (by simpa using hp),I.hok,I.len⟩
theorem Inv.to2 {E':Value -> Shared -> Prop} (I:L2.Inv (Cx.mk1 X E pins) [] σ H s) (hA:A.frames = X.A.frames):L2.Inv (Cx.mk2 X A E' pins) [] σ H s:=⟨Cx.Ok.to2 (Cx.Ok.of1 I.ok) hA,I.os,I.bare,I.base,I.loc,I.cell,I.free,I.freeC,fun p hp=>I.pin p hp,I.hok,I.len⟩
theorem Inv.of2 {E':Value -> Shared -> Prop} (I:L2.Inv (Cx.mk2 X A E' pins) [] σ H s) (ok:X.Ok):L2.Inv X pins σ H s:=⟨ok,I.os,I.bare,I.base,I.loc,I.cell,I.free,I.freeC,fun p hp=>I.pin p (by simpa using hp),I.hok,I.len⟩
end
section
variable {X:Cx} {pins:List (Addr × Obj)} {H:Hp} {s:Shared} {E:Value -> Shared -> Prop} {C CR a:Addr} {rn en y:Str} {np hp py pe p2:Pos} {je j:Nat} {D:Ends}
end
end Rd
namespace Rd
open PySem PySem.Spec PyProof.Rows L2 Pu
structure Takes (G:Gw) (rn:Str) (cs:List Str):Prop where
 ex:∃ CR,G.mg rn = some (.ref CR) /\ ∀ c ∈ cs,∃ C,PySem.W.nsIn G.K mainGlobals c = some (some (.ref C)) /\ G.mg c = some (.ref C) /\ PySem.W.exmOne G.K (.ref C) (.ref CR) = some true
section
variable {X:Cx} {call:CallD} {G:Gw} {N:List Str} {nm:List (Str × NameKind)} {e:Expr} {p:Px} {x y en rn:Str} {i j je:Nat} {H0:Hp} {cs:List Str} {px p1 np hp py pe p2 pos:Pos}
end
end Rd
namespace Rd
open PySem PySem.Spec PyProof.Rows L2 Pu
def tM (X:Cx) (call:CallD) (p:Px):TE:=fun σ H Q=>∃ env,ReadOk X.K H σ env /\ ((evD call p env).bind fun d=>if msgOk d then .ok d else .stuck).Good (fun d=>∀ v H',Same H H' -> Q v H') (XW X H)
section
variable {X:Cx} {call:CallD} {G:Gw} {N:List Str} {nm:List (Str × NameKind)} {e:Expr} {p:Px} {x:Str} {i j:Nat} {M:List Nat} {H0:Hp} {np cpos pos:Pos}
theorem JP (C:Ctx X G N nm) (hc:ExcC G x) (hg:chkG nm x = true) (he:PE X e (tM X call p)) (hs:starEach [e] X.env = (false,eval e X.env) :: starEach [] X.env:=by rfl) :
  PS X (.Raise (some (.Call (.Name x np) [e] [] cpos)) none pos) (tS X call M H0 (.raise x p)):=by
 obtain ⟨Cc,g1,g2,bs,nid,iid,Bn,hq,FB⟩:=hc.ex
 simp only [chkG,Bool.and_eq_true] at hg
 have hmg:X.mg x = some (.ref Cc):=by rw [C.mg]; exact g2
 refine PS.weak (JdP C.calm (C.glo x hg.1) hmg (by rw [C.K]; exact hq) FB he (plainN.d hg.2).1 hs) fun D σ H ⟨env,e0,h⟩=>⟨env,e0.readOk,?_⟩
 simp only [exD] at h
 cases q:evD call p env with
 | ok d=>
  rw [q] at h
  simp only [Rs.bind_ok] at h ⊢
  by_cases hm:msgOk d = true
  ·rw [if_pos hm] at h ⊢
   exact fun v H' s=>⟨rfl,fun a s' F=>h Cc H' hmg (e0.same.trans s) a s' F⟩
  ·rw [if_neg hm] at h
   exact h.elim
 | ex c=>rw [q] at h; exact (show XW X H0 c from h).mono e0.same
 | stuck=>rw [q] at h; exact h.elim
theorem Jfw {z:Str} {k}:PE X (.Constant (.str z) k pos) (tM X call .nil):=PE.weak Jff fun σ H Q ⟨env,r,h⟩=>h _ H (Same.refl H)
def PJ (X:Cx) (call:CallD) (vs:List Expr) (p:Px):Prop:=∀ (pins:List (Addr × Obj)) (s:Shared) (σ:L2.St) (H:Hp) (env:Fm) (acc:Str) (Q:Str -> Shared -> Prop) (ds:List D),L2.Inv X pins σ H s -> ReadOk X.K H σ env -> evD call p env = .ok (.lst ds) -> ds.all txtOk = true ->
 acc.length + 20000 * vs.length <= 16000000 -> (∀ out s1 H1,L2.Inv X pins σ H1 s1 -> Same H H1 -> out.length <= acc.length + 20000 * vs.length -> Q out s1) -> Joins (model X.prog X.w) X.A X.xe (evalEach vs X.env) acc Q s
theorem Ju (x y:Str):(x ++ y).length = x.length + y.length:=PySem.strLen_append x y
theorem Jfi:∀ c < 256,(Nat.toDigits 16 c).length <= 2:=by decide +kernel
theorem Jbd (q c:Nat) (hc:c < 256):(Builtin.Str.reprChar q c).length <= 10:=by
 have:=Jfi c hc
 unfold Builtin.Str.reprChar
 repeat' split
 all_goals first | omega | (simp; done) | (simp; omega)
theorem Jez (x:Str) (hx:∀ c ∈ x.cps.toList,c < 256):(reprText x).length <= 10 * x.length + 2:=by
 have fold:∀ (l:List Nat) (acc:Array Nat),(∀ c ∈ l,c < 256) -> (l.foldl (fun out c=>out ++ (Builtin.Str.reprChar (reprQuote x) c).toArray) acc).size <= acc.size + 10 * l.length:=by
  intro l
  induction l with
  | nil=>intro acc _; simp
  | cons c l ih=>
   intro acc hl
   have h1:=ih (acc ++ (Builtin.Str.reprChar (reprQuote x) c).toArray) fun c hc=>hl c (List.mem_cons_of_mem _ hc)
   have h2:=Jbd (reprQuote x) c (hl c (List.mem_cons_self ..))
   simp only [List.foldl_cons,List.length_cons,Array.size_append,List.size_toArray] at h1 ⊢
   omega
 have h:=fold x.cps.toList #[reprQuote x] hx
 show ((x.cps.foldl _ #[reprQuote x]).push (reprQuote x)).size <= 10 * x.cps.size + 2
 rw [Array.size_push,<- Array.foldl_toList]
 simp only [Array.length_toList,List.size_toArray,List.length_singleton] at h ⊢
 omega
theorem Jfc:PJ X call [] .nil:=fun pins s σ H env acc Q ds I r he hd hl k=>k acc s H I (Same.refl H) (by simp)
theorem JeP {z:Str} {k:Nat} {vs:List Expr} (h:PJ X call vs p) (hz:z.length <= 20000):PJ X call (.Constant (.str z) k pos :: vs) p:=by
 intro pins s σ H env acc Q ds I r he hd hl kk
 refine Calls.Constant_str ⟨z,_,rfl,?_,?_⟩
 ·rw [Ju]
  simp only [List.length_cons] at hl
  show _ <= 16777216
  omega
 ·refine h pins _ σ H env (acc ++ z) Q ds (I.tok _) r he hd (by rw [Ju]; simp only [List.length_cons] at hl; omega) fun out s1 H1 I1 s1' ho=>kk out s1 H1 I1 s1' ?_
  rw [Ju] at ho
  simp only [List.length_cons]
  omega
theorem JeV {vs:List Expr} (he:PE X e (tI X call (.var i))) (h:PJ X call vs p):PJ X call (.FormattedValue e 114 none pos :: vs) (.cons (.var i) p):=by
 intro pins s σ H env acc Q ds I r hev hd hl kk
 simp only [evD] at hev
 cases q:evD call (.var i) env with
 | ok d=>
  have q':=q
  simp only [evD] at q'
  rw [q'] at hev
  simp only [Rs.bind_ok] at hev
  cases q2:evD call p env with
  | ok d2=>
   rw [q2] at hev
   cases d2 with
   | lst es=>
    simp only [Pu.D.asL,Rs.bind_ok] at hev
    cases hev
    simp only [List.all_cons,Bool.and_eq_true] at hd
    cases d with
    | str z=>
     have hz2:z.length <= 1000 /\ ∀ c ∈ z.cps.toList,c < 256:=by
      have h0:=hd.1
      simp only [txtOk,Bool.and_eq_true,decide_eq_true_eq,List.all_eq_true] at h0
      exact h0
     have hz:=hz2.1
     have hrl:=Jez z hz2.2
     refine wpAny_FormattedValue_repr (wpAny_mono (he pins s σ H (fun v H'=>v = .str z /\ Same H H') I ⟨env,r,by rw [q]; exact fun v H' s1 rv=>⟨rv,s1⟩⟩) (fun u s1 ⟨v,H1,I1,rv,hv,sm⟩=>?_) fun _ _ z=>z)
     subst hv
     obtain ⟨t,rfl⟩:=rv
     refine wpAny_pyReprObj_gives (typeIs_str _ _ _) PySem.F.slot_str_repr PySem.F.entry_str_repr (PySem.F.args_str_repr_1 _) (gives_str_repr z t) ?_ rfl (by show _ <= 16777216; omega)
     have fin:∀ t' tk,∃ y t,(Value.str (reprText z) t':Value) = .str y t /\ (acc ++ y).length <= sizeLine /\ Joins (model X.prog X.w) X.A X.xe (evalEach vs X.env) (acc ++ y) Q { s1 with toks:=tk }:=fun t' tk=>by
      refine ⟨reprText z,t',rfl,?_,?_⟩
      ·rw [Ju]
       simp only [List.length_cons] at hl
       show _ <= 16777216
       omega
      ·refine h pins _ σ H1 env (acc ++ reprText z) Q es (I1.tok tk) (r.mono sm) q2 hd.2 (by rw [Ju]; simp only [List.length_cons] at hl; omega) fun out s2 H2 I2 s2' ho=>kk out s2 H2 I2 (sm.trans s2') ?_
       rw [Ju] at ho
       simp only [List.length_cons]
       omega
     exact formatField_str (s:={ s1 with toks:=s1.toks + 1 }) (fun t' tk=>fin t' tk) (by show _ <= 16777216; omega)
    | _=>simp [txtOk] at hd
   | _=>cases hev
  | ex c=>rw [q2] at hev; cases hev
  | stuck=>rw [q2] at hev; cases hev
 | ex c=>
  have q':=q
  simp only [evD] at q'
  rw [q'] at hev; cases hev
 | stuck=>
  have q':=q
  simp only [evD] at q'
  rw [q'] at hev; cases hev
def varsP:Px -> Bool
 | .nil=>true
 | .cons (.var _) p=>varsP p
 | _=>false
theorem JbP (call:CallD):∀ {p:Px} {env:Fm},varsP p = true -> evD call p env = .stuck \/ ∃ ds,evD call p env = .ok (.lst ds)
 | .nil,env,_=>.inr ⟨[],rfl⟩
 | .cons (.var i) p,env,h=>by
  have ih:=JbP call (p:=p) (env:=env) h
  simp only [evD]
  cases env[i]? with
  | none=>exact .inl rfl
  | some o=>
   cases o with
   | none=>exact .inl rfl
   | some d=>
    rcases ih with q | ⟨ds,q⟩
    ·rw [q]; exact .inl rfl
    ·rw [q]; exact .inr ⟨d :: ds,rfl⟩
theorem Jfg {v1 v2:Expr} {vs:List Expr} (h:PJ X call (v1 :: v2 :: vs) p) (hv:varsP p = true) (hl:20000 * (v1 :: v2 :: vs).length <= 16000000):PE X (.JoinedStr (v1 :: v2 :: vs) pos) (tM X call p):=by
 intro pins s σ H Q I ⟨env,r,g⟩
 rcases JbP call (env:=env) hv with q | ⟨ds,q⟩
 ·rw [q] at g; exact g.elim
 rw [q] at g
 simp only [Rs.bind_ok] at g
 by_cases hm:msgOk (.lst ds) = true
 ·rw [if_pos hm] at g
  refine wpAny_JoinedStr (h pins s σ H env Str.empty _ ds I r q hm (by show 0 + _ <= _; omega) fun out s1 H1 I1 sm ho=>⟨?_,.str out,H1,I1.tok _,⟨_,rfl⟩,g _ _ sm⟩)
  have:Str.empty.length = 0:=rfl
  show _ <= 16777216
  omega
 ·rw [if_neg hm] at g
  exact g.elim
end
end Rd
namespace Rd
open PySem PySem.Spec PyProof.Rows L2 Pu
section
variable {X:Cx} {call:CallD} {a b:Expr} {pa pb:Px} {pos p1 p2:Pos} {G:Gw} {N:List Str} {nm:List (Str × NameKind)}
theorem Jhw {pins:List (Addr × Obj)} {σ:L2.St} {H:Hp} {s:Shared} (I:L2.Inv X pins σ H s) {ds:List D} {xs:List V} {its:List Value} (hr:Reps X.K H ds xs) (hv:Vals xs its) (pd:deps ds < 1000) (d:D):its.map (eU ds its d) = ds.map fun d'=>d'.eqv d:=by
 have l1:=hv.length
 have l2:=hr.length
 refine List.ext_getElem (by simp; omega) fun j h1 h2=>?_
 simp only [List.length_map] at h1 h2
 rw [List.getElem_map,List.getElem_map]
 exact JcK I hr hv pd (List.getElem?_eq_getElem h1) (List.getElem?_eq_getElem h2)
theorem Jai {α:Type} (f:α -> Bool) (l:List α):l.countP f = (l.map f).countP id:=by rw [List.countP_map]; rfl
theorem JaQ:∀ {ds:List D} {x:D} {n:Nat},idxD x ds = some n -> (∃ d,ds[n]? = some d /\ d.eqv x = true) /\ ∀ m d,m < n -> ds[m]? = some d -> d.eqv x = false
 | [],x,n,h=>by simp [idxD] at h
 | d :: ds,x,n,h=>by
  unfold idxD at h
  split at h
  ·rename_i q
   cases h
   exact ⟨⟨d,rfl,q⟩,fun m d' hm=>absurd hm (Nat.not_lt_zero _)⟩
  ·rename_i q
   rw [Option.map_eq_some_iff] at h
   obtain ⟨k,hk,rfl⟩:=h
   obtain ⟨⟨d',h1,h2⟩,h3⟩:=JaQ hk
   refine ⟨⟨d',by simpa using h1,h2⟩,fun m d'' hm he=>?_⟩
   cases m with
   | zero=>simp at he; subst he; simpa using q
   | succ m=>exact h3 m d'' (by omega) (by simpa using he)
theorem Jec (hu:X.A.units + 64 < cLine):MtR X "list.count" (fun x xs H Q=>∃ y,xs = [y] /\ ∃ ds dy,Rep X.K H (.lst ds) x /\ Rep X.K H dy y /\ (op2 .count (.lst ds) dy).Good (Out X H Q) (XW X H)):=by
 intro pins s σ H x xs v us Q I rx rv ⟨y,e,ds,dy,r1,r2,h⟩
 subst e
 obtain ⟨u,rfl,ru⟩:=Jbp rv
 simp only [op2] at h
 split at h
 ·rename_i hc
  simp only [okDep,Bool.and_eq_true,decide_eq_true_eq] at hc
  have hdep:deps ds + 1 <= 20:=hc.1.1
  obtain ⟨l,zs,rfl,h1,h2⟩:=r1
  cases rx
  obtain ⟨its,rvv,⟨o,n,e1,c1,d1,k1⟩,_⟩:=I.list h1
  obtain ⟨oc,od,oda,osl⟩:=o
  simp only at c1 d1 k1
  subst c1; subst d1; subst k1
  refine call_meets F.slot_list_count ⟨_,e1,rfl⟩ F.entry_list_count (F.args_list_count_2 _ _) (SeqAt.list_countAt l its.toArray n none osl u (eU ds its dy)) ⟨e1,Jao hu I h2 rvv r2 ru (by omega) hc.1.2,?_⟩
  refine ⟨.int _,H,I.tok _,⟨_,rfl⟩,?_⟩
  rw [Jai,Jhw I h2 rvv (by omega),<- Jai]
  exact Out.now h rfl
 ·exact h.elim
theorem Jex (hu:X.A.units + 64 < cLine):MtR X "list.index" (fun x xs H Q=>∃ y,xs = [y] /\ ∃ ds dy,Rep X.K H (.lst ds) x /\ Rep X.K H dy y /\ (op2 .index (.lst ds) dy).Good (Out X H Q) (XW X H)):=by
 intro pins s σ H x xs v us Q I rx rv ⟨y,e,ds,dy,r1,r2,h⟩
 subst e
 obtain ⟨u,rfl,ru⟩:=Jbp rv
 simp only [op2] at h
 split at h
 ·rename_i hc
  simp only [okDep,Bool.and_eq_true,decide_eq_true_eq] at hc
  have hdep:deps ds + 1 <= 20:=hc.1.1
  cases q:idxD dy ds with
  | none=>rw [q] at h; exact h.elim
  | some j=>
   rw [q] at h
   obtain ⟨⟨d',g1,g2⟩,g3⟩:=JaQ q
   obtain ⟨l,zs,rfl,h1,h2⟩:=r1
   cases rx
   obtain ⟨its,rvv,⟨o,n,e1,c1,d1,k1⟩,_⟩:=I.list h1
   obtain ⟨oc,od,oda,osl⟩:=o
   simp only at c1 d1 k1
   subst c1; subst d1; subst k1
   have l1:=rvv.length
   have l2:=h2.length
   have hj:j < ds.length:=(List.getElem?_eq_some_iff.mp g1).1
   have at_:∀ (m:Nat) (hm:m < its.toArray.size),eU ds its dy its.toArray[m] = (ds[m]'(by simp at hm; omega)).eqv dy:=fun m hm=>by
    have hm':m < its.length:=by simpa using hm
    have:=JcK I h2 rvv (by omega) (d:=dy) (j:=m) (List.getElem?_eq_getElem hm') (List.getElem?_eq_getElem (by omega:m < ds.length))
    simpa using this
   refine call_meets F.slot_list_index ⟨_,e1,rfl⟩ F.entry_list_index (F.args_list_index_2 _ _) (SeqAt.list_indexAt l its.toArray n none osl u (eU ds its dy) j (by simp; omega) (by omega) ?_ ?_) ⟨e1,Jao hu I h2 rvv r2 ru (by omega) hc.1.2,?_⟩
   ·rw [at_ j (by simp; omega)]
    have:ds[j] = d':=by rw [List.getElem?_eq_getElem hj] at g1; simpa using g1
    rw [this]; exact g2
   ·intro m hm hlt
    rw [at_ m hm]
    exact g3 m _ hlt (List.getElem?_eq_getElem (by simp at hm; omega))
   ·exact ⟨.int _,H,I.tok _,⟨_,rfl⟩,Out.now h rfl⟩
 ·exact h.elim
theorem JbL {id:String} {name:Str} {o:O2} {apos:Pos} (slot:Slot "list" name id) (hty:typeOf (.builtin id) = pure (.type "method_descriptor")) (ho:∀ dx dy,(∀ ds,dx ≠ .lst ds) -> op2 o dx dy = .stuck)
  (hm:MtR X id (fun x xs H Q=>∃ y,xs = [y] /\ ∃ ds dy,Rep X.K H (.lst ds) x /\ Rep X.K H dy y /\ (op2 o (.lst ds) dy).Good (Out X H Q) (XW X H))) (ha:PE X a (tI X call pa)) (hb:PE X b (tI X call pb)) (hn:noEx pb = true) (hl:(apos.endLine == pos.line) = true)
  (hbase:attributeBase a name X.env (eval a X.env) = eval a X.env:=by rfl) (hs:starEach [b] X.env = (false,eval b X.env) :: starEach [] X.env:=by rfl):PE X (.Call (.Attribute a name apos) [b] [] pos) (tI X call (.bi o pa pb)):=by
 refine PE.weak (JfG F.plainAttrs_list slot hty hm ha (Jt hb JJ hs) hbase (by rw [hs]; rfl) hl hs rfl) fun σ H Q h=>?_
 obtain ⟨env,r,h⟩:=h
 simp only [evD] at h
 refine tI.then r h fun dx x H1 s1 r1 q1 h1=>?_
 cases hb':evD call pb env with
 | ex c=>exact absurd hb' (Jal call pb env c hn)
 | stuck=>rw [hb'] at h1; exact h1.elim
 | ok dy=>
  rw [hb'] at h1
  simp only [Rs.bind_ok] at h1
  have ty:∃ ds,dx = .lst ds:=by
   cases dx with
   | lst ds=>exact ⟨ds,rfl⟩
   | _=>rw [ho _ _ (by intro ds; simp)] at h1; exact h1.elim
  obtain ⟨ds,rfl⟩:=ty
  obtain ⟨l,xs,rfl,g1,g2⟩:=(show _ from r1)
  refine ⟨.inl ⟨rfl,xs,g1⟩,env,q1,?_⟩
  rw [hb']
  intro y H2 s2 r2
  exact ⟨y,rfl,ds,dy,r1.mono s2,r2,h1.mono (fun _ o=>o.mono s2) fun _ q=>q.mono s2⟩
end
end Rd
namespace Rd
open PySem PySem.Spec PyProof.Rows L2 Pu
section
open PySem.W PySem.Calls
variable {prog:Program} {w:World} {A:Around} {E:Value -> Shared -> Prop} {K:Frag} {x D:Addr}
structure ExKit (K:Frag) (D:Addr):Prop where
 g:findIn K (.ref D) "__getattribute__" = some (some (.builtin "BaseException.__getattribute__"))
 n:findIn K (.ref D) "__getattr__" = some none
 b:mroIn K D (.type "BaseException") = some true
 d:hasDictIn K D = true
 a:findIn K (.ref D) "__class__" = some (some (.builtin "object.__class__"))
 s:specialIn K (.builtin "object.__class__") "__get__" = some (some (.builtin "getset_descriptor.__get__"))
 t:takesIn K (.builtin "object.__class__") = some true
 m:mroIn K D (.type "object") = some true
open Builtin.ObjectAttr in
theorem Jeb {M:Model} {h:Heap} (hin:K.In h) (Z:ExKit K D):Looks M h (find (.ref x) (.ref D) "__class__") (.bind (.builtin "getset_descriptor.__get__") (.builtin "object.__class__")):=by
 have e3:=looks_takesIn (M:=M) hin Z.t
 have e4:Looks M h (dataDescriptor? (some (.builtin "object.__class__")) (some (.builtin "getset_descriptor.__get__"))) (some (.builtin "getset_descriptor.__get__",.builtin "object.__class__")):=by
  unfold dataDescriptor?
  exact Looks.andThen e3 .now
 exact (looks_findIn (M:=M) hin Z.a).andThen ((looks_specialIn (M:=M) hin Z.s).andThen (e4.andThen (Looks.tag .now)))
open Builtin Builtin.ObjectAttr Builtin.Getset_descriptor in
theorem JfY {s:Shared} {tp:Value} {R:Result -> Shared -> Prop} (hin:K.In s.heap) (lt:Looks (model prog w) s.heap (typeOf (.ref x)) (.ref D)) (Z:ExKit K D) (hR:R (.ok (.ret (.ref D))) s):codeAny (model prog w) A (.call (.builtin "getset_descriptor.__get__") ⟨[.builtin "object.__class__",.ref x,tp],[]⟩) R s:=by
 obtain ⟨h0,g0,d0,t0,o0⟩:=s
 have lm:=looks_mroIn (M:=model prog w) hin Z.m
 refine (codeAny_call_builtin KF.slot_gs.plain KF.entry_gs (KF.slot_gs.check _ _ _ _ _ _ _ _ KF.type_class (KF.args_gs _ _ _) ?_))
 (unfold Builtin.«getset_descriptor.__get__» descrGet); (rw [dga_obj]); (refine wpAny_bind (wpAny_pure ?_))
 (unfold descrGetter descrCheckInstance descrNameAndClass isInstance); (simp only [KF.owner_class]); (repeat lk)
 refine ⟨(Code.quiet_builtin _ (by decide +kernel)),codeAny_builtin KF.entry_class ?_⟩
 (unfold Builtin.«object.__class__» shownTypeOf); (repeat lk); exact hR
open Builtin Builtin.ObjectAttr in
theorem JdR {s:Shared} {tk:Tok} {R:Result -> Shared -> Prop} (hin:K.In s.heap) (lt:Looks (model prog w) s.heap (typeOf (.ref x)) (.ref D)) (Z:ExKit K D) (hR:R (.ok (.ret (.ref D))) s):codeAny (model prog w) A (.call (.builtin "BaseException.__getattribute__") ⟨[.ref x,.str "__class__" tk],[]⟩) R s:=by
 obtain ⟨h0,g0,d0,t0,o0⟩:=s
 have lm:=looks_mroIn (M:=model prog w) hin Z.b
 have e3:=Jeb (M:=model prog w) (x:=x) hin Z
 have hk:builtinKind "BaseException.__getattribute__" = some .slot:=(by decide +kernel)
 have hsp:splitId "BaseException.__getattribute__" = some ("BaseException","__getattribute__"):=(by decide +kernel)
 have ha:=PySem.F.args_bexc_ga (.ref x) (.str "__class__" tk)
 refine codeAny_call_builtin PySem.F.excAttr_ValueError.ga.plain PySem.F.entry_bexc_ga ?_
 (simp only [checkBuiltinCall,hk,hsp]); (refine wpAny_bind ?_); (unfold isInstance); (repeat lk)
 exact wpAny_run (JfY hin lt Z (wpAny_pure (wpAny_pure hR)))
theorem JdL {s:Shared} {Q:Option Value -> Shared -> Prop} (hin:K.In s.heap) (lt:Looks (model prog w) s.heap (typeOf (.ref x)) (.ref D)) (Z:ExKit K D) (hQ:Q (some (.ref D)) { s with toks:=s.toks + 1 }):wpAny (model prog w) A (getAttr? (.ref x) "__class__") Q E s:=by
 obtain ⟨h0,g0,d0,t0,o0⟩:=s
 have e1:=looks_findIn (M:=model prog w) hin Z.g
 have e2:=looks_findIn (M:=model prog w) hin Z.n
 have f3:=PySem.F.excAttr_ValueError.ga.bind (.ref x)
 (unfold getAttr? getAttrBy? getAttrBy); (refine wpAny_bind (wpAny_mkText (wpAny_bind (wpAny_attempt (wpAny_holding (wpAny_bind (lt.at (wpAny_bind (e1.at ?_)))))))))
 (show wpAny _ _ (getAttrByItsOwn (.ref x) _ (.ref D) (.builtin "BaseException.__getattribute__") false false) _ _ _); (unfold getAttrByItsOwn)
 refine wpAny_bind (m:=hookBefore (.ref D)) (e2.at ?_)
 refine wpAny_bind (wpAny_attempt (wpAny_holding ?_))
 (show wpAny _ _ (boundAndCalled _ _ _) _ _ _); (unfold boundAndCalled); (rw [f3]); (refine wpAny_bind (wpAny_pure ?_))
 refine wpAny_call (JdR (s:=⟨h0,g0,d0,t0 + 1,o0⟩) hin lt Z ?_)
 exact wpAny_pure (wpAny_pure hQ)
theorem Jel {ox:Obj} (Z:ExKit K D):KitX K (.ref x) (.ref D) (fun h=>h.get? x = some ox /\ ox.cls = .ref D) where
 ty:=fun _ _ _ ⟨h1,h2⟩=>h2 ▸ (Looks.ld h1).andThen .now
 it:=fun _ _ hin _=>by
  obtain ⟨cd,hc,_⟩:=any_some Z.d
  unfold clsIn at hc
  split at hc
  ·rename_i ho
   intro A' Q' E' s' k q
   (unfold isType loadHead); exact wpAny_bind (wpAny_loadPart (k _ _ (hin _ _ ho)) (wpAny_pure q))
  ·cases hc
 ne:=fun h tp dd its n sl hin htp=>by
  obtain ⟨cd,hc,_⟩:=any_some Z.d
  refine (Bool.eq_false_iff.mpr fun q=>?_)
  have e:D = tp:=Value.ref.inj (beq_iff_eq.mp q)
  subst e
  unfold clsIn at hc
  split at hc
  ·rename_i ho
   have z:=(hin _ _ ho).symm.trans htp
   cases z
  ·cases hc
 ca:=fun hin ⟨h1,h2⟩ k=>JdL hin (h2 ▸ (Looks.ld h1).andThen .now) Z k
end
structure IsaC (G:Gw) (t:Str) (cs:List Str):Prop where
 ex:∃ (u:Value) (v:V),RelV v u /\ (G.mg t = some u \/ (G.mg t = none /\ bootBuiltins t = some u /\ t ≠ "__name__")) /\ ∀ c ∈ cs,∃ C,PySem.W.nsIn G.K mainGlobals c = some (some (.ref C)) /\ ExKit G.K C /\ PySem.W.kitOne G.K (.ref C) u = some (t == Str.ofString "ValueError" || c == t)
section
variable {X:Cx} {call:CallD} {a:Expr} {pa:Px} {pos p1 p2:Pos} {G:Gw} {N:List Str} {nm:List (Str × NameKind)} {t:Str} {cs:List Str}
theorem Jhb {v:V} {u:Value} (rv:RelV v u) (hc:∀ c ∈ cs,∃ C,PySem.W.nsIn X.K mainGlobals c = some (some (.ref C)) /\ ExKit X.K C /\ PySem.W.kitOne X.K (.ref C) u = some (t == Str.ofString "ValueError" || c == t)) :
  CallR X (.builtin "isinstance") (fun xs H Q=>∃ x d,xs = [x,v] /\ Rep X.K H d x /\ (op1 (.isC cs t) d).Good (Out X H Q) (XW X H)):=by
 intro pins s σ H xs us Q I rvs ⟨x,d,e,r,h⟩
 subst e
 obtain ⟨u1,u2,rfl,r1,r2⟩:=Jhk rvs
 cases d with
 | exc c=>
  simp only [op1] at h
  split at h
  ·rename_i hin
   obtain ⟨C,g1,Z,g3⟩:=hc c (by simpa using hin)
   obtain ⟨a,o,C',rfl,k1,k2,k3⟩:=r
   rw [g1] at k3; cases k3
   cases r1
   obtain ⟨ho,_⟩:=I.hok a _ k1
   have e2:u2 = u \/ True:=.inr trivial
   have h2:PySem.W.kitOne X.K (.ref C) u2 = some (t == Str.ofString "ValueError" || c == t):=by
    have:∀ {w:V} {p q:Value},RelV w p -> RelV w q -> (∀ T,w ≠ .ty T) -> (∀ b,w ≠ .ref b) -> True:=fun _ _ _ _=>trivial
    cases v with
    | ref b=>cases rv; cases r2; exact g3
    | ty T=>cases rv; cases r2; exact g3
    | non=>cases rv; cases r2; exact g3
    | bl b=>cases rv; cases r2; exact g3
    | _=>obtain ⟨_,rfl⟩:=rv; first | (unfold PySem.W.kitOne PySem.W.kitCls at g3; simp at g3; done) | exact absurd g3 (by simp [PySem.W.kitOne,PySem.W.kitCls])
   exact PySem.W.kia_one (Jel (ox:=o) Z) I.kIn ⟨ho,k2⟩ h2 (fun z=>nomatch z) fun tk=>⟨.bl _,H,I.kept (t':=tk) (fun _ _ q=>q),rfl,Out.now h rfl⟩
  ·exact h.elim
 | _=>exact (show False from h).elim
end
end Rd
namespace Rd
open PySem PySem.Spec PyProof.Rows L2 Pu
def tkeyV (k:List L2.Key):D:=.tup (k.map keyV)
section
variable {κ:Type} [DecidableEq κ] {g:κ -> D}
end
section
variable {prog:Program} {w:World} {κ:Type} [DecidableEq κ] {kd:HeapKind prog w κ} {A:Around} {E:Value -> Shared -> Prop} {s:Shared} {d:Addr} {xs:List (κ × Addr × Value)}
end
section
variable {X:Cx} {call:CallD} {G:Gw} {N:List Str} {nm:List (Str × NameKind)} {e a b:Expr} {p pa pb:Px} {pos p1:Pos} {x:Str} {i:Nat} {M:List Nat} {H0:Hp} {px:Pos}
end
end Rd
namespace Rd
open PySem PySem.Spec PyProof.Rows L2 Pu
section
variable {X:Cx} {pins:List (Addr × Obj)} {σ:L2.St} {H:Hp} {s:Shared} {l:Addr}
end
section
variable {X:Cx} {call:CallD} {G:Gw} {N:List Str} {nm:List (Str × NameKind)} {e a b:Expr} {p pa pb:Px} {pos p1 p2:Pos} {x:Str} {i:Nat} {M:List Nat} {H0:Hp} {px:Pos}
end
end Rd
namespace Rd
open PySem PySem.Spec PyProof.Rows L2 Pu
section
variable {X:Cx} {call:CallD} {M M2 is:List Nat} {H0:Hp} {e:Expr} {p:Px} {b:Sx} {pos:Pos} {rest:List Stmt}
end
end Rd
namespace Rd
open PySem PySem.Spec PyProof.Rows L2
open Sem (wp)
section
variable {prog:Program} {w:World} {A:Around} {R:Result -> Shared -> Prop} {I d:Addr} {fp wr:List Addr} {n:Nat} {P:Nat -> Value -> Prop} {St:Nat -> Heap -> Prop} {κ:Type} [DecidableEq κ] {knd:KeyKind prog w κ}
end
end Rd
namespace Rd
open PySem PySem.Spec PyProof.Rows L2 Pu
section
variable {X:Cx}
end
section
variable {X:Cx} {call:CallD} {G:Gw} {N:List Str} {nm:List (Str × NameKind)} {a:Expr} {pa:Px} {pos p1:Pos}
end
end Rd
namespace Rd
open PySem PySem.Spec PyProof.Rows L2 Pu
section
variable {prog:Program} {w:World} {A:Around} {E:Value -> Shared -> Prop} {s:Shared}
end
section
variable {prog:Program} {w:World} {A:Around} {E:Value -> Shared -> Prop} {s:Shared}
end
section
variable {X:Cx} {call:CallD} {G:Gw} {N:List Str} {nm:List (Str × NameKind)} {a:Expr} {pa:Px} {pos p1 p2 p3:Pos}
end
end Rd
namespace Rd
open PySem PySem.Spec PyProof.Rows L2 Pu
section
variable {X:Cx} {call:CallD} {G:Gw} {N:List Str} {nm:List (Str × NameKind)} {k v:Expr} {pk pv:Px} {pos:Pos}
end
end Rd
namespace Rd
open PySem PySem.Spec PyProof.Rows L2 Pu
section
variable {X:Cx} {call:CallD} {e:Expr} {p pe:Px} {pos:Pos}
end
end Rd
namespace Rd
open PySem PySem.Spec PyProof.Rows L2 Pu
section
variable {prog:Program} {w:World} {A:Around} {E:Value -> Shared -> Prop} {s:Shared} {it d:Addr} {od:Obj} {es:Array DictEntry} {ep i:Nat} {ok ov:Value}
end
end Rd
namespace Rd
open PySem PySem.Spec PyProof.Rows L2 Pu
section
variable {prog:Program} {w:World} {A:Around} {E:Value -> Shared -> Prop} {s:Shared} {d:Addr} {od:Obj} {es:Array DictEntry} {ep:Nat}
end
def DKo (H:Hp) (d:Addr) (t:Bool) (o:Obj) (ks:List D) (xs:List V):Prop:=match t with
 | true=>∃ kvs:List (List L2.Key × V),H d = some (.frz o (.dT kvs)) /\ ks = kvs.map (fun p=>tkeyV p.1) /\ xs = kvs.map (·.2)
 | false=>∃ kvs:List (L2.Key × V),H d = some (.frz o (.dK kvs)) /\ ks = kvs.map (fun p=>keyV p.1) /\ xs = kvs.map (·.2)
theorem DKo.same {H H':Hp} {d:Addr} {t:Bool} {o:Obj} {ks:List D} {xs:List V} (s:Same H H') (h:DKo H d t o ks xs):DKo H' d t o ks xs:=by
 cases t <;> obtain ⟨kvs,q,e1,e2⟩:=h <;> exact ⟨kvs,s _ _ q,e1,e2⟩
theorem DKo.inj {H:Hp} {d:Addr} {t:Bool} {o o':Obj} {ks ks':List D} {xs xs':List V} (h:DKo H d t o ks xs) (h':DKo H d t o' ks' xs'):ks = ks' /\ xs = xs':=by
 cases t <;> obtain ⟨kvs,q,e1,e2⟩:=h <;> obtain ⟨kvs',q',e1',e2'⟩:=h' <;> rw [q] at q' <;> cases q' <;> exact ⟨e1.trans e1'.symm,e2.trans e2'.symm⟩
theorem DKo.len {H:Hp} {d:Addr} {t:Bool} {o:Obj} {ks:List D} {xs:List V} (h:DKo H d t o ks xs):ks.length = xs.length:=by
 cases t <;> obtain ⟨kvs,_,rfl,rfl⟩:=h <;> simp
section
variable {X:Cx} {pins:List (Addr × Obj)} {σ:L2.St} {H:Hp} {s:Shared} {d:Addr} {t:Bool} {o:Obj} {ks:List D} {xs:List V}
end
section
variable {X:Cx} {call:CallD} {G:Gw} {N:List Str} {nm:List (Str × NameKind)} {a:Expr} {pa:Px} {pos ap tp:Pos} {elts:List Expr} {kk:Nat}
end
end Rd
namespace Rd
open PySem PySem.Spec PyProof.Rows L2 Pu
section
variable {X:Cx} {call:CallD} {v:Expr} {vs:List Expr} {pv pvs:Px} {pos:Pos}
end
end Rd
namespace Rd
open PySem PySem.Spec PyProof.Rows L2 Pu
section
variable {prog:Program} {w:World} {A:Around} {E:Value -> Shared -> Prop} {s:Shared} {l I S:Addr} {vs:List Value} {R:Result -> Shared -> Prop} {Q:Value -> Shared -> Prop}
end
section
variable {X:Cx} {call:CallD} {G:Gw} {N:List Str} {nm:List (Str × NameKind)} {a:Expr} {pa:Px} {pos p1 p2 p3 q1 q2:Pos}
end
end Rd
namespace Rd
open PySem PySem.Spec PyProof.Rows L2 Pu
section
variable {X:Cx} {call:CallD} {M:List Nat} {H0:Hp} {G:Gw} {N:List Str} {nm:List (Str × NameKind)} {e tg a:Expr} {p pa:Px} {pos p1 p2 p3:Pos} {ts:List Nat} {nt:Nat}
end
end Rd
namespace Rd
open PySem PySem.Spec PyProof.Rows L2 Pu
section
variable {X:Cx} {call:CallD} {G:Gw} {N:List Str} {nm:List (Str × NameKind)} {e:Expr} {es:List Expr} {p:Px} {pos p1:Pos} {x:Str}
end
end Rd
namespace Rd
open PySem PySem.Spec PyProof.Rows L2 Pu
section
variable {X:Cx} {call:CallD} {G:Gw} {N:List Str} {nm:List (Str × NameKind)} {pos px ps:Pos} {x:Str} {M:List Nat} {H0:Hp} {i:Nat} {b v:Expr} {pk pv:Px}
end
end Rd
namespace Rd
open PySem PySem.Spec PyProof.Rows L2 Pu
section
variable {X:Cx} {call:CallD} {G:Gw} {N:List Str} {nm:List (Str × NameKind)} {pos p1:Pos} {a:Expr} {pa:Px}
end
end Rd
namespace Rd
open PySem PySem.Spec PyProof.Rows L2 Pu
section
variable {X:Cx} {call:CallD} {G:Gw} {N:List Str} {nm:List (Str × NameKind)} {pos px pt:Pos} {x y:Str} {M:List Nat} {H0:Hp} {i t:Nat} {b v:Expr} {pk pv:Px} {apos cpos:Pos}
end
end Rd
namespace Rd
open PySem PySem.Spec PyProof.Rows L2 Pu
section
variable {X:Cx} {call:CallD} {G:Gw} {N:List Str} {nm:List (Str × NameKind)} {k v:Expr} {pk pv:Px} {pos px p1:Pos} {M:List Nat} {H0:Hp} {i:Nat} {x:Str}
end
end Rd
namespace Rd
open PySem PySem.Spec PyProof.Rows L2 Pu
section
variable {prog:Program} {w:World} {A:Around} {E:Value -> Shared -> Prop} {s:Shared} {it d:Addr} {od:Obj} {es:Array DictEntry} {ep i:Nat}
end
section
variable {prog:Program} {w:World} {κ:Type} [DecidableEq κ] {kd:HeapKind prog w κ} {A:Around} {E:Value -> Shared -> Prop} {s:Shared} {d:Addr} {xs:List (κ × Addr × Value)} {od:Obj} {es:Array DictEntry} {ep:Nat}
end
section
variable {X:Cx} {call:CallD} {G:Gw} {N:List Str} {nm:List (Str × NameKind)} {a:Expr} {pa:Px} {pos p1:Pos}
end
end Rd
namespace Rd
open PySem PySem.Spec PyProof.Rows L2 Pu
section
variable {X:Cx} {call:CallD} {G:Gw} {N:List Str} {nm:List (Str × NameKind)} {a:Expr} {pa:Px} {y:Str} {px:Pos}
end
section
variable {prog:Program} {w:World} {A:Around} {E:Value -> Shared -> Prop} {s:Shared}
end
section
variable {X:Cx} {call:CallD} {M:List Nat} {H0:Hp} {G:Gw} {N:List Str} {nm:List (Str × NameKind)} {x y:Str} {i j k:Nat} {e:Expr} {p:Px} {pos p1 p2 spos:Pos}
end
end Rd
namespace Rd
open PySem PySem.Spec PyProof.Rows L2 Pu
end Rd
namespace Rd
open PySem PySem.Spec PyProof.Rows L2 Pu
open PySem.SeqAt (EqAt)
section
variable {X:Cx} {pins:List (Addr × Obj)} {σ:L2.St} {H:Hp} {s:Shared}
end
section
variable {prog:Program} {w:World} {A:Around} {s:Shared}
end
section
variable {X:Cx} {call:CallD} {pins:List (Addr × Obj)} {σ:L2.St} {H:Hp} {s:Shared} {fi kk:Nat} {f a kS:Addr} {fd:FuncData} {ps:List Str}
end
section
variable {X:Cx} {call:CallD} {G:Gw} {N:List Str} {nm:List (Str × NameKind)} {a:Expr} {pa:Px} {pos p1 p2 q1:Pos} {x:Str} {fi:Nat}
end
end Rd
namespace Rd
open PySem PySem.Spec PyProof.Rows L2 Pu
open PySem.SeqAt (EqAt)
section
variable {X:Cx} {call:CallD} {a b:Expr} {pa pb:Px} {pos p1 p2:Pos} {G:Gw} {N:List Str} {nm:List (Str × NameKind)}
theorem Jcr {M:Model} {A:Around} {E:Value -> Shared -> Prop} {s:Shared} {body:Nat -> Option PySem.Fin × Unit -> Sem (ForInStep (Option PySem.Fin × Unit))} {R:Option PySem.Fin × Unit -> Shared -> Prop} {j n:Nat} (hj:j < n)
  (hno:∀ k,k < j -> wpAny M A (body k (none,())) (fun r s'=>r = .yield (none,()) /\ s' = s) E s) (hyes:wpAny M A (body j (none,())) (fun r s'=>∃ fin,r = .done (some fin,()) /\ R (some fin,()) s') E s):∀ (r k:Nat),k + r = n -> k <= j -> wpAny M A (forIn (List.range' k r 1) (none,()) body) R E s:=by
 intro r
 induction r with
 | zero=>intro k hk hkj; omega
 | succ r ih=>
  intro k hk hkj
  rw [List.range'_succ,List.forIn_cons]
  by_cases q:k = j
  ·subst q
   refine wpAny_bind (wpAny_mono hyes (fun r s' h=>?_) fun _ _ x=>x)
   obtain ⟨fin,rfl,h⟩:=h
   exact wpAny_pure h
  ·refine wpAny_bind (wpAny_mono (hno k (by omega)) (fun r s' h=>?_) fun _ _ x=>x)
   obtain ⟨rfl,rfl⟩:=h
   exact ih (k + 1) (by omega) (by omega)
theorem Jeu {prog:Program} {w:World} {A:Around} {E:Value -> Shared -> Prop} {s:Shared} {l:Addr} {o:Obj} {its:List Value} {n:Nat} {u:Value} {e:Value -> Bool} {j:Nat} {Q:PySem.Fin -> Shared -> Prop} (ho:s.heap.get? l = some o) (hd:o.data = .seq its.toArray n) (heq:∀ y,y ∈ its.toArray -> EqAt A s y u (e y))
  (hj:j < its.length) (h1:e its[j] = true) (h2:∀ m (hm:m < its.length),m < j -> e its[m] = false) (hQ:Q (.done (.ret (.int j s.toks))) { s with toks:=s.toks + 1 }):wpAny (model prog w) A (Builtin.«tuple.index» ⟨[.ref l,u],[]⟩) Q E s:=by
 unfold Builtin.«tuple.index»
 refine wpAny_bind (wpAny_of_eq (show selfAndSome "tuple.index" "index" 1 3 ⟨[.ref l,u],[]⟩ = pure (.ref l,[u]) from rfl) ?_)
 refine wpAny_bind (wpAny_tupleItemsOf ho hd ?_)
 refine wpAny_bind (wpAny_pure ?_)
 refine wpAny_bind (wpAny_pure ?_)
 show wpAny _ _ (forIn (Std.Legacy.Range.mk 0 (min its.toArray.size its.toArray.size) 1 (by decide)) _ _ >>= _) _ _ _
 refine wpAny_bind ?_
 rw [Std.Legacy.Range.forIn_eq_forIn_range']
 have hsz:(Std.Legacy.Range.size ⟨0,min its.toArray.size its.toArray.size,1,by decide⟩) = its.length:=by simp [Std.Legacy.Range.size]
 show wpAny _ _ (forIn (List.range' 0 (Std.Legacy.Range.size ⟨0,min its.toArray.size its.toArray.size,1,by decide⟩) 1) _ _) _ _ _
 rw [hsz]
 have hg:∀ k (hk:k < its.length),its.toArray[k]? = some its[k]:=fun k hk=>by simp [hk]
 refine Jcr hj (fun k hk=>?_) ?_ its.length 0 (by omega) (by omega)
 ·simp only [hg k (by omega)]
  refine wpAny_bind (heq its[k] (by simp) prog w _ _ ?_)
  rw [h2 k (by omega) hk,if_neg (by decide)]
  exact wpAny_pure ⟨rfl,rfl⟩
 ·simp only [hg j hj]
  refine wpAny_bind (heq its[j] (by simp) prog w _ _ ?_)
  rw [h1,if_pos rfl]
  refine wpAny_bind (wpAny_bind (wpAny_mkInt (wpAny_pure ?_)))
  exact wpAny_pure ⟨_,rfl,wpAny_pure hQ⟩
theorem Jdt (hu:X.A.units + 64 < cLine):MtR X "tuple.index" (fun x xs H Q=>∃ y,xs = [y] /\ ∃ ds dy,Rep X.K H (.tup ds) x /\ Rep X.K H dy y /\ (op2 .indexT (.tup ds) dy).Good (Out X H Q) (XW X H)):=by
 intro pins s σ H x xs v us Q I rx rv ⟨y,e,ds,dy,r1,r2,h⟩
 subst e
 obtain ⟨u,rfl,ru⟩:=Jbp rv
 simp only [op2] at h
 split at h
 ·rename_i hc
  simp only [okDep,Bool.and_eq_true,decide_eq_true_eq] at hc
  have hdep:deps ds + 1 <= 20:=hc.1.1
  cases q:idxD dy ds with
  | none=>rw [q] at h; exact h.elim
  | some j=>
   rw [q] at h
   obtain ⟨⟨d',g1,g2⟩,g3⟩:=JaQ q
   obtain ⟨l,zs,rfl,h1,h2⟩:=r1
   cases rx
   obtain ⟨its,o,n,rvv,e1,c1,_,k1,_⟩:=I.tupleD h1
   have l1:=rvv.length
   have l2:=h2.length
   have hj:j < ds.length:=(List.getElem?_eq_some_iff.mp g1).1
   have at_:∀ (m:Nat) (hm:m < its.length),eU ds its dy its[m] = (ds[m]'(by omega)).eqv dy:=fun m hm=>
    JcK I h2 rvv (by omega) (d:=dy) (j:=m) (List.getElem?_eq_getElem hm) (List.getElem?_eq_getElem (by omega:m < ds.length))
   refine wpAny_call_entry F.slot_tuple_index ⟨_,e1,c1⟩ F.entry_tuple_index (Jeu (e:=eU ds its dy) (j:=j) e1 k1 (Jao hu I h2 rvv r2 ru (by omega) hc.1.2) (by omega) ?_ ?_ ?_) (F.args_tuple_index_2 _ _)
   ·rw [at_ j (by omega)]
    have:ds[j] = d':=by rw [List.getElem?_eq_getElem hj] at g1; simpa using g1
    rw [this]; exact g2
   ·intro m hm hlt
    rw [at_ m hm]
    exact g3 m _ hlt (List.getElem?_eq_getElem (by omega))
   ·exact ⟨_,rfl,.int _,H,I.tok _,⟨_,rfl⟩,Out.now h rfl⟩
 ·exact h.elim
theorem JgY {o e:Expr} {to:TE} {t:TA} {name:Str} {apos cpos:Pos} {id:String} {r:V -> List V -> Hp -> VK -> Prop} (slot:Slot "tuple" name id) (hty:typeOf (.builtin id) = pure (.type "method_descriptor")) (hm:MtR X id r) (ho:PE X o to) (ha:PA X [e] t)
  (hbase:attributeBase o name X.env (eval o X.env) = eval o X.env) (hline:(apos.endLine == cpos.line) = true) (hs:starEach [e] X.env = (false,eval e X.env) :: starEach [] X.env) :
  PE X (.Call (.Attribute o name apos) [e] [] cpos) (fun σ H Q=>to σ H fun x H1=>(∃ p xs,x = .ref p /\ SqT X.K H1 p xs) /\ t σ H1 fun xs H2=>r x xs H2 Q):=by
 intro pins s σ H Q I h
 refine wpAny_Call_method_late hbase (by rw [hs]; rfl) hline rfl (thn (ho pins s σ H _ I h) fun v s1 ⟨x,H1,I1,r1,ty,q1⟩=>?_)
 obtain ⟨p,xs,rfl,hT⟩:=ty
 cases r1
 obtain ⟨its,ob,n,_,e1,c1,d1,_,_⟩:=I1.tupleD hT
 refine ⟨"tuple",id,F.plainAttrs_tuple,slot,hty,⟨_,e1,c1⟩,fun a z=>by cases z; exact ⟨ob,e1,d1⟩,?_⟩
 have hA:=ha cpos pins s1 σ H1 _ I1 q1
 rw [hs] at hA ⊢
 refine Calls.callWith_builtin rfl (Calls.evalArgs_plain ?_)
 exact thn hA fun us s2 ⟨vs,H2,I2,r2,q2⟩=>hm pins s2 σ H2 (.ref p) vs (.ref p) us Q I2 rfl r2 q2
theorem cIdxT {apos:Pos} (C:Ctx X G N nm) (ha:PE X a (tI X call pa)) (hb:PE X b (tI X call pb)) (hn:noEx pb = true) (hl:(apos.endLine == pos.line) = true) (hbase:attributeBase a "index" X.env (eval a X.env) = eval a X.env:=by rfl) (hs:starEach [b] X.env = (false,eval b X.env) :: starEach [] X.env:=by rfl) :
  PE X (.Call (.Attribute a "index" apos) [b] [] pos) (tI X call (.bi .indexT pa pb)):=by
 refine PE.weak (JgY F.slot_tuple_index F.type_tuple_index (Jdt C.un) ha (Jt hb JJ hs) hbase hl hs) fun σ H Q h=>?_
 obtain ⟨env,r,h⟩:=h
 simp only [evD] at h
 refine tI.then r h fun dx x H1 s1 r1 q1 h1=>?_
 cases hb':evD call pb env with
 | ex c=>exact absurd hb' (Jal call pb env c hn)
 | stuck=>rw [hb'] at h1; exact h1.elim
 | ok dy=>
  rw [hb'] at h1
  simp only [Rs.bind_ok] at h1
  cases dx with
  | tup ds=>
   obtain ⟨l,xs,rfl,g1,g2⟩:=(show _ from r1)
   refine ⟨⟨l,xs,rfl,g1⟩,env,q1,?_⟩
   rw [hb']
   intro y H2 s2 r2
   exact ⟨y,rfl,ds,dy,r1.mono s2,r2,h1.mono (fun _ o=>o.mono s2) fun _ q=>q.mono s2⟩
  | _=>exact (show False from h1).elim
end
end Rd
namespace Rd
open PySem PySem.Spec PyProof.Rows L2 Pu
theorem Jci (k:Int) (t:Tok) (l:Addr) (items:Array Value) (n:Nat) (dd:Option Addr) (sl:Array (Option Value)) (h1:(decide (k < -(2 ^ 63)) || decide (k ≥ 2 ^ 63)) = false) (h2:(items.isEmpty || k == 1) = false) (h3:(decide (k <= 0) || items.isEmpty) = true) :
  Meets (Builtin.«tuple.__mul__» ⟨[.ref l,.int k t],[]⟩) (fun _ R s=>s.heap.get? l = some { cls:=.type "tuple",dict:=dd,data:=.seq items n,slots:=sl } /\ R (.ok (.ret (Value.ref s.heap.objs.size))) { s with heap:=s.heap.push { cls:=Value.type "tuple",data:=Data.seq #[] },toks:=s.toks }):=
 .of_wp fun prog w A R s h=>by
  obtain ⟨hp,g,d,tk,os⟩:=s; obtain ⟨hl,h⟩:=h
  have f1:=AutoSeq1.idx_int; have f2:=AutoSeq1.sub_tuple_tuple; have f3:=AutoSeq1.sub_list_list; have f4:=AutoSeq1.sub_tuple_list; have f5:=AutoSeq1.sub_list_tuple
  wp_walk using AutoSeq1.wpAny_loadPart' hl
  refine wpAny_ite_false (by rw [h1]; rfl) ?_
  wp_walk using AutoSeq1.wpAny_loadPart' hl
  exact ⟨_,rfl,h⟩
theorem Jch (t:Tok) (l:Addr) (items:Array Value) (n:Nat) (sl:Array (Option Value)) :
  Meets (Builtin.«tuple.__mul__» ⟨[.ref l,.int 1 t],[]⟩) (fun _ R s=>s.heap.get? l = some { cls:=.type "tuple",dict:=none,data:=.seq items n,slots:=sl } /\ R (.ok (.ret (Value.ref l))) s):=
 .of_wp fun prog w A R s h=>by
  obtain ⟨hp,g,d,tk,os⟩:=s; obtain ⟨hl,h⟩:=h
  have f1:=AutoSeq1.idx_int; have f2:=AutoSeq1.sub_tuple_tuple; have f3:=AutoSeq1.sub_list_list; have f4:=AutoSeq1.sub_tuple_list; have f5:=AutoSeq1.sub_list_tuple
  wp_walk using AutoSeq1.wpAny_loadPart' hl
  exact ⟨_,rfl,h⟩
end Rd
namespace HT
open PySem PyProof.Rows
section
variable {prog:Program} {w:World} {A:Around} {E:Value -> Shared -> Prop} {s:Shared}
end
end HT
namespace Rd
open PySem PySem.Spec PyProof.Rows L2 Pu
section
variable {X:Cx} {call:CallD} {a b:Expr} {pa pb:Px} {pos p2:Pos}
end
end Rd
namespace Rd
open PySem PySem.Spec PyProof.Rows L2 Pu
section
variable {X:Cx} {call:CallD} {a b:Expr} {pa pb:Px} {pos:Pos}
theorem JeC:OpR X (binaryOp .Mult) (rD2 X .repU):=by
 intro pins s σ H x y v u Q I rx ry ⟨dx,dy,r1,r2,h⟩
 cases dx <;> cases dy <;> first
  | exact (show False from h).elim
  | skip
 rename_i ds k
 by_cases hk:2 <= k
 ·refine JdT pins s σ H x y v u Q I rx ry ⟨.tup ds,.int k,r1,r2,?_⟩
  simp only [op2] at h ⊢
  split at h
  ·rename_i hz
   simp only [Bool.and_eq_true,decide_eq_true_eq] at hz
   rw [if_pos (by simp only [Bool.and_eq_true,decide_eq_true_eq]; exact ⟨⟨hk,hz.1.2⟩,hz.2⟩)]
   exact h
  ·exact h.elim
 ·simp only [op2] at h
  split at h
  ·rename_i hz
   simp only [Bool.and_eq_true,decide_eq_true_eq] at hz
   obtain ⟨a,xs,rfl,h1,h2⟩:=id r1
   have e2:y = V.int k:=r2
   subst e2
   cases rx
   obtain ⟨t,rfl⟩:=ry
   obtain ⟨its,ob,n,q1,e1,c1,d1,k1,_⟩:=I.tupleD h1
   obtain ⟨cls,dd,data,sl⟩:=ob
   simp only at c1 d1 k1
   subst c1 d1 k1
   have hne:its ≠ []:=fun z=>hz.1.2 (h2.nil_iff.mp (q1.nil_iff.mp z))
   have e0:its.toArray.isEmpty = false:=by
    cases its with
    | nil=>exact absurd rfl hne
    | cons a r=>simp
   by_cases h0:k = 0
   ·subst h0
    refine wpAny_binaryOp_repeat_ref (T:="tuple") (U:="int") (by decide) ⟨_,e1,rfl⟩ (fun s'=>typeIs_int s' 0 t) Js F.fills_int_mul F.slot_int_rmul JF F.slot_int_index.lookup
     (call_meets F.slot_int_rmul (typeIs_int s 0 t) F.entry_int_rmul (F.args_int_rmul_2 _ _) (Jy 0 t a its.toArray n none sl)
      ⟨e1,rfl,⟨_,e1,rfl⟩,call_meets F.slot_tuple_mul ⟨_,e1,rfl⟩ F.entry_tuple_mul (F.args_tuple_mul_2 _ _) (Jci 0 t a its.toArray n none sl (by decide) (by rw [e0]; decide) (by rw [e0]; decide)) ⟨e1,?_⟩⟩)
    obtain ⟨s1,w1⟩:=JbD (K:=X.K) (ds:=[]) (xs:=[]) I.fresh rfl
    exact ⟨.ref s.heap.objs.size,_,I.laid (t':=s.toks) (o:=.tup []) (fun b ob q=>Heap.get?_push_of_some _ q) (Nat.le_refl _) ⟨⟨Nat.zero_le _,JaF⟩,[],.nil,IsTup.new _ _⟩,rfl,h _ _ s1 w1⟩
   ·have hk1:k = 1:=by omega
    subst hk1
    refine wpAny_binaryOp_repeat_ref (T:="tuple") (U:="int") (by decide) ⟨_,e1,rfl⟩ (fun s'=>typeIs_int s' 1 t) Js F.fills_int_mul F.slot_int_rmul JF F.slot_int_index.lookup
     (call_meets F.slot_int_rmul (typeIs_int s 1 t) F.entry_int_rmul (F.args_int_rmul_2 _ _) (Jy 1 t a its.toArray n none sl)
      ⟨e1,rfl,⟨_,e1,rfl⟩,call_meets F.slot_tuple_mul ⟨_,e1,rfl⟩ F.entry_tuple_mul (F.args_tuple_mul_2 _ _) (Jch t a its.toArray n sl) ⟨e1,?_⟩⟩)
    have:(List.replicate (1:Int).toNat ds).flatten = ds:=by simp
    rw [this] at h
    exact ⟨.ref a,H,I,rfl,Out.now h r1⟩
  ·exact h.elim
theorem eRepU (ha:PE X a (tI X call pa)) (hb:PE X b (tI X call pb)):PE X (.BinOp a .Mult b pos) (tI X call (.bi .repU pa pb)):=Jbt JeC ha hb
end
end Rd
namespace Rd
open PySem PySem.Spec PyProof.Rows L2 Pu
section
variable {X:Cx} {call:CallD} {a b c d:Expr} {pa pb pc pd:Px} {pos:Pos}
section
variable {G:Gw} {N:List Str} {nm:List (Str × NameKind)}
end
end
end Rd
namespace Rd
open PySem PySem.Spec PyProof.Rows L2 Pu
open PySem.SeqAt (EqAt)
section
variable {prog:Program} {w:World} {A:Around} {s:Shared} {x y:Addr} {ox oy:Obj} {xs ys:List Value} {is js:List Int} {n m:Nat}
end
section
variable {X:Cx}
end
section
variable {X:Cx} {call:CallD} {G:Gw} {N:List Str} {nm:List (Str × NameKind)} {a b:Expr} {pa pb:Px} {pos:Pos}
end
end Rd
namespace Rd
open PySem PySem.Spec PyProof.Rows L2 Pu
open PySem.SeqAt (EqAt)
section
variable {X:Cx} {pins:List (Addr × Obj)} {σ:L2.St} {H:Hp} {s:Shared} {a:Addr}
end
section
variable {X:Cx} {call:CallD} {G:Gw} {N:List Str} {nm:List (Str × NameKind)} {a:Expr} {pa:Px} {pos p1:Pos}
end
end Rd
namespace Rd
open PySem PySem.Spec PyProof.Rows L2 Pu
section
variable {X:Cx}
end
section
variable {X:Cx} {call:CallD} {a b:Expr} {pa pb:Px} {pos:Pos} {G:Gw} {N:List Str} {nm:List (Str × NameKind)}
end
end Rd
namespace Rd
open PySem PySem.Spec PyProof.Rows L2 Pu
def sp0 (K:PySem.W.Frag) (call:CallD) (fi:Nat):Sp:=fun vs H Q _=>∃ ds,Reps K H ds vs /\ (call fi ds).Good (fun d=>∀ v H',Same H H' -> Rep K H' d v -> Q v H') (fun _=>False)
theorem JgU {K:PySem.W.Frag} {mg:Str -> Option Value} {call:CallD} {fi:Nat} (vs:List V) (H:Hp) (Q:VK) (E:XK) (h:sp0 K call fi vs H Q E):spI K mg call fi vs H Q E:=by
 obtain ⟨ds,r,g⟩:=h
 exact ⟨ds,r,g.mono (fun _ z=>z) fun _ z=>z.elim⟩
theorem JdD {K:PySem.W.Frag} {H:Hp} {a:Addr} {ns:List Int} {call:CallD} {fi:Nat} (h:SqL K H a (ns.map V.int)) (hv:call fi [.lst (ns.map .int)] = .ok (.bl true)):sp0 K call fi [.ref a] H (fun v _=>v = .bl true) fun _ _ _=>False:=by
 have rs:∀ ns:List Int,Reps K H (ns.map .int) (ns.map V.int):=fun ns=>by
  induction ns with
  | nil=>rfl
  | cons n ns ih=>exact ⟨.int n,ns.map V.int,rfl,rfl,ih⟩
 refine ⟨[.lst (ns.map .int)],Reps.one ⟨a,_,rfl,h,rs ns⟩,?_⟩
 rw [hv]
 exact fun v H' _ r=>r
theorem noCX {P:Program} {w:World} {H:Hp} {s:Shared} {e:Value} {s':Shared} (h:CXr P w [] H s (fun _ _ _=>False) e s'):False:=by
 obtain ⟨_,_,_,_,_,_,_,_,_,_,_,_,_,z⟩:=h
 exact z
end Rd
namespace Rd
open PySem PySem.Spec PyProof.Rows L2 Pu
def scChk (N P:List Str) (sc:Scope):Bool:=(sc.kind == .function) && !sc.isCoroutine && !sc.isGenerator && decide N.Nodup && (N.take P.length == P) && P.all (fun x=>sc.names.lookup x == some .local || sc.names.lookup x == some .cell) && sc.names.all fun y=>!(y.2 == .free)
theorem Jev {N P:List Str} {sc:Scope} (h:scChk N P sc = true):FnScope N P sc:=by
 simp only [scChk,Bool.and_eq_true,beq_iff_eq,Bool.not_eq_true',decide_eq_true_eq,List.all_eq_true,Bool.or_eq_true,beq_eq_false_iff_ne] at h
 obtain ⟨⟨⟨⟨⟨⟨h1,h2⟩,h3⟩,h4⟩,h5⟩,h6⟩,h7⟩:=h
 exact ⟨h1,h2,h3,h4,h5,h6,h7⟩
structure DefIn (K:PySem.W.Frag) (n:Str) (s:Stmt) (f:Addr) (fd:FuncData):Prop where
 a:PySem.W.nsIn K mainGlobals n = some (some (.ref f))
 F:Fun K n n s f fd
theorem def_mk {K:PySem.W.Frag} {n:Str} {s:Stmt} {f:Addr} {od an:Option Addr} {sl:Array (Option Value)} {oc kV dc pm cd ct:Value} (a:PySem.W.nsIn K mainGlobals n = some (some (.ref f))) (l:K.lookup f = some ⟨oc,od,.func (PySem.W.fnOf n n (defArgs s) (defBody s) (defScope s) .none kV dc pm an cd ct),sl⟩) (c:PySem.W.codeIn K cd n = true) (k:PySem.W.keepIn K (.ref f) = true):DefIn K n s f (PySem.W.fnOf n n (defArgs s) (defBody s) (defScope s) .none kV dc pm an cd ct):=⟨a,JgF l c k⟩
structure Def1 (K:PySem.W.Frag) (mg:Str -> Option Value) (x:Str) (st:Stmt) (ps:List Str) (f:Addr) (fd:FuncData):Prop where
 F:Fun K x x st f fd
 b:Binds K fd ps []
 g:mg x = some (.ref f)
def kitB (K:PySem.W.Frag) (ts:List (Str × Value)) (cs:List (Str × Addr)):Bool:=ts.all fun t=>cs.all fun c=>PySem.W.kitOne K (.ref c.2) t.2 == some (t.1 == Str.ofString "ValueError" || c.1 == t.1)
def exkB (K:PySem.W.Frag) (C:Addr):Bool:=PySem.W.findIn K (.ref C) "__getattribute__" == some (some (.builtin "BaseException.__getattribute__")) && PySem.W.findIn K (.ref C) "__getattr__" == some none && PySem.W.mroIn K C (.type "BaseException") == some true && PySem.W.hasDictIn K C && PySem.W.findIn K (.ref C) "__class__" == some (some (.builtin "object.__class__")) && PySem.W.mroIn K C (.type "object") == some true
def exB (K:PySem.W.Frag) (cs:List (Str × Addr)):Bool:=PySem.W.specialIn K (.builtin "object.__class__") "__get__" == some (some (.builtin "getset_descriptor.__get__")) && PySem.W.takesIn K (.builtin "object.__class__") == some true && cs.all fun c=>exkB K c.2 && PySem.W.nsIn K mainGlobals c.1 == some (some (.ref c.2))
def takB (K:PySem.W.Frag) (CR:Addr) (cs:List (Str × Addr)):Bool:=cs.all fun c=>PySem.W.exmOne K (.ref c.2) (.ref CR) == some true
theorem JeU {K:PySem.W.Frag} {cs:List (Str × Addr)} (h:exB K cs = true) {c:Str × Addr} (hc:c ∈ cs):ExKit K c.2 /\ PySem.W.nsIn K mainGlobals c.1 = some (some (.ref c.2)):=by
 simp only [exB,Bool.and_eq_true,beq_iff_eq,List.all_eq_true,exkB] at h
 obtain ⟨⟨h1,h2⟩,h3⟩:=h
 obtain ⟨⟨⟨⟨⟨⟨a,b⟩,c1⟩,d⟩,e⟩,f⟩,g⟩:=h3 c hc
 exact ⟨⟨a,b,c1,d,e,h1,h2,f⟩,g⟩
theorem JK {G:Gw} {t:Str} {u:Value} {v:V} {ts:List (Str × Value)} {cs:List (Str × Addr)} (hk:kitB G.K ts cs = true) (hx:exB G.K cs = true) (rv:RelV v u) (hl:G.mg t = some u \/ (G.mg t = none /\ bootBuiltins t = some u /\ t ≠ "__name__")) (hm:(t,u) ∈ ts):IsaC G t (cs.map (·.1)):=by
 refine ⟨⟨u,v,rv,hl,fun c hc=>?_⟩⟩
 obtain ⟨x,hx1,rfl⟩:=List.mem_map.mp hc
 obtain ⟨z1,z2⟩:=JeU hx hx1
 refine ⟨x.2,z2,z1,?_⟩
 have:=List.all_eq_true.mp (List.all_eq_true.mp hk _ hm) _ hx1
 exact beq_iff_eq.mp this
theorem Jey {G:Gw} {rn:Str} {CR:Addr} {cs:List (Str × Addr)} {h:Heap} (X:G.K.In h) (N:h.Ns mainGlobals G.mg) (hx:exB G.K cs = true) (ht:takB G.K CR cs = true) (hr:G.mg rn = some (.ref CR)):Takes G rn (cs.map (·.1)):=by
 refine ⟨⟨CR,hr,fun c hc=>?_⟩⟩
 obtain ⟨x,hx1,rfl⟩:=List.mem_map.mp hc
 obtain ⟨z1,z2⟩:=JeU hx hx1
 exact ⟨x.2,z2,PySem.W.mg_of X N z2,beq_iff_eq.mp (List.all_eq_true.mp ht _ hx1)⟩
abbrev DefE:=Str × Stmt × List Str
section
variable {P:Program} {w:World} {K:PySem.W.Frag} {mg:Str -> Option Value} {base:Heap} {defs:List DefD}
def HasD (K:PySem.W.Frag) (mg:Str -> Option Value):List DefE -> Prop
 | []=>True
 | e :: T=>(∃ f g,Def1 K mg e.1 e.2.1 e.2.2 f g) /\ HasD K mg T
def OkD (P:Program) (w:World) (K:PySem.W.Frag) (mg:Str -> Option Value) (base:Heap) (defs:List DefD) (k:Nat):Nat -> List DefE -> Prop
 | _,[]=>True
 | i,e :: T=>(∀ f g,Def1 K mg e.1 e.2.1 e.2.2 f g -> FnOk P w K mg base (CXr P w) (3 * k) f g e.2.2 (spI K mg (runD defs k) i)) /\ OkD P w K mg base defs k (i + 1) T
theorem JbS:∀ (T:List DefE) (i:Nat),OkD P w K mg base defs 0 i T
 | [],_=>trivial
 | e :: T,i=>⟨fun _ _ _=>Jfr,JbS T (i + 1)⟩
theorem JcP {k:Nat}:∀ {T:List DefE} {i j:Nat} {e:DefE},OkD P w K mg base defs k i T -> T[j]? = some e -> ∀ f g,Def1 K mg e.1 e.2.1 e.2.2 f g -> FnOk P w K mg base (CXr P w) (3 * k) f g e.2.2 (spI K mg (runD defs k) (i + j))
 | [],_,_,_,_,h=>by simp at h
 | d :: T,i,0,e,ok,h=>by
  simp only [List.getElem?_cons_zero,Option.some.injEq] at h
  subst h
  exact ok.1
 | d :: T,i,j + 1,e,ok,h=>by
  have:=JcP (j:=j) ok.2 (by simpa using h)
  rw [show i + 1 + j = i + (j + 1) by omega] at this
  exact this
theorem JaO:∀ {T:List DefE} {j:Nat} {e:DefE},HasD K mg T -> T[j]? = some e -> ∃ f g,Def1 K mg e.1 e.2.1 e.2.2 f g
 | [],_,_,_,h=>by simp at h
 | d :: T,0,e,ok,h=>by
  simp only [List.getElem?_cons_zero,Option.some.injEq] at h
  subst h
  exact ok.1
 | d :: T,j + 1,e,ok,h=>JaO ok.2 (by simpa using h)
theorem Jdf {T:List DefE} {k:Nat} {A:Around} (hT:HasD K mg T) (ok:OkD P w K mg base defs k 0 T) (hr:Room (3 * k + 2) A) (j:Nat) {e:DefE} (h:T[j]? = some e):Callee ⟨P,w,K,mg,base,A⟩ (runD defs k) j e.1:=by
 obtain ⟨f,g,D⟩:=JaO hT h
 have F:=JcP ok h f g D
 rw [Nat.zero_add] at F
 exact ⟨⟨3 * k,f,g,_,F,hr.in1.in1,D.g,D.F.kp,D.b⟩⟩
theorem fo {Ev:Gw -> CallD -> Prop} {N ps:List Str} {M:List Nat} {x:Str} {st:Stmt} {i k:Nat} {d:DefD} {b:Sx} (E:∀ A,Room (3 * k + 2) A -> Ev ⟨P,w,K,mg,base,A⟩ (runD defs k)) (dx:∀ {X:Cx} {G:Gw} {call:CallD} {H0:Hp},Ev G call -> Ctx X G N (defScope st).names -> HX X (defScope st).names -> PSs X (defBody st) (tS X call M H0 b))
  (hd:defs[i]? = some d:=by rfl) (hb:d.body = b:=by rfl) (h:(scChk N ps (defScope st) && d.slots == N.length && d.params == ps.length && M.all (fun i=>decide (ps.length <= i)) && decide (ps.length <= N.length)) = true:=by decide +kernel) :
  ∀ f g,Def1 K mg x st ps f g -> FnOk P w K mg base (CXr P w) (3 * (k + 1)) f g ps (spI K mg (runD defs (k + 1)) i):=fun f g D=>by
 simp only [Bool.and_eq_true,beq_iff_eq,List.all_eq_true,decide_eq_true_eq] at h
 obtain ⟨⟨⟨⟨h1,h2⟩,h3⟩,h4⟩,h5⟩:=h
 subst hb
 exact fn_ok (j:=3 * k + 2) D.F (Jev h1) hd h2 h3 h4 h5 fun X A H0 C hr hx=>dx (E A hr) C hx
def DsIn (K:PySem.W.Frag):List DefE -> Prop
 | []=>True
 | e :: T=>(∃ f g,DefIn K e.1 e.2.1 f g) /\ DsIn K T
abbrev BsE (e:DefE):Prop:=∀ (kV doc pm:Value) (an:Option Addr) (cdv ct:Value) (us:List Value),us.length = e.2.2.length -> bindArgs (PySem.W.fnOf e.1 e.1 (defArgs e.2.1) (defBody e.2.1) (defScope e.2.1) .none kV doc pm an cdv ct) ⟨us,[]⟩ = pure (e.2.2.zip us)
def BsOk:List DefE -> Prop
 | []=>True
 | e :: T=>BsE e /\ BsOk T
theorem Jbx {h:Heap} (X:K.In h) (G:h.Ns mainGlobals mg):∀ {T:List DefE},DsIn K T -> BsOk T -> HasD K mg T
 | [],_,_=>trivial
 | e :: T,d,b=>⟨let ⟨f,g,D⟩:=d.1; ⟨f,g,D.F,D.F.binds b.1,PySem.W.mg_of X G D.a⟩,Jbx X G d.2 b.2⟩
def BlIn (K:PySem.W.Frag):List Str -> Prop
 | []=>True
 | x :: T=>PySem.W.nsIn K mainGlobals x = some none /\ BlIn K T
def BlN (mg:Str -> Option Value):List Str -> Prop
 | []=>True
 | x :: T=>mg x = none /\ BlN mg T
theorem Jfu {h:Heap} (X:K.In h) (G:h.Ns mainGlobals mg):∀ {T:List Str},BlIn K T -> BlN mg T
 | [],_=>trivial
 | x :: T,d=>⟨PySem.W.mg_none_of X G d.1,Jfu X G d.2⟩
theorem JI:∀ {T:List Str} (j:Nat) {x:Str},BlN mg T -> T[j]? = some x -> mg x = none
 | [],_,_,_,h=>by simp at h
 | d :: T,0,e,ok,h=>by
  simp only [List.getElem?_cons_zero,Option.some.injEq] at h
  subst h
  exact ok.1
 | d :: T,j + 1,e,ok,h=>JI j ok.2 (by simpa using h)
end
end Rd
namespace Rd
open PySem PySem.Spec PyProof.Rows L2 Pu PySem.W
structure LamB (mg:Str -> Option Value) (base:Heap) (c P:Addr):Prop where
 code:CodeHd base c P
 bm:∃ bm ob,mg "__builtins__" = some (.ref bm) /\ bm ≠ builtinsNs /\ base.get? bm = some ob /\ ob.cls = .type "module" /\ ob.dict = some builtinsNs /\ ob.data = .plain
def LamAt (H:Hp) (f:Addr) (params:Arguments) (body:Expr) (scope:Scope) (q:Str) (clos:List (Str × Addr)):Prop:=
 ∃ (pm:Value) (c:Addr) (ctv:Value) (oc:Obj) (vs:Array Value) (t:Tok),H f = some (.frz (kla_obj "<lambda>" q params body scope clos pm c ctv) (.ext fun _=>True)) /\ H c = some (.frz oc (.ext fun _=>True)) /\ oc.data = .fields vs /\ vs[1]? = some (.str q t)
theorem Jcy {pos:Pos} {a b:Int} {c cv:Value} (l:List Value) (h:TriplesOk l) (e:codeAmong pos (l ++ [rawInt a,rawInt b,c]) = some cv):codeAmong pos l = some cv \/ cv = c:=by
 fun_induction TriplesOk l with
 | case1=>
  simp only [List.nil_append,codeAmong,rawInt] at e
  split at e
  ·cases e; exact .inr rfl
  ·cases e
 | case2 a' t b' u x rest ih=>
  simp only [List.cons_append,codeAmong] at e ⊢
  split at e
  ·rename_i hc; rw [if_pos hc]; exact .inl e
  ·rename_i hc; rw [if_neg hc]; exact ih h e
 | case3 l h1 h2=>exact h.elim
section
variable {X:Cx} {pins:List (Addr × Obj)} {σ:L2.St} {H:Hp} {s:Shared}
theorem Inv.grow {c' P:Addr} {ps qs:Array Value} {q:Str} {qt t:Tok} {pos:Pos} {h':Heap} {tk:Nat} {oc:Obj} {vs:Array Value} (I:L2.Inv X pins σ H s) (hP:H P = some (.tbl ps)) (hq:ps[0]? = some (.str q qt)) (ht:TriplesOk qs.toList)
  (hc:∀ pos cv,codeAmong pos qs.toList = some cv -> ∃ (c:Addr) (oc:Obj) (vs:Array Value) (t:Tok),cv = .ref c /\ H c = some (.frz oc (.ext fun _=>True)) /\ oc.data = .fields vs /\ vs[1]? = some (.str q t))
  (hx:Heap.ExtBut P s.heap h') (hge:s.heap.objs.size <= c') (hoc:h'.get? c' = some oc) (hd:oc.data = .fields vs) (hv:vs[1]? = some (.str q t)) (htb:h'.get? P = some (tabObj (qs ++ #[rawInt pos.line,rawInt pos.col,.ref c']))) :
  L2.Inv X pins σ (upd H c' (.frz oc (.ext fun _=>True))) { s with heap:=h',toks:=tk }:=by
 have hn:H c' = none:=I.hok.fresh hge
 have nP:∀ b,H b = none -> b ≠ P:=fun b e z=>by rw [z,hP] at e; cases e
 have up:∀ {b u},H b = some u -> upd H c' (.frz oc (.ext fun _=>True)) b = some u:=fun e=>by rw [Jh (Je e hn)]; exact e
 refine I.un ⟨fun b o e n _ _=>hx b o (nP b n) e,fun b o e n _ _=>⟨o.slots,hx b o (nP b n) e⟩,fun b o e n _=>?_,fun b o e _=>?_,fun b xs e=>up e,fun b o u e=>up e,fun b ps' e=>⟨#[],by rw [up e]; simp⟩⟩ fun b u e=>?_
 ·rw [Jh (Nat.ne_of_lt (Nat.lt_of_lt_of_le (Heap.lt_size e) hge))]; exact n
 ·by_cases z:b = P
  ·exact ⟨_,z ▸ htb⟩
  ·exact ⟨o,hx b o z e⟩
 ·by_cases z:b = c'
  ·subst z
   rw [Jm] at e; cases e
   exact ⟨hoc,trivial,⟨oc,hoc⟩,fun _ _ _ _=>trivial⟩
  ·rw [Jh z] at e
   by_cases zp:b = P
   ·subst zp
    rw [hP] at e; cases e
    refine ⟨q,qt,_,hq,htb,?_,fun pos' cv w=>?_⟩
    ·rw [Array.toList_append]; exact TriplesOk_snoc _ _ _ _ ht
    ·rw [Array.toList_append] at w
     rcases Jcy _ ht w with w | w
     ·obtain ⟨c,oc',vs',t',e1,e2,e3⟩:=hc pos' cv w
      exact ⟨c,oc',vs',t',e1,up e2,e3⟩
     ·exact ⟨c',oc,vs,t,w,Jm,hd,hv⟩
   ·refine (I.hok b u e).stay (fun c v hcc r=>hx c v ?_ r) (fun c r=>up r) (fun c xs r=>up r) fun c o' u' r=>up r
    rcases hcc with rfl | hcc
    ·exact zp
    ·intro z2; rw [z2,hP] at hcc; cases hcc
theorem JeH {M:Model} {A:Around} {E:Value -> Shared -> Prop} {Q:Value -> Shared -> Prop} {c P:Addr} {ps:Array Value} {q:Str} {qt:Tok} {params:Arguments} {body:Expr} {scope:Scope} {clos:List (Str × Addr)} {pos:Pos} {fl:Nat}
  (I:L2.Inv X pins σ H s) (B:LamB X.mg X.base c P) (hcode:X.env.code = .ref c) (hP:H P = some (.tbl ps)) (hq:ps[0]? = some (.str q qt)) (hcl:closureFor scope X.env = pure clos)
  (h:∀ f s' H',L2.Inv X pins σ H' s' -> Same H H' -> LamAt H' f params body scope q clos -> Q (.ref f) s') :
  wpAny M A (makeFunction "<lambda>" q params (.expr body) scope X.env [] [] [] pos fl) Q E s:=by
 have hob:ObjOk X.prog X.w H s.heap P (.tbl ps):=I.hok P _ hP
 obtain ⟨q',qt',qs,e0,eP,tr,cs⟩:=hob
 rw [hq] at e0; cases e0
 have hg:=I.ok.mod.glob.keeps I.bk
 have hgP:mainGlobals ≠ P:=fun z=>by
  obtain ⟨o,es,ep,e,_⟩:=I.ok.mod.glob
  have:=(I.bs _ _ e).2
  rw [z,hP] at this; cases this
 obtain ⟨bm,ob,b1,b2,b3,b4,b5,b6⟩:=B.bm
 have hbP:bm ≠ P:=fun z=>by
  have:=(I.bs _ _ b3).2
  rw [z,hP] at this; cases this
 have hbG:bm ≠ mainGlobals:=fun z=>by
  obtain ⟨o,es,ep,e,hd,_⟩:=I.ok.mod.glob
  rw [z,e] at b3; cases b3; rw [hd] at b6; cases b6
 have hb:s.heap.BuiltinsAt X.mg P:=⟨bm,ob,b1,b2,hbG,hbP,I.bk _ _ b3,b4,b5,b6⟩
 have lay:∀ {H1:Hp} {s1:Shared} {o:Obj} {tk:Nat} {ho:o.isFreed = false},L2.Inv X pins σ H1 s1 -> L2.Inv X pins σ (upd H1 s1.heap.objs.size (.frz o (.ext fun _=>True))) { s1 with heap:=s1.heap.push o,toks:=tk } /\ Same H1 (upd H1 s1.heap.objs.size (.frz o (.ext fun _=>True))):=fun {H1 s1 o tk ho} J=>
  ⟨J.laid (fun b u e=>Heap.get?_push_of_some _ e) (Nat.le_refl _) ⟨Heap.get?_push_size _ ho,trivial,⟨_,Heap.get?_push_size _ ho⟩,fun _ _ _ _=>trivial⟩,fun b u e=>by rw [Jh (Je e (J.hok.fresh (Nat.le_refl _)))]; exact e⟩
 cases hf:codeAmong pos qs.toList with
 | none=>
  refine kla_makeFunction (mg:=X.mg) hcl I.ok.glob hg hcode (B.code.keeps I.bk) eP tr hf hgP hb fun c' ctv h' tk hx hge hlt hrec htb=>?_
  obtain ⟨c2,oc,vs,t,e2,hoc,hd,hv⟩:=hrec
  cases e2
  have I1:=Inv.grow (tk:=tk) I hP hq tr cs hx hge hoc hd hv htb
  have hn:H c' = none:=I.hok.fresh hge
  obtain ⟨I2,s2⟩:=lay (o:=kla_obj "<lambda>" q params body scope clos ((X.mg "__name__").getD .none) c' ctv) (tk:=tk) (ho:=rfl) I1
  refine h _ _ _ I2 (Same.trans (fun b u e=>by rw [Jh (Je e hn)]; exact e) s2) ⟨_,_,_,oc,vs,t,Jm,s2 _ _ Jm,hd,hv⟩
 | some cv=>
  obtain ⟨c',oc,vs,t,rfl,e2,hd,hv⟩:=cs pos cv hf
  refine kla_makeFunctionHit (mg:=X.mg) hcl I.ok.glob hg hcode (B.code.keeps I.bk) eP tr hf hb fun ctv h' tk hk hsz=>?_
  have I1:L2.Inv X pins σ H { s with heap:=h',toks:=tk }:=I.kept hk
  obtain ⟨I2,s2⟩:=lay (o:=kla_obj "<lambda>" q params body scope clos ((X.mg "__name__").getD .none) c' ctv) (tk:=tk) (ho:=rfl) I1
  refine h _ _ _ I2 s2 ⟨_,_,_,oc,vs,t,Jm,s2 _ _ e2,hd,hv⟩
end
section
variable {P:Program} {w:World} {K:PySem.W.Frag} {mg:Str -> Option Value} {base:Heap} {A:Around} {outer:List Env} {s:Shared} {H:Hp} {Q:VK} {E:XK} {N:List Str} {f:Addr} {params:Arguments} {body:Expr} {scope:Scope} {q:Str} {clos:List (Str × Addr)} {σ2:L2.St} {call:CallD} {p:Px} {env:Fm}
theorem Jfv (e0:Env0 P w K mg base A outer s H) (hr:Room 1 A) (hl:LamAt H f params body scope q clos) (hσ:σ2.length = N.length) (hk:scope.kind = .function) (hco:scope.isCoroutine = false) (hgen:scope.isGenerator = false)
  (hbind:∀ pm c ctv,bindArgs (kla_fn "<lambda>" q params body scope clos pm (.ref c) ctv) ⟨[],[]⟩ = pure []) (hcell:∀ y ∈ scope.names,y.2 ≠ .cell)
  (inj:∀ x y c,clos.lookup x = some c -> clos.lookup y = some c -> x = y) (has:∀ x,scope.names.lookup x = some .free -> ∃ c,clos.lookup x = some c) (cel:∀ x c,clos.lookup x = some c -> (∃ v,s.heap.IsCell c v) /\ H c = none)
  (loc:∀ (i:Nat) (x:Str) (v:V),N[i]? = some x -> σ2[i]? = some (some v) -> ∃ u c,RelV v u /\ scope.names.lookup x = some .free /\ clos.lookup x = some c /\ s.heap.IsCell c (some u))
  (hbody:∀ c':Addr,PE (cxE (CXr P w) P w K mg base N (envX q scope s.heap.objs.size f (.ref c') clos) (fun _=>false) true A outer s H E) body (tI (cxE (CXr P w) P w K mg base N (envX q scope s.heap.objs.size f (.ref c') clos) (fun _=>false) true A outer s H E) call p))
  (rd:ReadOk K H σ2 env) (g:(evD call p env).Good (fun d=>∀ v H',Same H H' -> Rep K H' d v -> Q v H') (fun c=>∀ C H',mg c = some (.ref C) -> Same H H' -> E (.ref C) none H')) :
  codeAny (model P w) A (.call (.ref f) ⟨[],[]⟩) (CR (CXr P w) outer P w H s Q E) s:=by
 obtain ⟨pm,c',ctv,oc,vs,t,ho,hc,hd,hv⟩:=hl
 obtain ⟨hoc,_⟩:=e0.hok c' _ hc
 obtain ⟨ho,_⟩:=e0.hok f _ ho
 have lim:s.heap.NoLimit:=e0.mod.nolimit.keeps fun b o e=>(e0.bs b o e).1
 refine kla_callFunE hr.depth ho rfl hco hgen rfl ⟨c',oc,vs,t,rfl,hoc,hd,hv⟩ ?_
 rw [hbind]
 refine wpAny_pure (wpAny_newFunctionEnv hcell (by intro x hx; simp at hx) (fun h1 hns hsb=>⟨lim.fresh _ hsb,?_⟩) hk)
 show codeAny _ _ (.expr body (envX q scope s.heap.objs.size f (.ref c') clos)) _ _
 refine kla_codeExpr ?_
 have k1:∀ b o,s.heap.get? b = some o -> h1.get? b = some o:=fun b o e=>hsb.extBut b o (Nat.ne_of_lt (Heap.lt_size e)) (Heap.get?_push_of_some _ e)
 have kc:∀ c v,s.heap.IsCell c v -> h1.IsCell c v:=fun c v ⟨o,e,d⟩=>⟨o,k1 _ _ e,d⟩
 have I:L2.Inv (cxE (CXr P w) P w K mg base N (envX q scope s.heap.objs.size f (.ref c') clos) (fun _=>false) true A outer s H E) [] σ2 H { s with heap:=h1,toks:=s.toks + ([]:List (Str × Value)).length }:=by
  have noA:∀ b:Addr,b ∉ (cxE (CXr P w) P w K mg base N (envX q scope s.heap.objs.size f (.ref c') clos) (fun _=>false) true A outer s H E).ex:=fun b z=>absurd (show b ∈ ([]:List Addr) from z) (by simp)
  refine ⟨⟨e0.mod,hk,rfl,rfl,Nat.le_refl _,inj,fun y hy=>?_,fun y c z=>(by cases z),fun _=>hr.hd,Around.frames_deeper e0.frames,.inr ⟨rfl,rfl⟩,fun b z=>absurd z (noA b),e0.bs,e0.bsz,fun b _ _=>noA b,fun b z=>absurd z (noA b),e0.funs,e0.frf⟩,
   rfl,e0.bare,Un.kept k1,⟨_,hns,fun i y v h1 h2 h3=>?_⟩,fun y c h=>?_,e0.hok.fresh (Nat.le_refl _),fun y c h=>(cel y c h).2,fun p hp=>absurd (show p ∈ ([]:List (Addr × Obj)) from hp) (by simp),e0.hok.kept k1,hσ⟩
  ·have hy:scope.names.lookup y = some .cell \/ scope.names.lookup y = some .free:=hy
   rcases hy with hy | hy
   ·exact absurd rfl (hcell _ (PySem.mem_of_lookup hy))
   ·exact has y hy
  ·obtain ⟨u,c,r,g1,g2,g3⟩:=loc i y v h1 h2
   exact ⟨u,r,.inr ⟨.inr g1,c,g2,kc _ _ g3⟩⟩
  ·obtain ⟨⟨v,z⟩,_⟩:=cel y c h
   exact ⟨v,kc _ _ z⟩
 refine wpAny_mono (hbody c' [] _ σ2 H Q I ⟨env,rd,g.mono (fun d z v H' s1 r=>z v H' s1 r) fun c z C H' hm s1 a s' F=>Jax rfl F (z C H' hm s1)⟩) (fun u s' ⟨v,H',J,rv,q⟩=>?_) fun e s' z=>z
 exact ⟨v,H',J.os,J.bare,J.base,J.hok,rv,q⟩
end
end Rd
namespace Rd
open PySem PySem.Spec PyProof.Rows L2 Pu PySem.W
structure CtxN (X:Cx) (G:Gw) (N:List Str) (nm:List (Str × NameKind)):Prop where
 g:gwOf X = G
 hN:X.N = N
 nd:N.Nodup
 vis:∀ x,visB nm x = true -> Vis X.env.scope x
 glo:∀ x,gloB nm x = true -> Gl X x
 sto:∀ x,locB nm x = true -> Loc X.env.scope x /\ (X.fn x = true \/ X.env.scope.names.lookup x = some .local)
 un:X.A.units + 64 < cLine
section
variable {X:Cx} {call:CallD} {G:Gw} {N:List Str} {nm:List (Str × NameKind)} {e a b:Expr} {p pa pb:Px} {pos p1 p2 px apos:Pos} {x t:Str} {cs:List Str} {M:List Nat} {H0:Hp} {i:Nat}
theorem CtxN.K (C:CtxN X G N nm):X.K = G.K:=by rw [<- C.g]; rfl
theorem CtxN.mg (C:CtxN X G N nm):X.mg = G.mg:=by rw [<- C.g]; rfl
theorem Ctx.n (C:Ctx X G N nm):CtxN X G N nm:=⟨C.g,C.hN,C.nd,C.vis,C.glo,C.sto,C.un⟩
theorem vVN (C:CtxN X G N nm) {i:Nat} (h:chkV N nm i x = true):PE X (.Name x pos) (tI X call (.var i)):=by
 simp only [chkV,Bool.and_eq_true,beq_iff_eq] at h
 obtain ⟨d1,d2⟩:=plainN.d h.2
 exact JeO (by rw [C.hN]; exact h.1.1) (C.vis x h.1.2) d1 d2
theorem tNeN (C:CtxN X G N nm) (ha:PE X a (tI X call pa)) (hb:PE X b (tI X call pb)):PT X (.Compare a [.NotEq] [b] pos) (tT X call (.bi .ne pa pb)):=Jar (Jdq C.un) ha hb (Jan _)
theorem Jfx (C:CtxN X G N nm) (ha:PE X a (tI X call pa)) (hb:PE X b (tI X call pb)) (hn:noEx pb = true) (hl:(apos.endLine == pos.line) = true) (hbase:attributeBase a "count" X.env (eval a X.env) = eval a X.env:=by rfl) (hs:starEach [b] X.env = (false,eval b X.env) :: starEach [] X.env:=by rfl) :
  PE X (.Call (.Attribute a "count" apos) [b] [] pos) (tI X call (.bi .count pa pb)):=JbL F.slot_list_count F.type_list_count (fun dx dy h=>by cases dx <;> first | rfl | exact absurd rfl (h _)) (Jec C.un) ha hb hn hl hbase hs
theorem Jfh (C:CtxN X G N nm) (ha:PE X a (tI X call pa)) (hb:PE X b (tI X call pb)) (hn:noEx pb = true) (hl:(apos.endLine == pos.line) = true) (hbase:attributeBase a "index" X.env (eval a X.env) = eval a X.env:=by rfl) (hs:starEach [b] X.env = (false,eval b X.env) :: starEach [] X.env:=by rfl) :
  PE X (.Call (.Attribute a "index" apos) [b] [] pos) (tI X call (.bi .index pa pb)):=JbL F.slot_list_index F.type_list_index (fun dx dy h=>by cases dx <;> first | rfl | exact absurd rfl (h _)) (Jex C.un) ha hb hn hl hbase hs
theorem Jeh (C:CtxN X G N nm) (h:chkA N nm M i x = true) (he:PE X e (tI X call p)) (hsp:sepP M p = true:=by rfl) (hs:swapsWith e (some (.Name x px)) pos.line X.env = pure false:=by rfl):PS X (.Assign [.Name x px] e pos) (tS X call M H0 (.set false i p)):=by
 obtain ⟨h1,h2,h3⟩:=chkA.at h
 obtain ⟨g1,g2⟩:=C.sto x h2
 exact PS.weak (JcI (by rw [C.hN]; exact C.nd) (by rw [C.hN]; exact h1) g1 (Jdi he) hs g2) fun D σ H h=>JcY h3 hsp h
theorem JaB (C:CtxN X G N nm) (hm:G.mg "isinstance" = none) (hi:IsaC G t cs) (ha:PE X a (tI X call pa)) (hg:gloB nm "isinstance" = true) (hgt:chkG nm t = true)
  (hs:starEach [a,.Name t p2] X.env = (false,eval a X.env) :: starEach [.Name t p2] X.env:=by rfl):PE X (.Call (.Name "isinstance" p1) [a,.Name t p2] [] pos) (tI X call (.un (.isC cs t) pa)):=by
 obtain ⟨u,v,rv,hl,hc⟩:=hi.ex
 simp only [chkG,Bool.and_eq_true] at hgt
 have hn:PE X (.Name t p2) (tC v):=by
  rcases hl with z | ⟨z1,z2,z3⟩
  ·exact JdK (C.glo t hgt.1) (by rw [C.mg]; exact z) rv (plainN.d hgt.2).1
  ·exact JdH (C.glo t hgt.1) (by rw [C.mg]; exact z1) z2 rv z3 (plainN.d hgt.2).1
 refine PE.weak (JaY (Jhb (cs:=cs) (t:=t) rv (by rw [C.K]; exact hc)) (C.glo _ hg) (by rw [C.mg]; exact hm) PyProof.Rows.boot_isinstance (Jt ha (Jt hn JJ rfl) hs) (by decide +kernel) (by decide +kernel) hs rfl) fun σ H Q ⟨env,r,h⟩=>?_
 simp only [evD] at h
 refine ⟨env,r,(Rs.good_bind.mp h).imp fun d hd v H' s rv=>?_⟩
 exact ⟨v,d,rfl,rv,hd.mono (fun _ o=>o.mono s) fun _ q=>q.mono s⟩
end
structure FnN (P:Program) (w:World) (K:PySem.W.Frag) (mg:Str -> Option Value) (base:Heap) (f:Addr) (fd:FuncData) (ps:List Str) (sp:Sp):Prop where
 len:∀ vs H Q E,sp vs H Q E -> vs.length = ps.length
 run:∀ (A:Around) (outer:List Env) (s:Shared) (H:Hp) (args:Args) (us:List Value) (vs:List V) (Q:VK) (E:XK),A.depth + 5 < recursionLimit -> A.units + 100 < cLine -> Env0 P w K mg base A outer s H -> BindsTo s fd args (ps.zip us) -> Vals vs us -> sp vs H Q E ->
  codeAny (model P w) A (.call (.ref f) args) (CR (CXr P w) outer P w H s Q E) s
section
variable {P:Program} {w:World} {K:PySem.W.Frag} {mg:Str -> Option Value} {base:Heap} {defs:List DefD} {fi k:Nat} {d:DefD} {A:Around} {outer:List Env} {s s1:Shared} {H:Hp} {E:XK}
theorem JcC {N ps:List Str} {qual:Str} {scope:Scope} {f:Addr} {cd:Value} {us:List Value} {vs:List V} (S:FnScope N ps scope) (e0:Env0 P w K mg base A outer s H) (hl:vs.length = ps.length) (r:Vals vs us)
  (x:InCallC s s.heap.objs.size (bindL (envOfC qual scope s.heap.objs.size f cd).kindOf (ps.zip us) fun _=>none) (cellsFrom (s.heap.objs.size + 1) scope.names []) (bindC (envOfC qual scope s.heap.objs.size f cd).kindOf (ps.zip us) fun _=>none) s1) :
  L2.Inv (cxE (CXr P w) P w K mg base N (envOfC qual scope s.heap.objs.size f cd) (fun _=>true) false A outer s H E) [] (start N vs) H s1:=by
 have e1:Env0 P w K mg base { A with handled:=none } outer s H:=⟨e0.frames,e0.mod,e0.bs,e0.bsz,e0.funs,e0.frf,e0.hok,e0.bare⟩
 have I:=Jag (CX:=CXr P w) (E:=E) S rfl e1 hl r x
 exact ⟨⟨I.ok.mod,I.ok.kind,I.ok.glob,I.ok.blt,I.ok.above,I.ok.inj,I.ok.has,I.ok.cab,(fun z=>by cases z),Around.frames_deeper e0.frames,I.ok.stk,I.ok.exf,I.ok.bs,I.ok.bsz,I.ok.noex,I.ok.exfs,I.ok.funs,I.ok.frf⟩,I.os,I.bare,I.base,I.loc,I.cell,I.free,I.freeC,I.pin,I.hok,I.len⟩
theorem JhD {x qual:Str} {st:Stmt} {f:Addr} {fd:FuncData} {N ps:List Str} (F:Fun K x qual st f fd) (S:FnScope N ps (defScope st)) (hd:defs[fi]? = some d) (hs:d.slots = N.length) (hp:d.params = ps.length) (hpN:ps.length <= N.length)
  (hbody:∀ (X:Cx) (A:Around) (H0:Hp),CtxN X ⟨P,w,K,mg,base,A⟩ N (defScope st).names -> PSs X (defBody st) (tS X (runD defs k) [] H0 d.body)):FnN P w K mg base f fd ps (spI K mg (runD defs (k + 1)) fi):=by
 have unf:∀ ds,runD defs (k + 1) fi ds = if ds.length = d.params then answerD (exD (runD defs k) d.body (startD d.slots ds)) else .stuck:=fun ds=>by
  simp only [runD,hd]
 obtain ⟨oc,od,kV,doc,pm,an,cdv,ct,osl,rfl,lk,hcd⟩:=F.ex
 have len:∀ vs H Q E,spI K mg (runD defs (k + 1)) fi vs H Q E -> vs.length = ps.length:=fun vs H Q E h=>by
  obtain ⟨ds,r,g⟩:=h
  rw [unf] at g
  split at g
  ·rename_i q
   rw [r.length,q,hp]
  ·exact g.elim
 refine ⟨len,fun A outer s H args us vs Q E h1 h2 e0 hb r hsp=>?_⟩
 have hl:=len _ _ _ _ hsp
 have KX:K.In s.heap:=e0.mod.kin.keeps fun b o e=>(e0.bs b o e).1
 have lim:s.heap.NoLimit:=e0.mod.nolimit.keeps fun b o e=>(e0.bs b o e).1
 have hkind:∀ y ∈ ps.zip us,(defScope st).names.lookup y.1 = some .local \/ ((defScope st).names.lookup y.1 = some .cell /\ ((cellsFrom (s.heap.objs.size + 1) (defScope st).names []).lookup y.1).isSome = true):=fun ⟨n,v⟩ hy=>by
  rcases S.par n (List.of_mem_zip hy).1 with q | q
  ·exact .inl q
  ·exact .inr ⟨q,PySem.W.cellsFrom_some _ _ _ (.inl q)⟩
 refine codeAny_call_function (by omega) (KX _ _ lk) rfl S.co S.gen rfl (PySem.W.codeRec_of KX hcd) (hb _ _ _ _ ?_)
 refine wpAny_newFunctionEnv_cells S.kind hkind fun env he s1 x=>?_
 subst he
 refine ⟨lim.keeps x.toInCall.keep,codeAny_func ?_⟩
 have I:L2.Inv (cxE (CXr P w) P w K mg base N (envOfC qual (defScope st) s.heap.objs.size f cdv) (fun _=>true) false A outer s H E) [] (start N vs) H s1:=JcC S e0 hl r x
 obtain ⟨ds,rs,g⟩:=hsp
 rw [unf] at g
 split at g
 ·rename_i q
  have C:CtxN (cxE (CXr P w) P w K mg base N (envOfC qual (defScope st) s.heap.objs.size f cdv) (fun _=>true) false A outer s H E) ⟨P,w,K,mg,base,A.deeper (envOfC qual (defScope st) s.heap.objs.size f cdv)⟩ N (defScope st).names:={
   g:=rfl
   hN:=rfl
   nd:=S.nd
   vis:=fun y hy=>by
    show Vis (defScope st) y
    unfold visB at hy
    split at hy
    ·rename_i z; exact .inl z
    ·rename_i z; exact .inr (.inl z)
    ·rename_i z; exact .inr (.inr z)
    ·cases hy
   glo:=fun y hy=>by
    show (defScope st).names.lookup y = some .globalImplicit
    unfold gloB at hy
    split at hy
    ·rename_i z; exact z
    ·cases hy
   sto:=fun y hy=>by
    show Loc (defScope st) y /\ (true = true \/ _)
    unfold locB at hy
    split at hy
    ·rename_i z; exact ⟨.inl z,.inl rfl⟩
    ·rename_i z; exact ⟨.inr z,.inl rfl⟩
    ·cases hy
   un:=by show A.units + 3 + 64 < _; omega }
  refine wpAny_mono (hbody _ _ H C [] s1 (start N vs) H { nx:=fun _ H'=>Q .non H',rt:=Q } I ⟨startD d.slots ds,Jay hs (by omega) (by simp) rs,?_⟩) (fun fl s' hs=>?_) fun e s' hs=>hs
  ·cases q2:exD (runD defs k) d.body (startD d.slots ds) with
   | ok r2=>
    rw [q2] at g
    obtain ⟨fl,env2⟩:=r2
    cases fl with
    | nx=>exact fun σ' H' e' _=>g .non H' e'.same rfl
    | rt dd=>exact fun v H' s' r'=>g v H' s' r'
    | bk=>exact g.elim
    | ct=>exact g.elim
   | ex c=>
    rw [q2] at g
    exact fun C2 H2 hm s2 a s' F=>Jax rfl F (g C2 H2 hm s2)
   | stuck=>rw [q2] at g; exact g.elim
  ·have fin:∀ {σ':L2.St} {H':Hp} {v:V} {u:Value},L2.Inv (cxE (CXr P w) P w K mg base N (envOfC qual (defScope st) s.heap.objs.size f cdv) (fun _=>true) false A outer s H E) [] σ' H' s' -> RelV v u -> Q v H' -> CE outer P w H s Q u s':=
    fun {σ' H' v u} J rv q=>⟨v,H',J.os,J.bare,J.base,J.hok,rv,q⟩
   cases fl with
   | ret u=>
    obtain ⟨v,σ',H',J,rv,q⟩:=hs
    exact fin J rv q
   | next=>
    obtain ⟨σ',H',J,q⟩:=hs
    exact fin (v:=V.non) (u:=Value.none) J rfl q
   | brk=>
    obtain ⟨_,_,_,q⟩:=hs
    exact False.elim q
   | cont=>
    obtain ⟨_,_,_,q⟩:=hs
    exact False.elim q
 ·exact g.elim
theorem JeL {f:Addr} {fd:FuncData} {ps:List Str}:FnN P w K mg base f fd ps (spI K mg (runD defs 0) fi):=
 ⟨fun vs H Q E ⟨_,_,h⟩=>h.elim,fun A outer s H args us vs Q E _ _ _ _ _ ⟨_,_,h⟩=>h.elim⟩
end
end Rd
namespace Rd
open PySem PySem.Spec PyProof.Rows L2 Pu PySem.W
section
variable {X:Cx} {pins:List (Addr × Obj)} {H:Hp} {s:Shared} {E:Value -> Shared -> Prop} {C CRa a:Addr} {rn en:Str} {np hp p2:Pos} {je:Nat} {D:Ends} {ex:Expr} {te:TE}
theorem JcZ (ok:X.Ok) (hst:X.stack = X.env :: X.outer) (hfm:X.env.frame = some X.env.locals) (hex:X.ex = []) (F:FlyIn (Cx.mk1 X E pins) C a H s) (hgr:Gl X rn) (hmr:X.mg rn = some (.ref CRa)) (hdb:(rn == ("__debug__" : Str)) = false)
  (hexm:PySem.W.exmOne X.K (.ref C) (.ref CRa) = some true) (hN:X.N.Nodup) (hje:X.N[je]? = some en) (hle:X.env.scope.names.lookup en = some .local)
  (st:∀ E',PE (Cx.mk2 X (X.A.mark (some (.ref a))) E' pins) ex te)
  (k:∀ o,o.cls = .ref C -> H a = none -> te ((List.replicate X.N.length none).set je (some (.ref a))) (upd H a (.frz o (.ext fun _=>True))) D.rt) :
  wpAny (model X.prog X.w) X.A (noteFrame (.ref a) X.env) (fun _ s2=>wpAny (model X.prog X.w) X.A (setFlight (.ref a) none) (fun _ s3=>
   wpAny (model X.prog X.w) X.A (handleBy (.ref a) X.env [.ExceptHandler (some (.Name rn np)) (some en) [.Return (some ex) p2] hp]) (SP X pins D) X.xe s3) X.xe s2) X.xe s:=by
 obtain ⟨ps,σ',I,hxx⟩:=F.inv
 have hfr:X.A.frames = some (X.env :: X.outer):=by rw [<- hst]; exact ok.frames
 have rest:∀ (B:Heap) (a0:Value) (h1 h4:Heap),Landed (Cx.mk1 X E pins) H B h1 -> B.StaysIn h1 -> L2.Inv (Cx.mk1 X E pins) ps σ' H { s with heap:=h1 } -> Heap.HeldW B (X.env :: X.outer) a (.ref C) a0 X.env.locals h4 -> h1.UpToSlots h4 ->
   wpAny (model X.prog X.w) X.A (setFlight (.ref a) none) (fun _ s3=>wpAny (model X.prog X.w) X.A (handleBy (.ref a) X.env [.ExceptHandler (some (.Name rn np)) (some en) [.Return (some ex) p2] hp]) (SP X pins D) X.xe s3) X.xe { s with heap:=h4 }:=by
  intro B a0 h1 h4 LD k1 I1 held up
  refine wpAny_landsW held fun h5 fl5 up5=>?_
  have I5:L2.Inv (Cx.mk1 X E pins) [] (List.replicate X.N.length none) H { s with heap:=h5,toks:=s.toks }:=Inv.land (X:=Cx.mk1 X E pins) hst hfm hex I1 LD k1 fl5.1 (up.trans up5) s.toks
  obtain ⟨ob,hob,hobc⟩:=fl5.there
  refine wpAny_handleBy_cons (codeAny_handlers_test ?_) (by intro q; cases q)
  refine JR (X:=Cx.mk2 X (X.A.mark (some (.ref a))) (fun _ _=>True) pins) (Inv.to2 I5 rfl) hgr hmr ?_ hdb
  have LT:PySem.W.Looks (model X.prog X.w) h5 (typeOf (.ref a)) (.ref C):=hobc ▸ (PySem.W.Looks.ld hob).andThen .now
  refine PySem.W.Looks.here (PySem.W.exm_one I5.kIn LT hexm) ?_
  rw [if_pos rfl]
  refine codeAny_handlers_suite_as ?_
  refine lands_againW fl5 fun h6 fl6 up6=>?_
  have I6:L2.Inv (Cx.mk1 X E pins) [] (List.replicate X.N.length none) H { s with heap:=h6,toks:=s.toks }:=Inv.land (X:=Cx.mk1 X E pins) hst hfm hex I1 LD k1 fl6.1 ((up.trans up5).trans up6) s.toks
  obtain ⟨oe,ws,hoe,hoec,hoed,_⟩:=fl6.first
  have h0:H a = none:=by
   cases q:H a with
   | none=>rfl
   | some u=>
    obtain ⟨o,e⟩:=LD.tr a u q
    rw [fl6.2.1] at e; cases e
  have LD6:Landed (Cx.mk1 X E pins) H B h6:=⟨LD.tr,LD.kp,LD.pn⟩
  have I7:=Inv.know (X:=Cx.mk1 X E pins) I6 h0 hoe fl6.2.1 LD6 hst hfm hex rfl hoed
  refine JaR (X:=Cx.mk1 X E pins) (i:=je) (v:=.ref a) I7 hN hje (.inl hle) rfl (fun s7 I8=>?_) (.inr hle)
  refine wpAny_mono (JaL (JcV (pos:=p2) (st _)) [] s7 _ _ ⟨fun _ _=>False,D.rt,fun _ _=>False,fun _ _=>False⟩ (Inv.to2 I8 rfl) (k oe hoec h0)) (fun f s9 q=>?_) fun _ _ z=>z
  cases f with
  | brk=>obtain ⟨_,_,_,q⟩:=q; exact q.elim
  | cont=>obtain ⟨_,_,_,q⟩:=q; exact q.elim
  | next=>obtain ⟨_,_,_,q⟩:=q; exact q.elim
  | ret u=>
   obtain ⟨v,σ9,H9,I10,rv,q⟩:=q
   have I11:=Inv.of2 I10 ok
   obtain ⟨m,hn,hm⟩:=I11.loc
   refine wpAny_nameGoes_keeps hle hn (by rw [ok.kind]; rfl) fun h' v' hn' hs=>?_
   refine ⟨v,List.replicate X.N.length none,H9,Inv.locals I11 hs hn' (by simp) (fun i x w e1 e2 e3=>?_),rv,q⟩
   rw [List.getElem?_replicate] at e2
   split at e2 <;> cases e2
 rcases hxx with ⟨h,vs,hm,Ih⟩ | ⟨B,a0,flv,fl,tr,kp,pn⟩
 ·have hin:∀ env ∈ (X.env :: X.outer),∀ b,env.frame = some b -> b ∈ frs (X.env :: X.outer):=fun env he b hb=>List.mem_filterMap.mpr ⟨env,he,hb⟩
  have hk:(PySem.W.hideAll h (frs (X.env :: X.outer))).StaysIn h:=fun b o q=>PySem.W.of_hideAll _ q
  have hstk:h.FunFrames X.base (X.env :: X.outer):=by rw [<- hst]; exact Ih.stack
  refine Jas hfr hfm hk (PySem.W.funFrames_hide hstk hin) hm fun h' a0 held up=>?_
  have hs':frs (Cx.mk1 X E pins).stack = frs (X.env :: X.outer):=by rw [<- hst]
  refine rest _ a0 h h' ⟨fun b u e=>?_,fun b o hb hn=>⟨fun h0=>?_,?_⟩,fun p hp=>?_⟩ hk Ih held ((Heap.UpToSlots.of_keeps hm.keeps).trans up)
  ·obtain ⟨o,ho⟩:=HOk.has Ih.hok e
   exact ⟨o,PySem.W.hideAll_get _ ho fun z=>by rw [Ih.stkFree b (by rw [hs']; exact z)] at e; cases e⟩
  ·rw [hs'] at hn
   refine PySem.W.hideAll_get _ (Ih.base.keep b o hb h0 (fun z=>hn ?_) (by show b ∉ X.ex; rw [hex]; simp)) hn
   exact List.mem_filterMap.mpr (by obtain ⟨e,he,hf⟩:=List.mem_filterMap.mp z; exact ⟨e,.tail _ he,hf⟩)
  ·rw [hs'] at hn
   obtain ⟨o',e⟩:=Ih.base.there b o hb (by show b ∉ X.ex; rw [hex]; simp)
   exact ⟨o',PySem.W.hideAll_get _ e hn⟩
  ·obtain ⟨q1,q2,q3,q4,_⟩:=Ih.pin p (List.mem_append_left _ hp)
   refine PySem.W.hideAll_get _ q1 fun z=>?_
   unfold frs at z
   rw [List.filterMap_cons,hfm] at z
   rcases List.mem_cons.mp z with e | z
   ·exact q3 e
   ·exact q4 z
 ·have fl':HeldA B (X.env :: X.outer) a (.ref C) a0 flv s.heap:=by rw [<- hst]; exact fl
  exact Jaz hfr hfm fl' fun h' held up=>rest B a0 s.heap h' ⟨tr,fun b o hb hn=>kp b o hb hn (by show b ∉ X.ex; rw [hex]; simp),pn⟩ fl.1 I held up
def tDeed (X:Cx) (i:Nat):TE:=fun σ H Q=>∃ fl,σ[i]? = some (some (.ref fl)) /\ ∀ pins s,L2.Inv X pins σ H s -> FnAt fl s.heap /\ codeAny (model X.prog X.w) X.A (.call (.ref fl) ⟨[],[]⟩) (CR (CXr X.prog X.w) X.stack X.prog X.w H s Q (fun cls _ H2=>∀ C,cls = .ref C -> XE X C H2)) s
theorem Jfy {i:Nat} {x:Str} {p1 pos:Pos} (hN:X.N[i]? = some x) (hv:Vis X.env.scope x) (hd:(x == ("__debug__" : Str)) = false) (hcd:(x == ("__classdict__" : Str)) = false):PE X (.Call (.Name x p1) [] [] pos) (tDeed X i):=by
 rintro pins s σ H Q I ⟨fl,h0,h⟩
 refine wpAny_Call_Name_kw (thn (Jbm hN hv hd hcd pins s σ H (fun v H1=>v = .ref fl /\ H1 = H) I ⟨_,h0,rfl,rfl⟩) fun u s1 ⟨w,H1,I1,rw_,ew,eH⟩=>?_)
 subst ew eH
 obtain rfl:u = Value.ref fl:=rw_
 obtain ⟨hf,hc⟩:=h pins s1 I1
 refine callWith_F0 hf (wpAny_call (codeAny_mono hc fun r s' hq=>?_))
 cases r with
 | error e=>
  obtain ⟨a,C,H',rfl,F,hE⟩:=Jac I1 (show CXr X.prog X.w X.stack H1 s1 (fun cls _ H2=>∀ C,cls = .ref C -> XE X C H2) e s' from hq)
  exact hE C rfl a s' F
 | ok fl=>
  cases fl with
  | ret u=>exact I1.after hq
  | next=>exact False.elim hq
  | brk=>exact False.elim hq
  | cont=>exact False.elim hq
end
section
variable {X:Cx} {fc:Addr} {fdc:FuncData} {pc cn en:Str} {call:CallD} {fi je:Nat} {p1 p2 pos:Pos}
theorem JdQ (FN:FnN X.prog X.w X.K X.mg X.base fc fdc [pc] (spI X.K X.mg call fi)) (h1:X.A.depth + 5 < recursionLimit) (h2:X.A.units + 100 < cLine) (hg:Gl X cn) (hm:X.mg cn = some (.ref fc)) (hk:PySem.W.keepIn X.K (.ref fc) = true) (hb:Binds X.K fdc [pc] [])
  (hdb:(cn == ("__debug__" : Str)) = false) (hN:X.N[je]? = some en) (hv:Vis X.env.scope en) (hd:(en == ("__debug__" : Str)) = false) (hcd:(en == ("__classdict__" : Str)) = false) :
  PE X (.Call (.Name cn p1) [.Name en p2] [] pos) (fun σ H Q=>∃ v,σ[je]? = some (some v) /\ spI X.K X.mg call fi [v] H Q fun _ _ _=>False):=by
 rintro pins s σ H Q I ⟨v,h0,h⟩
 refine wpAny_Call_Name_kw (JR I hg hm ?_ hdb)
 refine PySem.W.callWith_K (h₀:=X.base) I.ok.mod.kin hk (thn ((Jt (Jbm hN hv hd hcd) JJ rfl) pos pins s σ H (fun vs H1=>vs = [v] /\ H1 = H) I ⟨v,h0,rfl,rfl⟩) fun us s1 ⟨vs,H1,I1,r,e1,e2⟩=>⟨I1.kIn,?_⟩) rfl rfl
 subst e1 e2
 have hl:(us ++ []).length = [pc].length:=by have:=r.length; simpa using this.symm
 have hb':=hb s1 us I1.kIn hl
 rw [List.append_nil] at hb'
 refine wpAny_call (codeAny_mono (FN.run X.A X.stack s1 H1 ⟨us,[]⟩ us [v] Q (fun _ _ _=>False) h1 h2 I1.env0 hb' r h) fun r s' hq=>?_)
 cases r with
 | error e=>
  obtain ⟨a,C,H',rfl,F,hE⟩:=Jac I1 (show CXr X.prog X.w X.stack H1 s1 (fun _ _ _=>False) e s' from hq)
  exact hE.elim
 | ok fl=>
  cases fl with
  | ret u=>exact I1.after hq
  | next=>exact False.elim hq
  | brk=>exact False.elim hq
  | cont=>exact False.elim hq
end
structure ToldS (st:Stmt) (dn en rn cn:Str):Prop where
 body:∃ p1 p2 p3 np p4 p5 p6 p7 hp pos,defBody st = [.Try [.Return (some (.Call (.Name dn p1) [] [] p2)) p3] [.ExceptHandler (some (.Name rn np)) (some en) [.Return (some (.Call (.Name cn p4) [.Name en p5] [] p6)) p7] hp] [] [] pos]
 sc:FnScope [dn,en] [dn] (defScope st)
 ld:(defScope st).names.lookup dn = some .local
 le:(defScope st).names.lookup en = some .local
 lr:(defScope st).names.lookup rn = some .globalImplicit
 lc:(defScope st).names.lookup cn = some .globalImplicit
 pl:(plainN dn && plainN en && plainN rn && plainN cn) = true
section
variable {P:Program} {w:World} {K:PySem.W.Frag} {mg:Str -> Option Value} {base:Heap} {A:Around} {outer:List Env} {s:Shared} {H:Hp} {Q:VK} {E:XK} {call:CallD} {p:Px} {env:Fm} {x qual dn en rn cn pc:Str} {st:Stmt} {f fl fc CRa:Addr} {fd fdc:FuncData} {fi:Nat} {cs:List Str}
theorem JeN (F:Fun K x qual st f fd) (T:ToldS st dn en rn cn) (hbt:Binds K fd [dn] []) (e0:Env0 P w K mg base A outer s H) (hr:Room 3 A) (hmr:mg rn = some (.ref CRa))
  (hcs:∀ c ∈ cs,∃ C,PySem.W.nsIn K mainGlobals c = some (some (.ref C)) /\ mg c = some (.ref C) /\ PySem.W.exmOne K (.ref C) (.ref CRa) = some true)
  (FN:FnN P w K mg base fc fdc [pc] (spI K mg call fi)) (hmc:mg cn = some (.ref fc)) (hkc:PySem.W.keepIn K (.ref fc) = true) (hbc:Binds K fdc [pc] [])
  (deed:∀ (A':Around) (outer':List Env) (s':Shared) (Q':VK) (E':XK),Room 2 A' -> Env0 P w K mg base A' outer' s' H -> (∃ env',A' = A.deeper env') -> (∀ b o,s.heap.get? b = some o -> H b = none -> ∃ sl,s'.heap.get? b = some { o with slots:=sl }) ->
   (evD call p env).Good (fun d=>∀ v H',Same H H' -> Rep K H' d v -> Q' v H') (fun c=>∀ C H',mg c = some (.ref C) -> Same H H' -> E' (.ref C) none H') -> FnAt fl s'.heap /\ codeAny (model P w) A' (.call (.ref fl) ⟨[],[]⟩) (CR (CXr P w) outer' P w H s' Q' E') s')
  (g:(evD call (.told fi cs p) env).Good (fun d=>∀ v H',Same H H' -> Rep K H' d v -> Q v H') fun _=>False) :
  codeAny (model P w) A (.call (.ref f) ⟨[.ref fl],[]⟩) (CR (CXr P w) outer P w H s Q E) s:=by
 obtain ⟨oc,od,kV,doc,pm,an,cdv,ct,osl,rfl,lk,hcd⟩:=F.ex
 obtain ⟨p1,p2,p3,np,p4,p5,p6,p7,hp,pos,hbody⟩:=T.body
 have S:=T.sc
 have pl:=T.pl
 simp only [Bool.and_eq_true] at pl
 obtain ⟨⟨⟨pl1,pl2⟩,pl3⟩,pl4⟩:=pl
 have KX:K.In s.heap:=e0.mod.kin.keeps fun b o e=>(e0.bs b o e).1
 have lim:s.heap.NoLimit:=e0.mod.nolimit.keeps fun b o e=>(e0.bs b o e).1
 have hkind:∀ y ∈ [dn].zip [Value.ref fl],(defScope st).names.lookup y.1 = some .local \/ ((defScope st).names.lookup y.1 = some .cell /\ ((cellsFrom (s.heap.objs.size + 1) (defScope st).names []).lookup y.1).isSome = true):=fun ⟨n,v⟩ hy=>by
  rcases S.par n (List.of_mem_zip hy).1 with q | q
  ·exact .inl q
  ·exact .inr ⟨q,PySem.W.cellsFrom_some _ _ _ (.inl q)⟩
 have hb:=hbt s [.ref fl] KX rfl
 refine codeAny_call_function hr.depth (KX _ _ lk) rfl S.co S.gen rfl (PySem.W.codeRec_of KX hcd) (hb _ _ _ _ ?_)
 refine wpAny_newFunctionEnv_cells S.kind hkind fun env1 he s1 x=>?_
 subst he
 refine ⟨lim.keeps x.toInCall.keep,codeAny_func ?_⟩
 have I:L2.Inv (cxOf (CXr P w) P w K mg base [dn,en] qual (defScope st) f cdv A outer s H E) [] (start [dn,en] [.ref fl]) H s1:=Jag S hr.hd e0 rfl (.cons rfl .nil) x
 have nd:([dn,en]:List Str).Nodup:=S.nd
 have hr1:Room 2 (A.deeper (envOfC qual (defScope st) s.heap.objs.size f cdv)):=hr.deeper _
 have main:PS (cxOf (CXr P w) P w K mg base [dn,en] qual (defScope st) f cdv A outer s H E) (.Try [.Return (some (.Call (.Name dn p1) [] [] p2)) p3] [.ExceptHandler (some (.Name rn np)) (some en) [.Return (some (.Call (.Name cn p4) [.Name en p5] [] p6)) p7] hp] [] [] pos)
   (fun D σ H1=>σ = start [dn,en] [.ref fl] /\ H1 = H /\ D.rt = Q):=by
  rintro pins s2 σ H1 D I2 ⟨e1,e2,e3⟩
  subst e1 e2
  refine wpAny_Try_except ?_
  refine wpAny_mono (JaL (JcV (X:=Cx.mk1 (cxOf (CXr P w) P w K mg base [dn,en] qual (defScope st) f cdv A outer s H1 E) _ pins) (pos:=p3) (Jfy (i:=0) (p1:=p1) (pos:=p2) (x:=dn) rfl (.inl T.ld) (plainN.d pl1).1 (plainN.d pl1).2)) [] s2 _ H1 ⟨fun _ _=>False,Q,fun _ _=>False,fun _ _=>False⟩ (Inv.to1 I2) ?_) (fun f s3 q=>?_) (fun _ _ z=>z)
  ·refine ⟨fl,rfl,fun pins' s' I'=>deed _ _ s' _ _ hr1 I'.env0 ⟨_,rfl⟩ (fun b o e n=>I'.base.any e n (by show b ∉ ([]:List Addr); simp)) ?_⟩
   simp only [evD] at g
   cases q:evD call p env with
   | stuck=>rw [q] at g; exact g.elim
   | ok d=>rw [q] at g; exact g
   | ex c=>
    rw [q] at g
    simp only at g
    split at g
    ·rename_i hc
     obtain ⟨CC,g1,g2,g3⟩:=hcs c (by simpa using hc)
     intro C2 H2 hm sm C3 eC a s' F
     cases eC
     rw [g2] at hm; cases hm
     split at g
     ·rename_i d hd
      refine JcZ (je:=1) (te:=fun σ H Q=>∃ v,σ[1]? = some (some v) /\ spI K mg call fi [v] H Q fun _ _ _=>False) I2.ok rfl rfl rfl F T.lr hmr (plainN.d pl3).1 g3 nd rfl T.le (fun E'=>JdQ (X:=Cx.mk2 (cxOf (CXr P w) P w K mg base [dn,en] qual (defScope st) f cdv A outer s H1 E) _ E' pins) FN ?_ ?_ T.lc hmc hkc hbc (plainN.d pl4).1 rfl (.inl T.le) (plainN.d pl2).1 (plainN.d pl2).2) fun o ho hn=>?_
      ·have:=hr1.dp
       show (A.deeper (envOfC qual (defScope st) s.heap.objs.size f cdv)).depth + 5 < _
       omega
      ·have:=hr1.un
       show (A.deeper (envOfC qual (defScope st) s.heap.objs.size f cdv)).units + 100 < _
       omega
      ·have up:Same H2 (upd H2 a (.frz o (.ext fun _=>True))):=fun b u e=>by rw [Jh (Je e hn)]; exact e
       refine ⟨.ref a,rfl,[.exc c],Reps.one ⟨a,o,_,rfl,Jm,ho,g1⟩,?_⟩
       rw [hd,e3]
       exact fun v H' s' r=>g v H' ((sm.trans up).trans s') r
     ·exact g.elim
    ·exact g.elim
  ·cases f with
   | brk=>obtain ⟨_,_,_,q⟩:=q; exact q.elim
   | cont=>obtain ⟨_,_,_,q⟩:=q; exact q.elim
   | next=>obtain ⟨_,_,_,q⟩:=q; exact q.elim
   | ret u=>
    obtain ⟨v,σ',H',I',rv,q⟩:=q
    exact ⟨v,σ',H',Inv.of1 I',rv,by rw [e3]; exact q⟩
 rw [hbody]
 refine wpAny_mono (JaL main [] s1 _ H { nx:=fun _ _=>False,rt:=Q } I ⟨rfl,rfl,rfl⟩) (fun fl s' hs=>?_) fun e s' hs=>hs
 cases fl with
 | ret u=>
  obtain ⟨v,σ',H',J,rv,q⟩:=hs
  exact ⟨v,H',J.os,J.bare,J.base,J.hok,rv,q⟩
 | next=>
  obtain ⟨_,_,_,q⟩:=hs
  exact False.elim q
 | brk=>
  obtain ⟨_,_,_,q⟩:=hs
  exact False.elim q
 | cont=>
  obtain ⟨_,_,_,q⟩:=hs
  exact False.elim q
end
end Rd
namespace Rd
open PySem PySem.Spec PyProof.Rows L2 Pu PySem.W
structure LamX (X:Cx):Prop where
 ex:∃ (c P:Addr) (ps:Array Value) (qt:Tok),X.env.code = .ref c /\ LamB X.mg X.base c P /\ X.H₀ P = some (.tbl ps) /\ ps[0]? = some (.str (X.env.qual ++ "<lambda>") qt)
structure Told (G:Gw) (call:CallD) (x:Str) (fi:Nat) (cs:List Str):Prop where
 ex:∃ (f:Addr) (fd:FuncData) (qual:Str) (st:Stmt) (dn en rn cn:Str) (CRa fc:Addr) (fdc:FuncData) (pc:Str),Fun G.K x qual st f fd /\ ToldS st dn en rn cn /\ Binds G.K fd [dn] [] /\ G.mg x = some (.ref f) /\ G.mg rn = some (.ref CRa) /\
  (∀ c ∈ cs,∃ C,PySem.W.nsIn G.K mainGlobals c = some (some (.ref C)) /\ G.mg c = some (.ref C) /\ PySem.W.exmOne G.K (.ref C) (.ref CRa) = some true) /\ FnN G.prog G.w G.K G.mg G.base fc fdc [pc] (spI G.K G.mg call fi) /\ G.mg cn = some (.ref fc) /\ PySem.W.keepIn G.K (.ref fc) = true /\ Binds G.K fdc [pc] []
def lamB (N:List Str) (nm:List (Str × NameKind)) (M:List Nat) (sc:Scope):Bool:=
 (sc.kind == .function) && !sc.isCoroutine && !sc.isGenerator && sc.names.all (fun y=>!(y.2 == .cell) && (!(y.2 == .free) || celB nm y.1)) &&
  (List.range N.length).all fun i=>M.contains i || (match N[i]? with | some x=>sc.names.lookup x == some .free | none=>true)
def blankS (M:List Nat) (σ:L2.St):L2.St:=σ.mapIdx fun i o=>if i ∈ M then none else o
theorem Jcw {M:List Nat} {σ:L2.St} {i:Nat} {v:V} (h:(blankS M σ)[i]? = some (some v)):i ∉ M /\ σ[i]? = some (some v):=by
 unfold blankS at h
 rw [List.getElem?_mapIdx] at h
 cases q:σ[i]? with
 | none=>rw [q] at h; cases h
 | some o=>
  rw [q] at h
  simp only [Option.map_some,Option.some.injEq] at h
  split at h
  ·cases h
  ·rename_i hm; subst h; exact ⟨hm,rfl⟩
theorem Jcq {nm:List (Str × NameKind)} {x:Str} (h:celB nm x = true):visB nm x = true:=by
 unfold celB at h
 unfold visB
 split at h
 ·rename_i z; rw [z]
 ·rename_i z; rw [z]
 ·cases h
section
variable {X:Cx} {call:CallD} {G:Gw} {N:List Str} {nm:List (Str × NameKind)} {body:Expr} {params:Arguments} {sc:Scope} {p:Px} {pos p1 lp:Pos} {x:Str} {cs:List Str} {M:List Nat} {fi j:Nat}
theorem JgJ {clos:List (Str × Addr)} (L:LamX X) (hcl:closureFor sc X.env = pure clos) (hdef:defaultsOf params X.env = ([],[])) :
  PE X (.Lambda params body sc lp) (fun σ H Q=>∀ f H',Same H H' -> LamAt H' f params body sc (X.env.qual ++ "<lambda>") clos -> Q (.ref f) H'):=by
 intro pins s σ H Q I h
 obtain ⟨c,P,ps,qt,h1,h2,h3,h4⟩:=L.ex
 obtain ⟨more,h5⟩:=I.base.tbls P ps h3
 have hz:0 < ps.size:=(Array.getElem?_eq_some_iff.mp h4).1
 have h6:(ps ++ more)[0]? = some (.str (X.env.qual ++ "<lambda>") qt):=by rw [Array.getElem?_append_left hz]; exact h4
 exact kla_eval hdef (JeH I h2 h1 h5 h6 hcl fun f s' H' I' sm la=>⟨.ref f,H',I',rfl,h f H' sm la⟩)
theorem JaA (C:Ctx X G N nm) (L:LamX X) (T:Told G call x fi cs) (hr:Room (j + 3) G.A) (hg:chkG nm x = true) (hl:lamB N nm M sc = true) (hsp:sepP M p = true)
  (hE:∀ (X':Cx) (A':Around),Ctx X' ⟨G.prog,G.w,G.K,G.mg,G.base,A'⟩ N sc.names -> Room j A' -> PE X' body (tI X' call p))
  (hbind:∀ q clos pm c ctv,bindArgs (kla_fn "<lambda>" q params body sc clos pm (.ref c) ctv) ⟨[],[]⟩ = pure []:=by intros; rfl) (hdef:defaultsOf params X.env = ([],[]):=by rfl)
  (hs:starEach [.Lambda params body sc lp] X.env = (false,eval (.Lambda params body sc lp) X.env) :: starEach [] X.env:=by rfl) :
  PE X (.Call (.Name x p1) [.Lambda params body sc lp] [] pos) (tI X call (.told fi cs p)):=by
 obtain ⟨f,fd,qual,st,dn,en,rn,cn,CRa,fc,fdc,pc,F,T',hbt,hm,hmr,hcs,FN,hmc,hkc,hbc⟩:=T.ex
 have hG:=C.g
 subst hG
 simp only [lamB,Bool.and_eq_true,beq_iff_eq,Bool.not_eq_true',List.all_eq_true] at hl
 obtain ⟨⟨⟨⟨l1,l2⟩,l3⟩,l4⟩,l5⟩:=hl
 have hcell:∀ y ∈ sc.names,y.2 ≠ .cell:=fun y hy=>by
  have:=(l4 y hy).1
  simpa using this
 have hfree:∀ y ∈ sc.names,y.2 = .free -> celB nm y.1 = true:=fun y hy e=>by
  have:=(l4 y hy).2
  simpa [e] using this
 have hslot:∀ i y,N[i]? = some y -> i ∉ M -> sc.names.lookup y = some .free:=fun i y e hm=>by
  have hi:i < N.length:=(List.getElem?_eq_some_iff.mp e).1
  have:=l5 i (List.mem_range.mpr hi)
  rw [e] at this
  simpa [hm] using this
 simp only [chkG,Bool.and_eq_true] at hg
 rintro pins s σ H Q I ⟨env,r,h⟩
 have hcl:closureFor sc X.env = pure (closL X.env.cells sc.names []):=JaE fun y hy e=>I.ok.has y.1 (C.cel y.1 (hfree y hy e))
 refine wpAny_Call_Name_kw (JR I (C.glo x hg.1) hm ?_ (plainN.d hg.2).1)
 refine callWith_K (h₀:=X.base) I.ok.mod.kin F.kp (thn ((Jt (JgJ (lp:=lp) L hcl hdef) JJ hs) pos pins s σ H (fun vs H1=>∃ f',vs = [.ref f'] /\ Same H H1 /\ LamAt H1 f' params body sc (X.env.qual ++ "<lambda>") (closL X.env.cells sc.names [])) I fun f' H' sm la=>⟨f',rfl,sm,la⟩) fun us s1 ⟨vs,H1,I1,rv,f',e1,sm,la⟩=>⟨I1.kIn,?_⟩) hs rfl
 subst e1
 obtain ⟨u,rfl,ru⟩:=rv.one
 obtain rfl:u = Value.ref f':=ru
 have sub:∀ y c,(closL X.env.cells sc.names []).lookup y = some c -> X.env.cells.lookup y = some c:=JE sc.names [] fun y c e=>by cases e
 refine wpAny_call (codeAny_mono (JeN (Q:=Q) (E:=fun _ _ _=>False) (p:=p) (env:=env) (fl:=f') F T' hbt I1.env0 (hr.mono (by omega)) hmr hcs FN hmc hkc hbc (fun A' outer' s' Q' E' hr' e0' hA kp gd=>?_) ?_) fun r s' hq=>?_)
 ·obtain ⟨env',rfl⟩:=hA
  have kc:∀ y c,X.env.cells.lookup y = some c -> ∀ v,s1.heap.IsCell c v -> s'.heap.IsCell c v:=fun y c hc v ⟨o,ho,hd⟩=>by
   obtain ⟨sl,e⟩:=kp c o ho (I1.freeC y c hc)
   exact ⟨_,e,hd⟩
  refine ⟨?_,Jfv (call:=call) (p:=p) (N:=N) (σ2:=blankS M σ) (env:=blankD M 0 env) e0' (hr'.mono (by omega)) la ?_ l1 l2 l3 (hbind _ _) hcell (fun y z c e1 e2=>I1.ok.inj y z c (sub _ _ e1) (sub _ _ e2)) (fun y e=>?_) (fun y c e=>?_) (fun i y v e1 e2=>?_) (fun c'=>?_) (fun i d e=>?_) ?_⟩
  ·obtain ⟨pm,c',ctv,oc,vs,t,hf,_⟩:=la
   obtain ⟨ho,_⟩:=e0'.hok f' _ hf
   exact ⟨_,_,_,_,ho⟩
  ·unfold blankS
   rw [List.length_mapIdx,I.len,C.hN]
  ·exact Jz sc.names [] y (PySem.mem_of_lookup e) (I1.ok.has y (C.cel y (hfree _ (PySem.mem_of_lookup e) rfl)))
  ·have hc:=sub _ _ e
   obtain ⟨v,z⟩:=I1.cell y c hc
   exact ⟨⟨v,kc y c hc v z⟩,I1.freeC y c hc⟩
  ·obtain ⟨hm',e3⟩:=Jcw e2
   have hfr:=hslot i y e1 hm'
   have hce:=hfree _ (PySem.mem_of_lookup hfr) rfl
   obtain ⟨m,_,hloc⟩:=I1.loc
   obtain ⟨u,ru,lk⟩:=hloc i y v (by rw [C.hN]; exact e1) e3 (C.vis y (Jcq hce))
   rcases lk with ⟨q1,_⟩ | ⟨_,c,q2,q3⟩
   ·have:=C.cel y hce
    rw [q1] at this
    rcases this with z | z <;> cases z
   ·obtain ⟨c2,e4⟩:=Jz sc.names [] y (PySem.mem_of_lookup hfr) ⟨c,q2⟩
    have e5:=sub _ _ e4
    rw [q2] at e5; cases e5
    exact ⟨u,c,ru,hfr,e4,kc y c q2 _ q3⟩
  ·have hj:Room j ((X.A.deeper env').deeper (envX (X.env.qual ++ "<lambda>") sc s'.heap.objs.size f' (.ref c') (closL X.env.cells sc.names []))):=((hr.mono (show j + 2 <= j + 3 by omega)).deeper env').deeper _
   refine hE _ _ ?_ hj
   exact {
    g:=rfl
    hN:=rfl
    nd:=C.nd
    vis:=fun y hy=>by
     show Vis sc y
     unfold visB at hy
     split at hy
     ·rename_i z; exact .inl z
     ·rename_i z; exact .inr (.inl z)
     ·rename_i z; exact .inr (.inr z)
     ·cases hy
    cel:=fun y hy=>by
     show sc.names.lookup y = some .cell \/ sc.names.lookup y = some .free
     unfold celB at hy
     split at hy
     ·rename_i z; exact .inl z
     ·rename_i z; exact .inr z
     ·cases hy
    glo:=fun y hy=>by
     show sc.names.lookup y = some .globalImplicit
     unfold gloB at hy
     split at hy
     ·rename_i z; exact z
     ·cases hy
    sto:=fun y hy=>by
     show Loc sc y /\ (false = true \/ sc.names.lookup y = some .local)
     unfold locB at hy
     split at hy
     ·rename_i z; exact ⟨.inl z,.inr z⟩
     ·rename_i z; exact absurd rfl (hcell _ (PySem.mem_of_lookup z))
     ·cases hy
    calm:=rfl
    un:=hj.units
    fr:=⟨_,_,_,rfl,rfl,rfl⟩ }
  ·rw [JN] at e
   simp only [Nat.zero_add] at e
   cases q:env[i]? with
   | none=>rw [q] at e; cases e
   | some o=>
    rw [q] at e
    simp only [Option.map_some,Option.some.injEq] at e
    split at e
    ·cases e
    ·rename_i hm'
     subst e
     obtain ⟨v,g1,g2⟩:=r i d q
     refine ⟨v,?_,g2.mono sm⟩
     unfold blankS
     rw [List.getElem?_mapIdx,g1]
     simp [hm']
  ·rw [JO call env hsp]
   exact gd
 ·have ne:∀ c,evD call (.told fi cs p) env ≠ .ex c:=fun c e=>by
   simp only [evD] at e
   split at e
   ·cases e
   ·split at e
    ·split at e <;> cases e
    ·cases e
   ·cases e
  cases q:evD call (.told fi cs p) env with
  | ok d=>rw [q] at h; exact fun v H' s2 rr=>h v H' (sm.trans s2) rr
  | ex c=>exact (ne c q).elim
  | stuck=>rw [q] at h; exact h.elim
 ·cases r with
  | error e=>
   obtain ⟨a,C,H',rfl,F,hE⟩:=Jac I1 (show CXr X.prog X.w X.stack H1 s1 (fun _ _ _=>False) e s' from hq)
   exact hE.elim
  | ok fl=>
   cases fl with
   | ret u=>exact I1.after hq
   | next=>exact False.elim hq
   | brk=>exact False.elim hq
   | cont=>exact False.elim hq
end
end Rd
namespace Rd
open PySem PySem.Spec PyProof.Rows L2 Pu PySem.W
def TbH (H:Hp) (Pt:Addr) (q:Str):Prop:=∃ (ps:Array Value) (qt:Tok),H Pt = some (.tbl ps) /\ ps[0]? = some (.str q qt)
def spL (K:PySem.W.Frag) (mg:Str -> Option Value) (Pt:Addr) (q:Str) (call:CallD) (fi:Nat):Sp:=fun vs H Q E=>TbH H Pt q /\ spI K mg call fi vs H Q E
def spL0 (K:PySem.W.Frag) (Pt:Addr) (q:Str) (call:CallD) (fi:Nat):Sp:=fun vs H Q E=>TbH H Pt q /\ sp0 K call fi vs H Q E
section
variable {P:Program} {w:World} {K:PySem.W.Frag} {mg:Str -> Option Value} {base:Heap} {defs:List DefD} {fi k j:Nat} {d:DefD} {c Pt:Addr}
theorem Jgu {x qual:Str} {st:Stmt} {f:Addr} {fd:FuncData} {N ps:List Str} {M:List Nat} (F:Fun K x qual st f fd) (hcode:fd.code = .ref c) (B:LamB mg base c Pt) (S:FnScope N ps (defScope st)) (hd:defs[fi]? = some d) (hs:d.slots = N.length) (hp:d.params = ps.length) (hM:∀ i ∈ M,ps.length <= i) (hpN:ps.length <= N.length)
  (hbody:∀ (X:Cx) (A:Around) (H0:Hp),Ctx X ⟨P,w,K,mg,base,A⟩ N (defScope st).names -> Room j A -> HX X (defScope st).names -> LamX X -> PSs X (defBody st) (tS X (runD defs k) M H0 d.body)) :
  FnOk P w K mg base (CXr P w) (j + 1) f fd ps (spL K mg Pt (qual ++ ".<locals>." ++ "<lambda>") (runD defs (k + 1)) fi):=by
 have unf:∀ ds,runD defs (k + 1) fi ds = if ds.length = d.params then answerD (exD (runD defs k) d.body (startD d.slots ds)) else .stuck:=fun ds=>by
  simp only [runD,hd]
 obtain ⟨oc,od,kV,doc,pm,an,cdv,ct,osl,rfl,lk,hcd⟩:=F.ex
 obtain rfl:cdv = .ref c:=hcode
 refine JfB lk hcd S (fun vs H Q E h=>?_) (fun A outer s H vs Q E hr h=>?_)
 ·obtain ⟨_,ds,r,g⟩:=h
  rw [unf] at g
  split at g
  ·rename_i q
   rw [r.length,q,hp]
  ·exact g.elim
 ·obtain ⟨⟨tps,tqt,t1,t2⟩,ds,r,g⟩:=h
  rw [unf] at g
  split at g
  ·rename_i q
   have C:Ctx (cxOf (CXr P w) P w K mg base N qual (defScope st) f (.ref c) A outer s H E) ⟨P,w,K,mg,base,A.deeper (envOfC qual (defScope st) s.heap.objs.size f (.ref c))⟩ N (defScope st).names:={
    g:=rfl
    hN:=rfl
    nd:=S.nd
    vis:=fun y hy=>by
     show Vis (defScope st) y
     unfold visB at hy
     split at hy
     ·rename_i z; exact .inl z
     ·rename_i z; exact .inr (.inl z)
     ·rename_i z; exact .inr (.inr z)
     ·cases hy
    cel:=fun y hy=>by
     show (defScope st).names.lookup y = some .cell \/ (defScope st).names.lookup y = some .free
     unfold celB at hy
     split at hy
     ·rename_i z; exact .inl z
     ·rename_i z; exact .inr z
     ·cases hy
    glo:=fun y hy=>by
     show (defScope st).names.lookup y = some .globalImplicit
     unfold gloB at hy
     split at hy
     ·rename_i z; exact z
     ·cases hy
    sto:=fun y hy=>by
     show Loc (defScope st) y /\ (true = true \/ _)
     unfold locB at hy
     split at hy
     ·rename_i z; exact ⟨.inl z,.inl rfl⟩
     ·rename_i z; exact ⟨.inr z,.inl rfl⟩
     ·cases hy
    calm:=rfl
    un:=hr.units
    fr:=⟨_,_,_,rfl,rfl,rfl⟩ }
   refine ⟨_,hbody _ _ H C hr ⟨rfl,PassesOwn.leaving,rfl,rfl,rfl⟩ ⟨c,Pt,tps,tqt,rfl,B,t1,t2⟩,startD d.slots ds,Jay hs (by omega) (fun i hi=>by have:=hM i hi; omega) r,?_⟩
   cases q2:exD (runD defs k) d.body (startD d.slots ds) with
   | ok r2=>
    rw [q2] at g
    obtain ⟨fl,env2⟩:=r2
    cases fl with
    | nx=>exact fun σ' H' e' _=>g .non H' e'.same rfl
    | rt dd=>exact fun v H' s' r'=>g v H' s' r'
    | bk=>exact g.elim
    | ct=>exact g.elim
   | ex c=>
    rw [q2] at g
    exact fun C2 H2 hm s2 a s' F=>Jcb F (g C2 H2 hm s2)
   | stuck=>rw [q2] at g; exact g.elim
  ·exact g.elim
theorem foL {Ev:Gw -> CallD -> Prop} {N ps:List Str} {M:List Nat} {x:Str} {st:Stmt} {i k:Nat} {d:DefD} {b:Sx} {f:Addr} {g:FuncData} (E:∀ A,Room (3 * k + 2) A -> Ev ⟨P,w,K,mg,base,A⟩ (runD defs k)) (D:Def1 K mg x st ps f g) (hcode:g.code = .ref c) (B:LamB mg base c Pt)
  (dx:∀ {X:Cx} {A:Around} {H0:Hp},(∀ A,Room (3 * k + 2) A -> Ev ⟨P,w,K,mg,base,A⟩ (runD defs k)) -> Room (3 * k + 5) A -> Ctx X ⟨P,w,K,mg,base,A⟩ N (defScope st).names -> HX X (defScope st).names -> LamX X -> PSs X (defBody st) (tS X (runD defs k) M H0 b))
  (hd:defs[i]? = some d:=by rfl) (hb:d.body = b:=by rfl) (h:(scChk N ps (defScope st) && d.slots == N.length && d.params == ps.length && M.all (fun i=>decide (ps.length <= i)) && decide (ps.length <= N.length)) = true:=by decide +kernel) :
  FnOk P w K mg base (CXr P w) (3 * k + 6) f g ps (spL K mg Pt (x ++ ".<locals>." ++ "<lambda>") (runD defs (k + 1)) i):=by
 simp only [Bool.and_eq_true,beq_iff_eq,List.all_eq_true,decide_eq_true_eq] at h
 obtain ⟨⟨⟨⟨h1,h2⟩,h3⟩,h4⟩,h5⟩:=h
 subst hb
 exact Jgu (j:=3 * k + 5) D.F hcode B (Jev h1) hd h2 h3 h4 h5 fun X A H0 C hr hx L=>dx E hr C hx L
theorem foN {N ps:List Str} {x:Str} {st:Stmt} {i k:Nat} {d:DefD} {b:Sx} {f:Addr} {g:FuncData} (D:Def1 K mg x st ps f g)
  (dx:∀ {X:Cx} {A:Around} {H0:Hp},CtxN X ⟨P,w,K,mg,base,A⟩ N (defScope st).names -> PSs X (defBody st) (tS X (runD defs k) [] H0 b))
  (hd:defs[i]? = some d:=by rfl) (hb:d.body = b:=by rfl) (h:(scChk N ps (defScope st) && d.slots == N.length && d.params == ps.length && decide (ps.length <= N.length)) = true:=by decide +kernel) :
  FnN P w K mg base f g ps (spI K mg (runD defs (k + 1)) i):=by
 simp only [Bool.and_eq_true,beq_iff_eq,decide_eq_true_eq] at h
 obtain ⟨⟨⟨h1,h2⟩,h3⟩,h5⟩:=h
 subst hb
 exact JhD D.F (Jev h1) hd h2 h3 h5 fun X A H0 C=>dx C
theorem JfW {A:Around} {call:CallD} {x:Str} {st stc:Stmt} {dn en rn cn pc:Str} {i:Nat} {cs:List Str} {f fc:Addr} {g gc:FuncData} (D:Def1 K mg x st [dn] f g) (T:ToldS st dn en rn cn) (ht:Takes ⟨P,w,K,mg,base,A⟩ rn cs) (Dc:Def1 K mg cn stc [pc] fc gc) (FN:FnN P w K mg base fc gc [pc] (spI K mg call i)) :
  Told ⟨P,w,K,mg,base,A⟩ call x i cs:=by
 obtain ⟨CR,h1,h2⟩:=ht.ex
 exact ⟨f,g,x,st,dn,en,rn,cn,CR,fc,gc,pc,D.F,T,D.b,D.g,h1,h2,FN,Dc.g,Dc.F.kp,Dc.b⟩
theorem Jfk {h:Heap} {T:List DefE} {n fl kk:Nat} {x SP q:Str} {st:Stmt} {fa:Addr} (X:K.In h) (G:h.Ns mainGlobals mg) (hfa:mg x = some (.ref fa)) (dT:DsIn K T) (bT:BsOk T) (dL:DsIn K [(x,st,[SP])]) (bL:BsOk [(x,st,[SP])]) (ht:tabIn K x = some (c,Pt))
  (ok:∀ base f g,LamB mg base c Pt -> HasD K mg T -> Def1 K mg x st [SP] f g -> g.code = .ref c -> FnOk P w K mg base (CXr P w) kk f g [SP] (spL K mg Pt q (runD defs n) fl)) :
  ∃ fd:FuncData,(∀ (s:Shared) (v:Value),BindsTo s fd ⟨[v],[]⟩ [(SP,v)]) /\ ∀ base:Heap,K.In base -> base.Ns mainGlobals mg -> LamB mg base c Pt -> FnOk P w K mg base (CXr P w) kk fa fd [SP] (spL0 K Pt q (runD defs n) fl):=by
 obtain ⟨⟨f,g,D⟩,_⟩:=dL
 obtain ⟨B,_⟩:=bL
 have e:=hfa.symm.trans (PySem.W.mg_of X G D.a)
 cases e
 have hcode:g.code = .ref c:=by
  obtain ⟨_,_,_,_,_,_,_,_,_,_,lk,_⟩:=D.F.ex
  exact law_code X G ht hfa (X _ _ lk) rfl
 refine ⟨g,?_,fun base _ _ LB=>?_⟩
 ·obtain ⟨_,_,kV,doc,pm,an,cdv,ct,_,e,_⟩:=D.F.ex
  subst e
  exact fun s v=>.of_eq (B kV doc pm an cdv ct [v] rfl)
 ·exact (ok base _ g LB (Jbx X G dT bT) ⟨D.F,D.F.binds B,PySem.W.mg_of X G D.a⟩ hcode).imp fun vs H Q E z=>⟨z.1,JgU vs H Q E z.2⟩
end
theorem JcH {P:Program} {w:World} {K:PySem.W.Frag} {mg mb:Str -> Option Value} {CX:CXT} {k:Nat} {fa a c Pt:Addr} {fd:FuncData} {x q:Str} {sp:Sp} {s₁:Shared} {vs:List Value} {ns:List Int}
  (KX:K.In s₁.heap) (hns:s₁.heap.Ns mainGlobals mg) (hb:s₁.heap.Ns builtinsNs mb) (hbb:∀ x:Str,x ≠ "__name__" -> mb x = bootBuiltins x) (hlim:s₁.heap.NoLimit) (hg:s₁.gens = #[])
  (ha:s₁.heap.get? a = some { cls:=.type "list",data:=.seq vs.toArray }) (hi:IntsAre vs ns) (hl:ns.length <= sizeLine) (hr:Room k callerA)
  (hPK:K.lookup Pt = none) (hC:CodeHd s₁.heap c Pt) (hP:s₁.heap.get? Pt = some (tabObj #[]))
  (hbm:∃ bm ob,mg "__builtins__" = some (.ref bm) /\ bm ≠ builtinsNs /\ s₁.heap.get? bm = some ob /\ ob.cls = .type "module" /\ ob.dict = some builtinsNs /\ ob.data = .plain)
  (F:∀ base:Heap,K.In base -> base.Ns mainGlobals mg -> LamB mg base c Pt -> FnOk P w K mg base CX k fa fd [x] sp) (hbind:∀ (s:Shared) (u:Value),BindsTo s fd ⟨[u],[]⟩ [(x,u)])
  (hsp:∀ H:Hp,TbH H Pt q -> SqL K H a (ns.map V.int) -> sp [.ref a] H (fun v _=>v = .bl true) fun _ _ _=>False)
  (hCX:∀ H e s',CX [] H s₁ (fun _ _ _=>False) e s' -> False) :
  codeAny (model P w) callerA (.call (.ref fa) ⟨[.ref a],[]⟩) (fun r s'=>r = .ok (.ret (.bool true)) /\ OldK s₁.heap s'.heap /\ s'.os = s₁.os /\ AllBare s'.gens) s₁:=by
 have rv:=Jat hi
 have lenV:=hi.length
 have aP:a ≠ Pt:=fun z=>by rw [z,hP] at ha; cases ha
 have core:∀ H:Hp,(∀ b,b ≠ Pt -> H b = none \/ ∃ o xs,H b = some (.frz o (.lst xs))) -> H Pt = some (.tbl #[.str q 0]) -> SqL K H a (ns.map V.int) -> HOk P w H s₁.heap -> (∀ b,H b ≠ none -> b = a \/ b = Pt) -> (H a ≠ none -> K.lookup a = none) ->
   codeAny (model P w) callerA (.call (.ref fa) ⟨[.ref a],[]⟩) (fun r s'=>r = .ok (.ret (.bool true)) /\ OldK s₁.heap s'.heap /\ s'.os = s₁.os /\ AllBare s'.gens) s₁:=by
  intro H hO hPt hS hok hA hK
  have base_of:∀ {b:Addr} {o:Obj},s₁.heap.get? b = some o -> H b = none -> (hidT s₁.heap H).get? b = some o:=fun e n=>JbY e n
  have noA:∀ {b:Addr} {o:Obj},s₁.heap.get? b = some o -> (∀ z n,o.data ≠ .seq z n) -> (∀ z,o.data ≠ .fields z) -> H b = none:=fun {b o} e d1 d2=>by
   cases q:H b with
   | none=>rfl
   | some u=>
    rcases hA b (by rw [q]; simp) with e' | e'
    ·subst e'
     rw [ha] at e; cases e
     exact absurd rfl (d1 _ _)
    ·subst e'
     rw [hP] at e; cases e
     exact absurd rfl (d2 _)
  have nsK:∀ {b:Addr} {m:Str -> Option Value},s₁.heap.Ns b m -> (hidT s₁.heap H).Ns b m:=fun {b m} ⟨o,es,ep,e,d,r⟩=>⟨o,es,ep,base_of e (noA e (fun z n h=>by rw [d] at h; cases h) fun z h=>by rw [d] at h; cases h),d,r⟩
  have hKb:K.In (hidT s₁.heap H):=fun b o e=>base_of (KX b o e) (by
   cases q:H b with
   | none=>rfl
   | some u=>
    rcases hA b (by rw [q]; simp) with e' | e'
    ·subst e'
     rw [hK (by rw [q]; simp)] at e; cases e
    ·subst e'
     rw [hPK] at e; cases e)
  have hM:Mod K mg (hidT s₁.heap H):=⟨hKb,nsK hns,⟨mb,nsK hb,hbb⟩,let ⟨mc,h1,h2⟩:=hlim; ⟨mc,nsK h1,h2⟩⟩
  have LB:LamB mg (hidT s₁.heap H) c Pt:=by
   refine ⟨?_,?_⟩
   ·obtain ⟨o,ws,file,tf,flags,tg,inF,text,tt,e1,e2,e3,r⟩:=hC
    have hne:=r.2.2.2.2.2.2
    refine ⟨o,ws,file,tf,flags,tg,inF,text,tt,base_of e1 ?_,e2,e3,r⟩
    cases q:H c with
    | none=>rfl
    | some u=>
     rcases hA c (by rw [q]; simp) with e' | e'
     ·subst e'
      rw [ha] at e1; cases e1
      injection e2 with e2
      exact absurd e2 (by decide)
     ·exact absurd e' hne
   ·obtain ⟨bm,ob,b1,b2,b3,b4,b5,b6⟩:=hbm
    exact ⟨bm,ob,b1,b2,base_of b3 (noA b3 (fun z n h=>by rw [b6] at h; cases h) fun z h=>by rw [b6] at h; cases h),b4,b5,b6⟩
  have e0:Env0 P w K mg (hidT s₁.heap H) callerA [] s₁ H:=⟨rfl,hM,fun b o e=>Jds e,Nat.le_of_eq (Jbk _ _),trivial,fun b hb=>absurd (show b ∈ ([]:List Addr) from hb) (by simp),hok,.of_eq hg⟩
  refine codeAny_mono ((F _ hKb (nsK hns) LB).run callerA [] s₁ H ⟨[.ref a],[]⟩ [.ref a] [.ref a] _ _ hr e0 (hbind s₁ (.ref a)) (.cons rfl .nil) (hsp H ⟨_,0,hPt,rfl⟩ hS)) fun r s' h=>?_
  cases r with
  | error e=>exact (hCX H e s' h).elim
  | ok fl=>
   cases fl with
   | next=>exact False.elim h
   | brk=>exact False.elim h
   | cont=>exact False.elim h
   | ret u=>
    obtain ⟨v,H',os,bare,un,hok',r',q'⟩:=h
    have q':v = .bl true:=q'
    subst q'
    obtain rfl:u = Value.bool true:=r'
    have tab:∃ qs,s'.heap.get? Pt = some (tabObj qs):=by
     obtain ⟨more,e⟩:=un.tbls Pt _ hPt
     obtain ⟨_,_,qs,_,e2,_⟩:=hok' Pt _ e
     exact ⟨qs,e2⟩
    have keep:∀ b o,b ≠ Pt -> s₁.heap.get? b = some o -> s'.heap.get? b = some o:=fun b o hb e=>by
     cases q:H b with
     | none=>exact un.keep b o e q (by intro z; exact absurd (show b ∈ ([]:List Addr) from z) (by simp)) (by simp)
     | some u=>
      rcases hO b hb with z | ⟨ob,xs,z⟩
      ·rw [q] at z; cases z
      ·have z2:=un.frzs b ob _ z
       obtain ⟨e1,_⟩:=hok b _ z
       obtain ⟨e2,_⟩:=hok' b _ z2
       rw [e] at e1; cases e1
       exact e2
    obtain ⟨qs,hqs⟩:=tab
    refine ⟨rfl,⟨fun b o e=>?_,fun b o e=>?_⟩,os,bare⟩
    ·by_cases hb:b = Pt
     ·subst hb
      rw [hP] at e; cases e
      exact .inr (.inl ⟨(hC.tab hP).isCodeTable,rfl,#[],qs,rfl,by rw [Array.empty_append]; exact hqs⟩)
     ·exact .inl (keep b o hb e)
    ·by_cases hb:b = Pt
     ·subst hb; exact ⟨_,hqs⟩
     ·exact ⟨o,keep b o hb e⟩
 have tok:∀ H:Hp,ObjOk P w H s₁.heap Pt (.tbl #[.str q 0]):=fun H=>⟨q,0,#[],rfl,hP,trivial,fun pos cv z=>by cases z⟩
 cases hk:K.lookup a with
 | some o=>
  have e:=KX a o hk
  rw [ha] at e
  cases e
  refine core (fun b=>if b = Pt then some (.tbl #[.str q 0]) else none) (fun b hb=>.inl (if_neg hb)) (if_pos rfl) (.inr ⟨_,vs.toArray,_,hk,rfl,rfl,rfl,by rw [List.size_toArray,lenV]; exact hl,by simpa using rv⟩) (fun b u z=>?_) (fun b z=>?_) fun z=>absurd (if_neg aP) z
  ·by_cases hb:b = Pt
   ·have z':=(if_pos hb).symm.trans z
    cases z'
    subst hb
    exact tok _
   ·have z':=(if_neg hb).symm.trans z
    cases z'
  ·by_cases hb:b = Pt
   ·exact .inr hb
   ·exact absurd (if_neg hb) z
 | none=>
  refine core (fun b=>if b = Pt then some (.tbl #[.str q 0]) else if b = a then some (.frz { cls:=.type "list",data:=.seq vs.toArray } (.lst (ns.map V.int))) else none) (fun b hp=>?_) (if_pos rfl) (.inl (.inr ⟨{ cls:=.type "list",data:=.seq vs.toArray },(if_neg aP).trans (if_pos rfl)⟩)) (fun b u z=>?_) (fun b z=>?_) fun _=>hk
  ·by_cases hb:b = a
   ·exact .inr ⟨_,_,(if_neg hp).trans (if_pos hb)⟩
   ·exact .inl ((if_neg hp).trans (if_neg hb))
  ·by_cases hp:b = Pt
   ·have z':=(if_pos hp).symm.trans z
    cases z'
    subst hp
    exact tok _
   ·by_cases hb:b = a
    ·have z':=((if_neg hp).trans (if_pos hb)).symm.trans z
     cases z'
     subst hb
     exact ⟨ha,by rw [List.length_map]; exact hl,vs,_,rv,ha⟩
    ·have z':=((if_neg hp).trans (if_neg hb)).symm.trans z
     cases z'
  ·by_cases hp:b = Pt
   ·exact .inr hp
   ·by_cases hb:b = a
    ·exact .inl hb
    ·exact absurd ((if_neg hp).trans (if_neg hb)) z
theorem Jew {l:PySem.W.OpenLaw} {n k:Nat} {q:Program} {loose:List Str} {XP:(Str -> Option Value) -> Heap -> Prop} {YP:World -> Heap -> Prop} {d:DefRec} {K:Params -> PySem.W.Frag} {CX:World -> CXT} {sp:World -> Sp} {x qn:Str} {c Pt:Addr}
  (hn:l.most = some n) (hn2:n <= sizeLine) (hdf:d.params.defaults = []) (hr:Room k callerA)
  (hY:∀ (w:World) (h:Heap),YP w h -> (K w.params).In h /\ h.get? Pt = some (tabObj #[])) (hC:∀ p,codeHdIn (K p) c Pt = true) (hPK:∀ p,(K p).lookup Pt = none)
  (F:∀ (w:World) (mg:Str -> Option Value) (fa:Addr) (h:Heap),(K w.params).In h -> h.Ns mainGlobals mg -> mg d.name = some (.ref fa) ->
   ∃ fd:FuncData,(∀ (s:Shared) (u:Value),BindsTo s fd ⟨[u],[]⟩ [(x,u)]) /\
    ∀ base:Heap,(K w.params).In base -> base.Ns mainGlobals mg -> LamB mg base c Pt -> FnOk l.prog w (K w.params) mg base (CX w) k fa fd [x] (sp w))
  (hsp:∀ (w:World) (H:Hp) (a:Addr) (ns:List Int),ns.length <= n -> TbH H Pt qn -> SqL (K w.params) H a (ns.map V.int) -> sp w [.ref a] H (fun v _=>v = .bl true) fun _ _ _=>False)
  (hCX:∀ (w:World) (H:Hp) (s:Shared) (e:Value) (s':Shared),CX w [] H s (fun _ _ _=>False) e s' -> False) :
  PySem.W.WalkO q loose XP YP l.row.toRowW d [] (fun f vs=>PySem.call f vs):=by
 refine Att.Jaw hn hdf fun w s₀ s₁ mg mb fa o pm cd doc a vs ns G Y ho hd hcd hmg hobj hints hlen hg=>?_
 obtain ⟨KX,hP⟩:=hY w _ Y
 obtain ⟨fd,hb,hF⟩:=F w mg fa _ KX G.T.g hmg
 exact JcH KX G.T.g G.T.b G.T.builtins G.T.nolimit hg hobj hints (Nat.le_trans hlen hn2) hr (hPK _) (codeHd_of_K KX (hC _)) hP G.T.bmain hF hb (fun H hO hS=>hsp w H a ns hlen hO hS) fun H e s'=>hCX w H s₁ e s'
theorem JdJ {K:PySem.W.Frag} {H:Hp} {a Pt:Addr} {q:Str} {ns:List Int} {call:CallD} {fi:Nat} (t:TbH H Pt q) (h:SqL K H a (ns.map V.int)) (hv:call fi [.lst (ns.map .int)] = .ok (.bl true)):spL0 K Pt q call fi [.ref a] H (fun v _=>v = .bl true) fun _ _ _=>False:=⟨t,JdD h hv⟩
end Rd
namespace Pu
open PySem
section
variable (i j:Int) (x y:Str) (xs ys:List D) (a b:D) (p q:Bool)
@[simp] theorem o_neg:op1 .neg (.int i) = .ok (.int (-i)):=rfl
@[simp] theorem o_not:op1 .not (.bl p) = .ok (.bl !p):=rfl
@[simp] theorem JhM:op1 .truth (.bl p) = .ok (.bl p):=rfl
@[simp] theorem o_lenT:op1 .len (.tup xs) = .ok (.int xs.length):=rfl
@[simp] theorem o_lenL:op1 .len (.lst xs) = .ok (.int xs.length):=rfl
@[simp] theorem o_tupL:op1 .tuple (.lst xs) = .ok (.tup xs):=rfl
@[simp] theorem o_tupT:op1 .tuple (.tup xs) = .ok (.tup xs):=rfl
@[simp] theorem o_listL:op1 .list (.lst xs) = .ok (.lst xs):=rfl
@[simp] theorem o_listT:op1 .list (.tup xs) = .ok (.lst xs):=rfl
@[simp] theorem o_enumT:op1 .enum (.tup xs) = .ok (.lst (enumFrom 0 xs)):=rfl
@[simp] theorem o_enumL:op1 .enum (.lst xs) = .ok (.lst (enumFrom 0 xs)):=rfl
@[simp] theorem o_rowsL:op1 .rows (.lst xs) = .ok (.lst xs):=rfl
@[simp] theorem o_rowsT:op1 .rows (.tup xs) = .ok (.tup xs):=rfl
@[simp] theorem JgA:D.walk (.lst xs) = .ok xs:=rfl
@[simp] theorem JgN:D.walk (.tup xs) = .ok xs:=rfl
@[simp] theorem o_asI:op1 .asI (.int i) = .ok (.int i):=rfl
@[simp] theorem o_asT:op1 .asT (.tup xs) = .ok (.tup xs):=rfl
@[simp] theorem o_isNn:op1 .isN .non = .ok (.bl true):=rfl
@[simp] theorem o_isNl:op1 .isN (.lst xs) = .ok (.bl false):=rfl
@[simp] theorem o_notNn:op1 .notN .non = .ok (.bl false):=rfl
@[simp] theorem o_notNl:op1 .notN (.lst xs) = .ok (.bl true):=rfl
theorem o_range (n:Nat) (h:n <= 1000):op1 .range (.int n) = .ok (.lst (upTo 0 n)):=by
 have:midI n = true:=by
  simp only [midI,Bool.and_eq_true,decide_eq_true_eq]
  omega
 simp [op1,this]
@[simp] theorem o_add:op2 .add (.int i) (.int j) = .ok (.int (i + j)):=rfl
@[simp] theorem o_sub:op2 .sub (.int i) (.int j) = .ok (.int (i - j)):=rfl
@[simp] theorem o_mul (h:smallI i || smallI j):op2 .mul (.int i) (.int j) = .ok (.int (i * j)):=by simp only [op2,h,if_true]
theorem o_addT (h:xs.length + ys.length <= lineD):op2 .add (.tup xs) (.tup ys) = .ok (.tup (xs ++ ys)):=by simp only [op2,h,if_true]
@[simp] theorem o_lt:op2 .lt (.int i) (.int j) = .ok (.bl (decide (i < j))):=rfl
@[simp] theorem o_le:op2 .le (.int i) (.int j) = .ok (.bl (decide (i <= j))):=rfl
@[simp] theorem o_gt:op2 .gt (.int i) (.int j) = .ok (.bl (decide (j < i))):=rfl
@[simp] theorem o_ge:op2 .ge (.int i) (.int j) = .ok (.bl (decide (j <= i))):=rfl
theorem o_eq (h:a.dep <= 20) (h':b.dep <= 20):op2 .eq a b = .ok (.bl (a.eqv b)):=by simp [op2,okDep,h,h']
@[simp] theorem o_eqS:op2 .eq (.str x) (.str y) = .ok (.bl (x == y)):=rfl
@[simp] theorem o_neS:op2 .ne (.str x) (.str y) = .ok (.bl (!(x == y))):=rfl
@[simp] theorem o_eqI:op2 .eq (.int i) (.int j) = .ok (.bl (i == j)):=rfl
@[simp] theorem o_neI:op2 .ne (.int i) (.int j) = .ok (.bl (!(i == j))):=rfl
@[simp] theorem o_eqB:op2 .eq (.bl p) (.bl q) = .ok (.bl (p == q)):=rfl
@[simp] theorem o_neB:op2 .ne (.bl p) (.bl q) = .ok (.bl (!(p == q))):=rfl
@[simp] theorem o_idxT:op2 .idx (.tup xs) (.int i) = Rs.ofOpt (atD xs i):=rfl
@[simp] theorem o_idxL:op2 .idx (.lst xs) (.int i) = Rs.ofOpt (atD xs i):=rfl
@[simp] theorem o_zipTT:op2 .zip (.tup xs) (.tup ys) = .ok (.lst (zipD xs ys)):=rfl
theorem o_inT (h:deps xs <= 19) (h':a.dep <= 20):op2 .isin a (.tup xs) = .ok (.bl (xs.any fun d=>d.eqv a)):=by
 have:okDep (.tup xs) = true:=by simp [okDep,D.dep,h]
 have h2:okDep a = true:=by simp [okDep,h']
 cases a <;> simp_all [op2]
theorem atN (n:Nat) (h:n < xs.length):atD xs (n:Int) = some xs[n]:=by
 have h2:(n:Int) < xs.length:=by omega
 have h3:(0:Int) <= n:=by omega
 simp [atD,ixn,h2,h3,h]
@[simp] theorem ofSome {α:Type} (a:α):Rs.ofOpt (some a) = .ok a:=rfl
end
section
variable (call:CallD) (env:Fm)
@[simp] theorem e_var (i:Nat):evD call (.var i) env = match env[i]? with
  | some (some d)=>.ok d
  | _=>.stuck:=rfl
@[simp] theorem e_con (d:D):evD call (.con d) env = .ok d:=rfl
@[simp] theorem e_un (o:O1) (a:Px):evD call (.un o a) env = (evD call a env).bind (op1 o):=rfl
@[simp] theorem e_bi (o:O2) (a b:Px):evD call (.bi o a b) env = (evD call a env).bind fun x=>(evD call b env).bind fun y=>op2 o x y:=rfl
@[simp] theorem e_and (a b:Px):evD call (.and a b) env = (evD call a env).bind fun x=>match x with
  | .bl true=>evD call b env
  | .bl false=>.ok (.bl false)
  | _=>.stuck:=rfl
@[simp] theorem e_or (a b:Px):evD call (.or a b) env = (evD call a env).bind fun x=>match x with
  | .bl true=>.ok (.bl true)
  | .bl false=>evD call b env
  | _=>.stuck:=rfl
@[simp] theorem e_ite (c a b:Px):evD call (.ite c a b) env = (evD call c env).bind fun x=>match x with
  | .bl true=>evD call a env
  | .bl false=>evD call b env
  | _=>.stuck:=rfl
@[simp] theorem e_nil:evD call .nil env = .ok (.lst []):=rfl
@[simp] theorem e_cons (a as:Px):evD call (.cons a as) env = (evD call a env).bind fun x=>(evD call as env).bind fun y=>y.asL.bind fun ds=>.ok (.lst (x :: ds)):=rfl
@[simp] theorem e_tup (as:Px):evD call (.tup as) env = (evD call as env).bind fun y=>y.asL.bind fun ds=>if ds.length <= lineD then .ok (.tup ds) else .stuck:=rfl
@[simp] theorem e_dis (as:Px):evD call (.dis as) env = (evD call as env).bind fun y=>y.asL.bind fun ds=>if ds.length <= lineD then .ok (.lst ds) else .stuck:=rfl
@[simp] theorem Jha (f:Nat) (as:Px):evD call (.call f as) env = (evD call as env).bind fun y=>y.asL.bind fun ds=>call f ds:=rfl
@[simp] theorem e_sl (a lo hi:Px):evD call (.sl a lo hi) env = (evD call a env).bind fun x=>(evD call lo env).bind fun l=>l.bound.bind fun l=>(evD call hi env).bind fun h=>h.bound.bind fun h=>match x with
  | .tup ds=>.ok (.tup (cutD ds l h))
  | .lst ds=>.ok (.lst (cutD ds l h))
  | .str x=>if x.length <= 1000 then .ok (.str (mkS (cutD x.cps.toList l h))) else .stuck
  | _=>.stuck:=rfl
@[simp] theorem e_walk (a:Px):evD call (.walk a) env = (evD call a env).bind fun x=>x.walk.bind fun ds=>.ok (.lst ds):=rfl
theorem e_comp (nt:Nat) (src c e:Px):evD call (.comp nt src c e) env = (evD call src env).bind fun s=>s.asL.bind fun ds=>if ds.length <= lineD then (compL nt (evD call c) (evD call e) env ds).bind fun ys=>.ok (.lst ys) else .stuck:=rfl
end
@[simp] theorem asL_lst (ds:List D):D.asL (.lst ds) = .ok ds:=rfl
@[simp] theorem Jhc:D.bound .non = .ok none:=rfl
@[simp] theorem JhA (i:Int):D.bound (.int i) = .ok (some i):=rfl
section
variable (call:CallD) (env:Fm)
@[simp] theorem ans_nx:answerD (.ok (.nx,env)) = .ok .non:=rfl
@[simp] theorem ans_rt (d:D):answerD (.ok (.rt d,env)) = .ok d:=rfl
@[simp] theorem Jhj:answerD .stuck = .stuck:=rfl
@[simp] theorem ans_ex (c:Str):answerD (.ex c) = .ex c:=rfl
@[simp] theorem x_skip:exD call .skip env = .ok (.nx,env):=rfl
@[simp] theorem JfC (a b:Sx):exD call (.seq a b) env = (exD call a env).bind fun r=>match r with
  | (.nx,env2)=>exD call b env2
  | r=>.ok r:=rfl
@[simp] theorem x_set (m:Bool) (i:Nat) (e:Px):exD call (.set m i e) env = (evD call e env).bind fun d=>if m && !d.imm then .stuck else .ok (.nx,env.set i (some d)):=rfl
@[simp] theorem x_own (i:Nat) (e:Px):exD call (.own i e) env = (evD call e env).bind fun d=>match d with
  | .lst ds=>if !imms ds then .stuck else .ok (.nx,env.set i (some (.lst ds)))
  | _=>.stuck:=rfl
@[simp] theorem x_app (m:Bool) (i:Nat) (e:Px):exD call (.app m i e) env = match env[i]? with
  | some (some (.lst ds))=>(evD call e env).bind fun d=>if (m && !d.imm) || !decide (ds.length < lineD) then .stuck else .ok (.nx,env.set i (some (.lst (ds ++ [d]))))
  | _=>.stuck:=rfl
@[simp] theorem x_ext (m:Bool) (i:Nat) (e:Px):exD call (.ext m i e) env = match env[i]? with
  | some (some (.lst ds))=>(evD call e env).bind fun y=>y.asL.bind fun es=>if (m && !imms es) || !decide (ds.length + es.length <= lineD) then .stuck else .ok (.nx,env.set i (some (.lst (ds ++ es))))
  | _=>.stuck:=rfl
@[simp] theorem x_ownD (t:Bool) (i:Nat):exD call (.ownD t i) env = .ok (.nx,env.set i (some (.dct t false [] []))):=rfl
@[simp] theorem x_retF (i:Nat):exD call (.retF i) env = match env[i]? with
  | some (some (.dct t false ks vs))=>.ok (.rt (.dct t true ks vs),env)
  | _=>.stuck:=rfl
@[simp] theorem x_put (m t':Bool) (i:Nat) (k v:Px):exD call (.put m t' i k v) env = match env[i]? with
  | some (some (.dct t false ks vs))=>(evD call v env).bind fun y=>(evD call k env).bind fun x=>if (m && !y.imm) || !(t == t') || !keyD t x || !decide (ks.length < 1000) then .stuck else .ok (.nx,env.set i (some (.dct t false (putD x y ks vs).1 (putD x y ks vs).2)))
  | _=>.stuck:=rfl
@[simp] theorem x_raise (c:Str) (p:Px):exD call (.raise c p) env = (evD call p env).bind fun d=>if msgOk d then .ex c else .stuck:=rfl
@[simp] theorem x_tryC (i:Nat) (e:Px) (j:Nat) (cs:List Str):exD call (.tryC i e j cs) env = catchC j cs env ((evD call e env).bind fun d=>.ok (.nx,env.set i (some d))):=rfl
@[simp] theorem x_mov (i j:Nat):exD call (.mov i j) env = match env[j]? with
  | some (some (.lst ds))=>.ok (.nx,(env.set i (some (.lst ds))).set j none)
  | _=>.stuck:=rfl
theorem x_whl (n:Nat) (c:Px) (b:Sx):exD call (.whl n c b) env = whlL (evD call c) (exD call b) n env:=rfl
@[simp] theorem x_eff (e:Px):exD call (.eff e) env = (evD call e env).bind fun _=>.ok (.nx,env):=rfl
@[simp] theorem x_ret (e:Px):exD call (.ret e) env = (evD call e env).bind fun d=>.ok (.rt d,env):=rfl
@[simp] theorem x_retN:exD call .retN env = .ok (.rt .non,env):=rfl
@[simp] theorem x_ite (c:Px) (a b:Sx):exD call (.ite c a b) env = (evD call c env).bind fun x=>match x with
  | .bl true=>exD call a env
  | .bl false=>exD call b env
  | _=>.stuck:=rfl
@[simp] theorem x_loop (m:Bool) (ts:List Nat) (nt:Nat) (src:Px) (body:Sx):exD call (.loop m ts nt src body) env = (evD call src env).bind fun s=>s.asL.bind fun ds=>if m && (mutS body || !imms ds) then .stuck else forL ts nt (exD call body) ds env:=rfl
@[simp] theorem x_brk:exD call .brk env = .ok (.bk,env):=rfl
@[simp] theorem x_cnt:exD call .cnt env = .ok (.ct,env):=rfl
end
theorem Jer (ns:List Int):deps (ns.map D.int) = 0:=by
 induction ns with
 | nil=>rfl
 | cons a t ih=>simp [deps,D.dep,ih]
theorem JhF (nt:Nat) (c e:Fm -> Rs D) (env:Fm):compL nt c e env [] = .ok []:=rfl
end Pu
namespace Pu
open PySem
section
variable (call:CallD) (env:Fm)
theorem Jcn {o:O2} {a b:Px} {x y z:D} (ha:evD call a env = .ok x) (hb:evD call b env = .ok y) (ho:op2 o x y = .ok z):evD call (.bi o a b) env = .ok z:=by
 rw [e_bi,ha,Rs.bind_ok,hb,Rs.bind_ok,ho]
end
mutual
def D.small:D -> Bool
 | .str x=>decide (x.length <= 1000)
 | .tup ds=>decide (ds.length <= 1000) && smalls ds
 | .lst ds=>decide (ds.length <= 1000) && smalls ds
 | _=>true
def smalls:List D -> Bool
 | []=>true
 | d :: ds=>D.small d && smalls ds
end
structure Nice (n:Nat) (d:D):Prop where
 s:d.small = true
 p:d.dep <= n
theorem Nice.len {n:Nat} {ds:List D} (h:Nice n (.tup ds)):ds.length <= 1000:=by
 have:=h.s
 simp only [D.small,Bool.and_eq_true,decide_eq_true_eq] at this
 exact this.1
theorem JcG (call:CallD) (env:Fm) {f:Nat} {as:Px} {ds:List D} {r:Rs D} (h:evD call as env = .ok (.lst ds)) (hf:call f ds = r):evD call (.call f as) env = r:=by
 rw [Jha,h]
 exact hf
def twice (l:List Str):Bool:=decide ((sortS l).length < l.length)
end Pu
namespace Pu
open PySem
mutual
theorem Jhg:∀ d:D,d.dep <= 900 -> d.eqv d = true
 | .non,_=>rfl
 | .bl b,_=>by simp [D.eqv]
 | .int i,_=>by simp [D.eqv]
 | .str x,_=>by simp [D.eqv]
 | .tup ds,h=>by
  simp only [D.dep] at h
  simp [D.eqv,JbE ds (by omega)]
 | .lst ds,h=>by
  simp only [D.dep] at h
  simp [D.eqv,JbE ds (by omega)]
 | .dct _ _ _ _,h=>by simp only [D.dep] at h; omega
 | .exc _,h=>by simp only [D.dep] at h; omega
 | .fn _ _,h=>by simp only [D.dep] at h; omega
theorem JbE:∀ ds:List D,deps ds <= 900 -> eqvs ds ds = true
 | [],_=>rfl
 | d :: ds,h=>by
  simp only [deps] at h
  simp [eqvs,Jhg d (by omega),JbE ds (by omega)]
end
theorem JbM {α:Type} (ts:List Nat) (nt:Nat) (body:Fm -> Rs (Fw × Fm)) (f:α -> D) (I:Fm -> Prop):∀ (rs:List α) (env:Fm),I env -> (∀ r ∈ rs,∀ env,I env -> ∃ new,bindT nt (f r) = .ok new /\ ∃ env',I env' /\ (body (setAll ts new env) = .ok (.nx,env') \/ body (setAll ts new env) = .ok (.ct,env'))) ->
  ∃ env',I env' /\ forL ts nt body (rs.map f) env = .ok (.nx,env')
 | [],env,h,_=>⟨env,h,rfl⟩
 | r :: rs,env,h,hb=>by
  obtain ⟨new,hn,env1,h1,h2⟩:=hb r (by simp) env h
  obtain ⟨env2,h3,h4⟩:=JbM ts nt body f I rs env1 h1 fun x hx=>hb x (by simp [hx])
  refine ⟨env2,h3,?_⟩
  rcases h2 with h2 | h2 <;> simp only [List.map_cons,forL,hn,Rs.bind_ok,h2,h4]
section
variable (call:CallD) (env:Fm)
theorem Jgp {i:Nat} {e:Px} {d:D} (rest:Sx) (hd:evD call e env = .ok d):exD call (.seq (.set false i e) rest) env = exD call rest (env.set i (some d)):=by
 rw [JfC,x_set,hd]
 rfl
theorem JgV {a:Sx} {env2:Fm} (rest:Sx) (h:exD call a env = .ok (.nx,env2)):exD call (.seq a rest) env = exD call rest env2:=by
 rw [JfC,h]
 rfl
end
end Pu
namespace K65
open PySem.Str (ofString)
open PySem Pu
def b_is_text_of:Sx:=(.seq (.ite (.un .not (.un .truth (.un .isStr (.var 0)))) (.ret (.con (.bl false))) .skip)
  (.ret (.and (.and (.bi .le (.con (.int 1)) (.un .len (.var 0))) (.bi .le (.un .len (.var 0)) (.var 2))) (.un .all (.comp 0 (.walk (.var 0)) (.con (.bl true)) (.bi .isin (.var 0) (.var 2)))))))
def b_is_word:Sx:=(.ret (.call 0 (.cons (.var 0) (.cons (.con (.str (ofString "abcdefghijklmnopqrstuvwxyz0123456789-"))) (.cons (.con (.int 8)) .nil)))))
def b_are_words:Sx:=(.ret (.un .all (.comp 0 (.walk (.var 0)) (.con (.bl true)) (.call 1 (.cons (.var 0) .nil)))))
def b_is_hole:Sx:=(.ret (.bi .ne (.bi .idx (.var 0) (.con (.int 0))) (.con (.str (ofString "word")))))
def b_hole_names:Sx:=(.ret (.comp 0 (.walk (.var 0)) (.un .truth (.call 3 (.cons (.var 0) .nil))) (.bi .idx (.var 0) (.con (.int 1)))))
def b_hole_named:Sx:=(.seq (.loop false [2] 0 (.walk (.var 0)) (.ite (.and (.un .truth (.call 3 (.cons (.var 2) .nil))) (.bi .eq (.bi .idx (.var 2) (.con (.int 1))) (.var 1))) (.ret (.var 2)) .skip))
  (.ret (.con .non)))
def b_writes_number:Sx:=(.seq (.ite (.or (.bi .eq (.var 0) (.con (.str (ofString "")))) (.un .not (.un .truth (.un .all (.comp 0 (.walk (.var 0)) (.con (.bl true)) (.bi .isin (.var 0) (.con (.str (ofString "0123456789"))))))))) (.ret (.con (.bl false))) .skip)
  (.ret (.or (.bi .eq (.var 0) (.con (.str (ofString "0")))) (.un .not (.bi .starts (.var 0) (.con (.str (ofString "0"))))))))
def b_lets_by:Sx:=(.seq (.ite (.bi .eq (.bi .idx (.var 0) (.con (.int 0))) (.con (.str (ofString "word")))) (.ret (.bi .eq (.var 1) (.bi .idx (.var 0) (.con (.int 1))))) .skip)
  (.seq (.ite (.bi .eq (.bi .idx (.var 0) (.con (.int 0))) (.con (.str (ofString "one")))) (.ret (.bi .isin (.var 1) (.bi .idx (.var 0) (.con (.int 2))))) .skip)
  (.seq (.ite (.bi .eq (.bi .idx (.var 0) (.con (.int 0))) (.con (.str (ofString "number")))) (.ret (.call 6 (.cons (.var 1) .nil))) .skip)
  (.ret (.con (.bl true))))))
def b_sought_hole:Sx:=(.seq (.set false 2 (.call 5 (.cons (.var 0) (.cons (.var 1) .nil))))
  (.seq (.ite (.un .isN (.var 2)) (.raise (ofString "NoHole") (.cons (.var 1) .nil)) .skip)
  (.ret (.var 2))))
def b_with_parts_for:Sx:=(.seq (.set false 3 (.bi .indexT (.var 0) (.var 1)))
  (.ret (.bi .add (.bi .add (.sl (.var 0) (.con .non) (.un .asI (.var 3))) (.var 2)) (.sl (.var 0) (.un .asI (.bi .add (.var 3) (.con (.int 1)))) (.con .non)))))
def b_renamed:Sx:=(.seq (.set false 3 (.call 8 (.cons (.var 0) (.cons (.var 1) .nil))))
  (.seq (.ite (.and (.bi .ne (.var 2) (.var 1)) (.bi .isin (.var 2) (.call 4 (.cons (.var 0) .nil)))) (.raise (ofString "Taken") (.cons (.var 2) .nil)) .skip)
  (.ret (.call 9 (.cons (.var 0) (.cons (.var 3) (.cons (.tup (.cons (.bi .add (.tup (.cons (.bi .idx (.var 3) (.con (.int 0))) (.cons (.var 2) .nil))) (.sl (.var 3) (.un .asI (.con (.int 2))) (.con .non))) .nil)) .nil)))))))
def b_words_for:Sx:=(.seq (.ite (.bi .eq (.bi .idx (.var 0) (.con (.int 0))) (.con (.str (ofString "rest")))) (.ite (.and (.un .truth (.un .isTup (.var 1))) (.un .truth (.call 2 (.cons (.var 1) .nil)))) (.ret (.var 1)) .skip) (.ite (.and (.un .truth (.call 1 (.cons (.var 1) .nil))) (.un .truth (.call 7 (.cons (.var 0) (.cons (.var 1) .nil))))) (.ret (.tup (.cons (.var 1) .nil))) .skip))
  (.raise (ofString "BadValues") .nil))
def b_narrowed:Sx:=(.seq (.set false 3 (.call 8 (.cons (.var 0) (.cons (.var 1) .nil))))
  (.seq (.set false 4 (.call 11 (.cons (.var 3) (.cons (.var 2) .nil))))
  (.seq (.set false 5 (.call 9 (.cons (.var 0) (.cons (.var 3) (.cons (.un .tuple (.comp 0 (.walk (.var 4)) (.con (.bl true)) (.tup (.cons (.con (.str (ofString "word"))) (.cons (.var 0) .nil))))) .nil)))))
  (.seq (.ite (.bi .gt (.un .len (.var 5)) (.con (.int 6))) (.raise (ofString "TooMany") .nil) .skip)
  (.ret (.var 5))))))
def b_widened:Sx:=(.seq (.ite (.un .not (.and (.bi .le (.con (.int 0)) (.var 1)) (.bi .lt (.var 1) (.un .len (.var 0))))) (.raise (ofString "NoHole") .nil) .skip)
  (.seq (.ite (.bi .eq (.bi .idx (.bi .idx (.var 0) (.var 1)) (.con (.int 0))) (.con (.str (ofString "rest")))) (.ret (.var 0)) .skip)
  (.seq (.set false 2 (.sl (.var 0) (.con .non) (.un .asI (.var 1))))
  (.seq (.set false 3 (.call 4 (.cons (.var 2) .nil)))
  (.ret (.bi .add (.var 2) (.tup (.cons (.tup (.cons (.con (.str (ofString "rest"))) (.cons (.bi .idx (.comp 0 (.walk (.con (.tup [(.str (ofString "r")),(.str (ofString "s")),(.str (ofString "t")),(.str (ofString "u")),(.str (ofString "v")),(.str (ofString "w")),(.str (ofString "x"))]))) (.bi .notin (.var 0) (.var 4)) (.var 0)) (.con (.int 0))) .nil))) .nil))))))))
def b_law_cell:Sx:=(.seq (.ite (.bi .lt (.var 1) (.un .len (.var 0))) (.ret (.bi .idx (.var 0) (.var 1))) .skip)
  (.seq (.ite (.bi .eq (.var 0) (.dis .nil)) (.ret (.con (.int 0))) .skip)
  (.ret (.bi .add (.bi .mul (.bi .idx (.var 0) (.bi .mod (.var 1) (.un .len (.var 0)))) (.con (.int 31))) (.var 1)))))
def b_law_pick:Sx:=(.seq (.set false 3 (.bi .mod (.bi .mul (.bi .add (.call 14 (.cons (.var 0) (.cons (.var 1) .nil))) (.bi .mul (.con (.int 6151)) (.bi .add (.var 1) (.con (.int 1))))) (.con (.int 40692))) (.con (.int 2147483399))))
  (.ret (.bi .mod (.bi .mod (.bi .add (.bi .mul (.var 3) (.var 3)) (.bi .fdiv (.var 3) (.con (.int 31)))) (.con (.int 2147483629))) (.var 2))))
def b_law_class:Sx:=(.seq (.set false 1 (.dis (.cons (.un (.isC [(ofString "BadValues"),(ofString "NoRow"),(ofString "Taken"),(ofString "TooMany"),(ofString "BadLead"),(ofString "NoText"),(ofString "NoHole"),(ofString "NoSite"),(ofString "NoBack")] (ofString "BadLead")) (.var 0)) (.cons (.un (.isC [(ofString "BadValues"),(ofString "NoRow"),(ofString "Taken"),(ofString "TooMany"),(ofString "BadLead"),(ofString "NoText"),(ofString "NoHole"),(ofString "NoSite"),(ofString "NoBack")] (ofString "BadValues")) (.var 0)) (.cons (.un (.isC [(ofString "BadValues"),(ofString "NoRow"),(ofString "Taken"),(ofString "TooMany"),(ofString "BadLead"),(ofString "NoText"),(ofString "NoHole"),(ofString "NoSite"),(ofString "NoBack")] (ofString "NoBack")) (.var 0)) .nil)))))
  (.seq (.set false 1 (.bi .add (.var 1) (.dis (.cons (.un (.isC [(ofString "BadValues"),(ofString "NoRow"),(ofString "Taken"),(ofString "TooMany"),(ofString "BadLead"),(ofString "NoText"),(ofString "NoHole"),(ofString "NoSite"),(ofString "NoBack")] (ofString "NoHole")) (.var 0)) (.cons (.un (.isC [(ofString "BadValues"),(ofString "NoRow"),(ofString "Taken"),(ofString "TooMany"),(ofString "BadLead"),(ofString "NoText"),(ofString "NoHole"),(ofString "NoSite"),(ofString "NoBack")] (ofString "NoRow")) (.var 0)) (.cons (.un (.isC [(ofString "BadValues"),(ofString "NoRow"),(ofString "Taken"),(ofString "TooMany"),(ofString "BadLead"),(ofString "NoText"),(ofString "NoHole"),(ofString "NoSite"),(ofString "NoBack")] (ofString "NoSite")) (.var 0)) .nil))))))
  (.seq (.set false 1 (.bi .add (.var 1) (.dis (.cons (.un (.isC [(ofString "BadValues"),(ofString "NoRow"),(ofString "Taken"),(ofString "TooMany"),(ofString "BadLead"),(ofString "NoText"),(ofString "NoHole"),(ofString "NoSite"),(ofString "NoBack")] (ofString "NoText")) (.var 0)) (.cons (.un (.isC [(ofString "BadValues"),(ofString "NoRow"),(ofString "Taken"),(ofString "TooMany"),(ofString "BadLead"),(ofString "NoText"),(ofString "NoHole"),(ofString "NoSite"),(ofString "NoBack")] (ofString "Taken")) (.var 0)) (.cons (.un (.isC [(ofString "BadValues"),(ofString "NoRow"),(ofString "Taken"),(ofString "TooMany"),(ofString "BadLead"),(ofString "NoText"),(ofString "NoHole"),(ofString "NoSite"),(ofString "NoBack")] (ofString "TooMany")) (.var 0)) .nil))))))
  (.seq (.ite (.or (.bi .ne (.bi .count (.var 1) (.con (.bl true))) (.con (.int 1))) (.un .not (.un .truth (.un (.isC [(ofString "BadValues"),(ofString "NoRow"),(ofString "Taken"),(ofString "TooMany"),(ofString "BadLead"),(ofString "NoText"),(ofString "NoHole"),(ofString "NoSite"),(ofString "NoBack")] (ofString "ValueError")) (.var 0))))) (.ret (.con (.str (ofString "wrong")))) .skip)
  (.seq (.set false 2 (.dis (.cons (.con (.str (ofString "bad lead"))) (.cons (.con (.str (ofString "bad values"))) (.cons (.con (.str (ofString "no back"))) (.cons (.con (.str (ofString "no hole"))) (.cons (.con (.str (ofString "no row"))) (.cons (.con (.str (ofString "no site"))) (.cons (.con (.str (ofString "no text"))) (.cons (.con (.str (ofString "taken"))) (.cons (.con (.str (ofString "too many"))) .nil)))))))))))
  (.ret (.bi .idx (.var 2) (.bi .index (.var 1) (.con (.bl true))))))))))
def b_law:Sx:=(.seq (.set false 1 (.tup (.cons (.tup (.cons (.con (.str (ofString "word"))) (.cons (.con (.str (ofString "a"))) .nil))) (.cons (.tup (.cons (.con (.str (ofString "any"))) (.cons (.con (.str (ofString "x"))) .nil))) (.cons (.tup (.cons (.con (.str (ofString "number"))) (.cons (.con (.str (ofString "n"))) .nil))) (.cons (.tup (.cons (.con (.str (ofString "one"))) (.cons (.con (.str (ofString "o"))) (.cons (.tup (.cons (.con (.str (ofString "a"))) (.cons (.con (.str (ofString "b"))) .nil))) .nil)))) (.cons (.tup (.cons (.con (.str (ofString "rest"))) (.cons (.con (.str (ofString "r"))) .nil))) .nil)))))))
  (.seq (.set false 2 (.dis (.cons (.con .non) (.cons (.con (.str (ofString ""))) (.cons (.con (.str (ofString "A"))) (.cons (.con (.str (ofString "abcdefghi"))) (.cons (.con (.int 5)) (.cons (.tup (.cons (.con (.str (ofString "a"))) .nil)) (.cons (.con (.bl true)) (.cons (.con (.str (ofString "a b"))) (.cons (.dis .nil) (.cons (.con (.str (ofString "a_"))) .nil))))))))))))
  (.seq (.loop false [3] 0 (.un .range (.con (.int 4))) (.seq (.set false 4 (.bi .idx (.var 2) (.bi .mod (.bi .add (.call 15 (.cons (.var 0) (.cons (.con (.int 0)) (.cons (.con (.int 10)) .nil)))) (.bi .mul (.con (.int 3)) (.var 3))) (.con (.int 10)))))
  (.seq (.own 5 (.dis (.cons (.told 16 [(ofString "BadValues"),(ofString "NoRow"),(ofString "Taken"),(ofString "TooMany"),(ofString "BadLead"),(ofString "NoText"),(ofString "NoHole"),(ofString "NoSite"),(ofString "NoBack")] (.call 12 (.cons (.var 1) (.cons (.bi .idx (.dis (.cons (.con (.str (ofString "y"))) (.cons (.con (.str (ofString "a"))) (.cons (.con (.str (ofString "xx"))) (.cons (.con (.str (ofString "word"))) .nil))))) (.var 3)) (.cons (.var 4) .nil))))) .nil)))
  (.seq (.app false 5 (.told 16 [(ofString "BadValues"),(ofString "NoRow"),(ofString "Taken"),(ofString "TooMany"),(ofString "BadLead"),(ofString "NoText"),(ofString "NoHole"),(ofString "NoSite"),(ofString "NoBack")] (.call 10 (.cons (.var 1) (.cons (.bi .idx (.dis (.cons (.con (.str (ofString "y"))) (.cons (.con (.str (ofString "a"))) (.cons (.con (.str (ofString "xx"))) (.cons (.con (.str (ofString "word"))) .nil))))) (.var 3)) (.cons (.con (.str (ofString "x"))) .nil))))))
  (.seq (.app false 5 (.told 16 [(ofString "BadValues"),(ofString "NoRow"),(ofString "Taken"),(ofString "TooMany"),(ofString "BadLead"),(ofString "NoText"),(ofString "NoHole"),(ofString "NoSite"),(ofString "NoBack")] (.call 13 (.cons (.var 1) (.cons (.bi .idx (.dis (.cons (.con (.int 5)) (.cons (.un .neg (.con (.int 1))) (.cons (.con (.int 9)) (.cons (.con (.int 6)) .nil))))) (.var 3)) .nil)))))
  (.seq (.ite (.bi .ne (.var 5) (.bi .rep (.dis (.cons (.con (.str (ofString "no hole"))) .nil)) (.con (.int 3)))) (.ret (.con (.bl false))) .skip)
  (.seq (.own 5 (.dis (.cons (.told 16 [(ofString "BadValues"),(ofString "NoRow"),(ofString "Taken"),(ofString "TooMany"),(ofString "BadLead"),(ofString "NoText"),(ofString "NoHole"),(ofString "NoSite"),(ofString "NoBack")] (.call 12 (.cons (.var 1) (.cons (.con (.str (ofString "x"))) (.cons (.var 4) .nil))))) .nil)))
  (.seq (.app false 5 (.told 16 [(ofString "BadValues"),(ofString "NoRow"),(ofString "Taken"),(ofString "TooMany"),(ofString "BadLead"),(ofString "NoText"),(ofString "NoHole"),(ofString "NoSite"),(ofString "NoBack")] (.call 12 (.cons (.var 1) (.cons (.con (.str (ofString "n"))) (.cons (.bi .idx (.dis (.cons (.var 4) (.cons (.con (.str (ofString "01"))) (.cons (.con (.str (ofString "a"))) (.cons (.con (.str (ofString "-"))) .nil))))) (.var 3)) .nil))))))
  (.seq (.app false 5 (.told 16 [(ofString "BadValues"),(ofString "NoRow"),(ofString "Taken"),(ofString "TooMany"),(ofString "BadLead"),(ofString "NoText"),(ofString "NoHole"),(ofString "NoSite"),(ofString "NoBack")] (.call 12 (.cons (.var 1) (.cons (.con (.str (ofString "o"))) (.cons (.bi .idx (.dis (.cons (.var 4) (.cons (.con (.str (ofString "c"))) (.cons (.con (.str (ofString "ab"))) (.cons (.tup (.cons (.con (.str (ofString "a"))) .nil)) .nil))))) (.var 3)) .nil))))))
  (.seq (.app false 5 (.told 16 [(ofString "BadValues"),(ofString "NoRow"),(ofString "Taken"),(ofString "TooMany"),(ofString "BadLead"),(ofString "NoText"),(ofString "NoHole"),(ofString "NoSite"),(ofString "NoBack")] (.call 12 (.cons (.var 1) (.cons (.con (.str (ofString "r"))) (.cons (.bi .idx (.dis (.cons (.con .non) (.cons (.con (.str (ofString "ab"))) (.cons (.dis (.cons (.con (.str (ofString "a"))) .nil)) (.cons (.tup (.cons (.con (.str (ofString "a"))) (.cons (.con (.str (ofString "A"))) .nil))) .nil))))) (.var 3)) .nil))))))
  (.seq (.app false 5 (.told 16 [(ofString "BadValues"),(ofString "NoRow"),(ofString "Taken"),(ofString "TooMany"),(ofString "BadLead"),(ofString "NoText"),(ofString "NoHole"),(ofString "NoSite"),(ofString "NoBack")] (.call 12 (.cons (.var 1) (.cons (.con (.str (ofString "r"))) (.cons (.ite (.bi .ne (.var 4) (.con (.str (ofString "a")))) (.tup (.cons (.var 4) .nil)) (.con (.int 5))) .nil))))))
  (.seq (.ite (.bi .ne (.var 5) (.bi .rep (.dis (.cons (.con (.str (ofString "bad values"))) .nil)) (.con (.int 5)))) (.ret (.con (.bl false))) .skip)
  (.seq (.set false 6 (.bi .idx (.dis (.cons (.con (.str (ofString "n"))) (.cons (.con (.str (ofString "o"))) (.cons (.con (.str (ofString "r"))) (.cons (.con (.str (ofString "n"))) .nil))))) (.bi .mod (.bi .add (.call 15 (.cons (.var 0) (.cons (.con (.int 1)) (.cons (.con (.int 4)) .nil)))) (.var 3)) (.con (.int 4)))))
  (.ite (.bi .ne (.told 16 [(ofString "BadValues"),(ofString "NoRow"),(ofString "Taken"),(ofString "TooMany"),(ofString "BadLead"),(ofString "NoText"),(ofString "NoHole"),(ofString "NoSite"),(ofString "NoBack")] (.call 10 (.cons (.var 1) (.cons (.con (.str (ofString "x"))) (.cons (.var 6) .nil))))) (.con (.str (ofString "taken")))) (.ret (.con (.bl false))) .skip))))))))))))))
  (.seq (.ite (.or (.bi .ne (.told 16 [(ofString "BadValues"),(ofString "NoRow"),(ofString "Taken"),(ofString "TooMany"),(ofString "BadLead"),(ofString "NoText"),(ofString "NoHole"),(ofString "NoSite"),(ofString "NoBack")] (.call 12 (.cons (.var 1) (.cons (.con (.str (ofString "r"))) (.cons (.bi .repU (.tup (.cons (.con (.str (ofString "a"))) .nil)) (.con (.int 3))) .nil))))) (.con (.str (ofString "too many")))) (.bi .ne (.call 10 (.cons (.var 1) (.cons (.con (.str (ofString "x"))) (.cons (.con (.str (ofString "x"))) .nil)))) (.var 1))) (.ret (.con (.bl false))) .skip)
  (.seq (.set false 7 (.call 12 (.cons (.call 12 (.cons (.var 1) (.cons (.con (.str (ofString "r"))) (.cons (.tup .nil) .nil)))) (.cons (.con (.str (ofString "n"))) (.cons (.con (.str (ofString "0"))) .nil)))))
  (.seq (.ite (.bi .ne (.call 13 (.cons (.var 7) (.cons (.con (.int 0)) .nil))) (.tup (.cons (.tup (.cons (.con (.str (ofString "rest"))) (.cons (.con (.str (ofString "r"))) .nil))) .nil))) (.ret (.con (.bl false))) .skip)
  (.ret (.bi .eq (.var 7) (.tup (.cons (.tup (.cons (.con (.str (ofString "word"))) (.cons (.con (.str (ofString "a"))) .nil))) (.cons (.tup (.cons (.con (.str (ofString "any"))) (.cons (.con (.str (ofString "x"))) .nil))) (.cons (.tup (.cons (.con (.str (ofString "word"))) (.cons (.con (.str (ofString "0"))) .nil))) (.cons (.tup (.cons (.con (.str (ofString "one"))) (.cons (.con (.str (ofString "o"))) (.cons (.tup (.cons (.con (.str (ofString "a"))) (.cons (.con (.str (ofString "b"))) .nil))) .nil)))) .nil)))))))))))))
def defs:List DefD:=[⟨3,3,b_is_text_of⟩,⟨1,1,b_is_word⟩,⟨1,1,b_are_words⟩,⟨1,1,b_is_hole⟩,⟨1,1,b_hole_names⟩,⟨3,2,b_hole_named⟩,⟨1,1,b_writes_number⟩,⟨2,2,b_lets_by⟩,⟨3,2,b_sought_hole⟩,⟨4,3,b_with_parts_for⟩,⟨4,3,b_renamed⟩,⟨2,2,b_words_for⟩,⟨6,3,b_narrowed⟩,⟨4,2,b_widened⟩,⟨2,2,b_law_cell⟩,⟨4,3,b_law_pick⟩,⟨3,1,b_law_class⟩,⟨8,1,b_law⟩]
theorem JeY (call:Nat) (x0 x1 x2:D):runD defs (call + 1) 0 [x0,x1,x2] = answerD (exD (runD defs call) b_is_text_of [some x0,some x1,some x2]):=rfl
theorem JgZ (call:Nat) (x0:D):runD defs (call + 1) 1 [x0] = answerD (exD (runD defs call) b_is_word [some x0]):=rfl
theorem JfK (call:Nat) (x0:D):runD defs (call + 1) 2 [x0] = answerD (exD (runD defs call) b_are_words [some x0]):=rfl
theorem JgO (call:Nat) (x0:D):runD defs (call + 1) 3 [x0] = answerD (exD (runD defs call) b_is_hole [some x0]):=rfl
theorem JeW (call:Nat) (x0:D):runD defs (call + 1) 4 [x0] = answerD (exD (runD defs call) b_hole_names [some x0]):=rfl
theorem Jfb (call:Nat) (x0 x1:D):runD defs (call + 1) 5 [x0,x1] = answerD (exD (runD defs call) b_hole_named [some x0,some x1,none]):=rfl
theorem JcJ (call:Nat) (x0:D):runD defs (call + 1) 6 [x0] = answerD (exD (runD defs call) b_writes_number [some x0]):=rfl
theorem JhC (call:Nat) (x0 x1:D):runD defs (call + 1) 7 [x0,x1] = answerD (exD (runD defs call) b_lets_by [some x0,some x1]):=rfl
theorem JeB (call:Nat) (x0 x1:D):runD defs (call + 1) 8 [x0,x1] = answerD (exD (runD defs call) b_sought_hole [some x0,some x1,none]):=rfl
theorem JcD (call:Nat) (x0 x1 x2:D):runD defs (call + 1) 9 [x0,x1,x2] = answerD (exD (runD defs call) b_with_parts_for [some x0,some x1,some x2,none]):=rfl
theorem Jgt (call:Nat) (x0 x1 x2:D):runD defs (call + 1) 10 [x0,x1,x2] = answerD (exD (runD defs call) b_renamed [some x0,some x1,some x2,none]):=rfl
theorem Jft (call:Nat) (x0 x1:D):runD defs (call + 1) 11 [x0,x1] = answerD (exD (runD defs call) b_words_for [some x0,some x1]):=rfl
theorem Jgj (call:Nat) (x0 x1 x2:D):runD defs (call + 1) 12 [x0,x1,x2] = answerD (exD (runD defs call) b_narrowed [some x0,some x1,some x2,none,none,none]):=rfl
theorem Jhu (call:Nat) (x0 x1:D):runD defs (call + 1) 13 [x0,x1] = answerD (exD (runD defs call) b_widened [some x0,some x1,none,none]):=rfl
theorem JS (call:Nat) (x0 x1:D):runD defs (call + 1) 14 [x0,x1] = answerD (exD (runD defs call) b_law_cell [some x0,some x1]):=rfl
theorem Jcu (call:Nat) (x0 x1 x2:D):runD defs (call + 1) 15 [x0,x1,x2] = answerD (exD (runD defs call) b_law_pick [some x0,some x1,some x2,none]):=rfl
theorem Jfm (call:Nat) (x0:D):runD defs (call + 1) 16 [x0] = answerD (exD (runD defs call) b_law_class [some x0,none,none]):=rfl
theorem r_law (call:Nat) (x0:D):runD defs (call + 1) 17 [x0] = answerD (exD (runD defs call) b_law [some x0,none,none,none,none,none,none,none]):=rfl
end K65
namespace K65
open PySem.Str (ofString)
open PySem Pu
abbrev S (x:String):Str:=ofString x
abbrev ofN (ns:List Int):D:=.lst (ns.map .int)
theorem cell (ns:List Int) (k:Int) (hk:0 <= k):∃ v:Int,∀ c,runD defs (c + 1) 14 [ofN ns,.int k] = .ok (.int v):=by
 obtain ⟨k,rfl⟩:=Int.eq_ofNat_of_zero_le hk
 by_cases h:k < ns.length
 ·refine ⟨ns[k],fun c=>?_⟩
  have hi:atD (ns.map D.int) k = some (.int ns[k]):=by
   have:=atN (ns.map D.int) k (by simpa using h)
   rw [this]
   simp
  simp [JS,b_law_cell,h,hi]
 ·have hl:¬ ((k:Int) < (ns.length:Int)):=by omega
  by_cases h0:ns = []
  ·subst h0
   have hl:¬ ((k:Int) < 0):=by omega
   have e:op2 .eq (ofN []) (.lst []) = .ok (.bl true):=rfl
   refine ⟨0,fun c=>?_⟩
   simp [JS,b_law_cell,hl,e,lineD]
  ·have hp:0 < ns.length:=by
    cases ns with
    | nil=>exact absurd rfl h0
    | cons a t=>simp
   have hm:k % ns.length < ns.length:=Nat.mod_lt _ hp
   refine ⟨ns[k % ns.length] * 31 + k,fun c=>?_⟩
   have hq:((k:Int) % (ns.length:Int)) = ((k % ns.length:Nat):Int):=by omega
   have hi:atD (ns.map D.int) ((k:Int) % (ns.length:Int)) = some (.int ns[k % ns.length]):=by
    rw [hq]
    have:=atN (ns.map D.int) (k % ns.length) (by simpa using hm)
    rw [this]
    simp
   have he:D.eqv (.lst (ns.map D.int)) (.lst []) = false:=by
    cases ns with
    | nil=>exact absurd rfl h0
    | cons a t=>simp [D.eqv,eqvs]
   have he2:op2 .eq (.lst (ns.map D.int)) (.lst []) = .ok (.bl false):=by
    rw [o_eq _ _ (by simp [D.dep,Jer]) (by simp [D.dep,deps]),he]
   have hmod:op2 .mod (.int k) (.int ns.length) = .ok (.int ((k:Int) % (ns.length:Int))):=by
    have:0 < (ns.length:Int):=by omega
    simp [op2,hp]
   simp [JS,b_law_cell,he2,lineD,hl,hi,hmod,smallI]
theorem pick (ns:List Int) (k m:Int) (hk:0 <= k) (hm:0 < m):∃ r:Nat,(r:Int) < m /\ ∀ c,runD defs (c + 2) 15 [ofN ns,.int k,.int m] = .ok (.int r):=by
 obtain ⟨v,hv⟩:=cell ns k hk
 let d:Int:=(v + 6151 * (k + 1)) * 40692 % 2147483399
 have d0:0 <= d:=Int.emod_nonneg _ (by decide)
 have d1:d < 2147483399:=Int.emod_lt_of_pos _ (by decide)
 have r0:0 <= (d * d + d / 31) % 2147483629 % m:=Int.emod_nonneg _ (by omega)
 have r1:(d * d + d / 31) % 2147483629 % m < m:=Int.emod_lt_of_pos _ (by omega)
 refine ⟨((d * d + d / 31) % 2147483629 % m).toNat,by omega,fun c=>?_⟩
 have hs:smallI d = true:=by
  simp only [smallI,Bool.and_eq_true,decide_eq_true_eq]
  omega
 rw [Int.toNat_of_nonneg r0]
 have hc:(v + 6151 * (k + 1)) * 40692 % 2147483399 = d:=rfl
 have h6:smallI 6151 = true:=by decide
 have h4:smallI 40692 = true:=by decide
 have q1:∀ i:Int,op2 .mod (.int i) (.int 2147483399) = .ok (.int (i % 2147483399)):=fun i=>by simp [op2]
 have q2:∀ i:Int,op2 .mod (.int i) (.int 2147483629) = .ok (.int (i % 2147483629)):=fun i=>by simp [op2]
 have q3:∀ i:Int,op2 .mod (.int i) (.int m) = .ok (.int (i % m)):=fun i=>by simp [op2,hm]
 have q4:∀ i:Int,op2 .fdiv (.int i) (.int 31) = .ok (.int (i / 31)):=fun i=>by simp [op2]
 simp [Jcu,b_law_pick,hv,h6,h4,hc,hs,q1,q2,q3,q4]
theorem Jbq (a b:String):ofString a = ofString b ↔ a = b:=by
 constructor
 ·intro h
  rw [Str.ofString_eq_toList,Str.ofString_eq_toList] at h
  have h2:=congrArg (fun s:Str=>s.cps.toList) h
  simp only [List.toList_toArray] at h2
  have h3:a.toList = b.toList:=by
   refine List.map_inj_right (f:=Char.toNat) ?_ |>.mp h2
   intro x y hxy
   exact Char.ext (UInt32.toNat_inj.mp hxy)
  exact String.toList_inj.mp h3
 ·rintro rfl
  rfl
@[simp] theorem sb (a b:String):(ofString a == ofString b) = decide (a = b):=by
 by_cases h:a = b
 ·subst h
  simp
 ·have:ofString a ≠ ofString b:=fun e=>h ((Jbq a b).mp e)
  simp [h,this]
def ws9:List Str:=[S "a",S "b",S "7",S "0",S "new",S "zz",S "55",S "01",S "-"]
inductive Part where
 | word (x:Str) | one (n:Str) (ws:List Str) | any (n:Str) | number (n:Str) | rest (n:Str)
def Part.ok:Part -> Prop
 | .word x=>x ∈ ws9
 | .one _ ws=>(∀ w ∈ ws,w ∈ ws9) /\ ws ≠ []
 | _=>True
def Part.name:Part -> Str
 | .word x=>x
 | .one n _=>n
 | .any n=>n
 | .number n=>n
 | .rest n=>n
def Part.kind:Part -> Str
 | .word _=>S "word"
 | .one _ _=>S "one"
 | .any _=>S "any"
 | .number _=>S "number"
 | .rest _=>S "rest"
end K65
namespace K65
open PySem.Str (ofString)
open PySem Pu
def pre:Nat -> Sx -> Sx
 | n + 1,.seq a b=>.seq a (pre n b)
 | _,_=>.skip
def post:Nat -> Sx -> Sx
 | n + 1,.seq a b=>post n b
 | _,s=>s
theorem JbH (call:CallD):∀ (n:Nat) (s:Sx) (env env2:Fm),exD call (pre n s) env = .ok (.nx,env2) -> exD call s env = exD call (post n s) env2
 | 0,s,env,env2,h=>by
  simp only [pre,exD] at h
  cases h
  rfl
 | n + 1,s,env,env2,h=>by
  cases s with
  | seq a b=>
   simp only [pre,post] at h ⊢
   rw [JfC] at h ⊢
   cases q:exD call a env with
   | ok r=>
    rw [q] at h
    obtain ⟨f,e⟩:=r
    cases f with
    | nx=>exact JbH call n b e env2 h
    | _=>cases h
   | ex c=>rw [q] at h; cases h
   | stuck=>rw [q] at h; cases h
  | _=>
   simp only [pre,exD] at h
   cases h
   rfl
def lBd:Sx:=match b_law with
 | .seq _ (.seq _ (.seq (.loop _ _ _ _ b) _))=>b
 | _=>.skip
def lRest:Sx:=post 3 b_law
def lV:Px:=match lBd with
 | .seq (.set _ _ e) _=>e
 | _=>.nil
def lMid:Sx:=post 1 lBd
def lO:Px:=match post 11 lBd with
 | .seq (.set _ _ e) _=>e
 | _=>.nil
def lIf:Sx:=post 12 lBd
def pat:D:=.tup [.tup [.str (S "word"),.str (S "a")],.tup [.str (S "any"),.str (S "x")],.tup [.str (S "number"),.str (S "n")],.tup [.str (S "one"),.str (S "o"),.tup [.str (S "a"),.str (S "b")]],.tup [.str (S "rest"),.str (S "r")]]
def odds:List D:=[.non,.str (S ""),.str (S "A"),.str (S "abcdefghi"),.int 5,.tup [.str (S "a")],.bl true,.str (S "a b"),.lst [],.str (S "a_")]
def En (sc:D) (x3 x4 x5 x6 x7:Option D):Fm:=[some sc,some pat,some (.lst odds),x3,x4,x5,x6,x7]
theorem four {P:Nat -> Prop} (h0:P 0) (h1:P 1) (h2:P 2) (h3:P 3):∀ i,i < 4 -> P i
 | 0,_=>h0
 | 1,_=>h1
 | 2,_=>h2
 | 3,_=>h3
 | k + 4,h=>absurd h (by omega)
theorem ten {P:Nat -> Prop} (h0:P 0) (h1:P 1) (h2:P 2) (h3:P 3) (h4:P 4) (h5:P 5) (h6:P 6) (h7:P 7) (h8:P 8) (h9:P 9):∀ i,i < 10 -> P i
 | 0,_=>h0
 | 1,_=>h1
 | 2,_=>h2
 | 3,_=>h3
 | 4,_=>h4
 | 5,_=>h5
 | 6,_=>h6
 | 7,_=>h7
 | 8,_=>h8
 | 9,_=>h9
 | k + 10,h=>absurd h (by omega)
def othS (i:Nat):Str:=match i with
 | 0=>S "n"
 | 1=>S "o"
 | 2=>S "r"
 | _=>S "n"
def oddV (i:Nat):D:=odds.getD i .non
def badL:D:=.lst [.str (S "bad values"),.str (S "bad values"),.str (S "bad values"),.str (S "bad values"),.str (S "bad values")]
theorem mid (sc:D) (x5 x6 x7:Option D):∀ k,k < 4 -> ∀ v,v < 10 -> exD (runD defs 7) (pre 10 lMid) (En sc (some (.int (k:Nat))) (some (oddV v)) x5 x6 x7) = .ok (.nx,En sc (some (.int (k:Nat))) (some (oddV v)) (some badL) x6 x7):=by
 refine four ?_ ?_ ?_ ?_ <;> refine ten ?_ ?_ ?_ ?_ ?_ ?_ ?_ ?_ ?_ ?_ <;> kernel_rfl
theorem fin (sc:D) (x3 x4 x5 x7:Option D):∀ o,o < 4 -> exD (runD defs 7) lIf (En sc x3 x4 x5 (some (.str (othS o))) x7) = .ok (.nx,En sc x3 x4 x5 (some (.str (othS o))) x7):=by
 refine four ?_ ?_ ?_ ?_ <;> kernel_rfl
theorem rest (sc:D) (x3 x4 x5 x6 x7:Option D):answerD (exD (runD defs 7) lRest (En sc x3 x4 x5 x6 x7)) = .ok (.bl true):=by kernel_rfl
theorem vOf (call:CallD) (sc:D) (x4 x5 x6 x7:Option D) (r:Nat) (hr:r < 10) (hp:call 15 [sc,.int 0,.int 10] = .ok (.int (r:Nat))):∀ k,k < 4 -> evD call lV (En sc (some (.int (k:Nat))) x4 x5 x6 x7) = .ok (oddV ((r + 3 * k) % 10)):=by
 intro k hk
 refine Jcn _ _ (x:=.lst odds) (y:=.int (((r + 3 * k) % 10:Nat))) rfl (Jcn _ _ (x:=.int ((r + 3 * k:Nat))) (y:=.int 10) (Jcn _ _ (x:=.int (r:Nat)) (y:=.int (3 * (k:Int))) (JcG _ _ (ds:=[sc,.int 0,.int 10]) rfl hp) ?_ ?_) rfl ?_) ?_
 ·revert k; refine four ?_ ?_ ?_ ?_ <;> rfl
 ·show Rs.ok (D.int ((r:Int) + 3 * (k:Int))) = _
  congr 2
 ·revert r; exact ten (fun _=>(by revert k; refine four ?_ ?_ ?_ ?_ <;> rfl)) (fun _=>(by revert k; refine four ?_ ?_ ?_ ?_ <;> rfl)) (fun _=>(by revert k; refine four ?_ ?_ ?_ ?_ <;> rfl)) (fun _=>(by revert k; refine four ?_ ?_ ?_ ?_ <;> rfl)) (fun _=>(by revert k; refine four ?_ ?_ ?_ ?_ <;> rfl)) (fun _=>(by revert k; refine four ?_ ?_ ?_ ?_ <;> rfl)) (fun _=>(by revert k; refine four ?_ ?_ ?_ ?_ <;> rfl)) (fun _=>(by revert k; refine four ?_ ?_ ?_ ?_ <;> rfl)) (fun _=>(by revert k; refine four ?_ ?_ ?_ ?_ <;> rfl)) (fun _=>(by revert k; refine four ?_ ?_ ?_ ?_ <;> rfl))
 ·have:∀ i,i < 10 -> op2 .idx (.lst odds) (.int (i:Nat)) = .ok (oddV i):=by refine ten ?_ ?_ ?_ ?_ ?_ ?_ ?_ ?_ ?_ ?_ <;> rfl
  exact this _ (Nat.mod_lt _ (by omega))
theorem oOf (call:CallD) (sc:D) (x4 x5 x6 x7:Option D):∀ r,r < 4 -> call 15 [sc,.int 1,.int 4] = .ok (.int (r:Nat)) -> ∀ k,k < 4 -> evD call lO (En sc (some (.int (k:Nat))) x4 x5 x6 x7) = .ok (.str (othS ((r + k) % 4))):=by
 intro r hr hp k hk
 refine Jcn _ _ (x:=.lst [.str (S "n"),.str (S "o"),.str (S "r"),.str (S "n")]) (y:=.int (((r + k) % 4:Nat))) rfl (Jcn _ _ (x:=.int ((r + k:Nat))) (y:=.int 4) (Jcn _ _ (x:=.int (r:Nat)) (y:=.int (k:Nat)) (JcG _ _ (ds:=[sc,.int 1,.int 4]) rfl hp) rfl rfl) rfl ?_) ?_
 ·clear hp; revert r; refine four ?_ ?_ ?_ ?_ <;> (revert k; refine four ?_ ?_ ?_ ?_ <;> rfl)
 ·have:∀ i,i < 4 -> op2 .idx (.lst [.str (S "n"),.str (S "o"),.str (S "r"),.str (S "n")]) (.int (i:Nat)) = .ok (.str (othS i)):=by refine four ?_ ?_ ?_ ?_ <;> rfl
  exact this _ (Nat.mod_lt _ (by omega))
theorem turn (sc:D) (x4 x5 x6 x7:Option D) (r0 r1:Nat) (h0:r0 < 10) (h1:r1 < 4) (p0:runD defs 7 15 [sc,.int 0,.int 10] = .ok (.int (r0:Nat))) (p1:runD defs 7 15 [sc,.int 1,.int 4] = .ok (.int (r1:Nat))) (k:Nat) (hk:k < 4) :
  ∃ y4 y5 y6,exD (runD defs 7) lBd (En sc (some (.int (k:Nat))) x4 x5 x6 x7) = .ok (.nx,En sc (some (.int (k:Nat))) y4 y5 y6 x7):=by
 refine ⟨some (oddV ((r0 + 3 * k) % 10)),some badL,some (.str (othS ((r1 + k) % 4))),?_⟩
 have e1:lBd = .seq (.set false 4 lV) lMid:=rfl
 have e2:post 10 lMid = .seq (.set false 6 lO) lIf:=rfl
 rw [e1,Jgp _ _ _ (vOf _ sc x4 x5 x6 x7 r0 h0 p0 k hk)]
 show exD (runD defs 7) lMid (En sc (some (.int (k:Nat))) (some (oddV ((r0 + 3 * k) % 10))) x5 x6 x7) = _
 rw [JbH _ 10 _ _ _ (mid sc x5 x6 x7 k hk _ (Nat.mod_lt _ (by omega))),e2,Jgp _ _ _ (oOf _ sc _ _ _ x7 r1 h1 p1 k hk)]
 exact fin sc _ _ _ x7 _ (Nat.mod_lt _ (by omega))
theorem JeE (ns:List Int) (_:ns.length <= 63):runD defs 8 17 [.lst (ns.map .int)] = .ok (.bl true):=by
 obtain ⟨r0,h0,p0⟩:=pick ns 0 10 (by omega) (by omega)
 obtain ⟨r1,h1,p1⟩:=pick ns 1 4 (by omega) (by omega)
 have p0:=p0 5
 have p1:=p1 5
 generalize hs:ofN ns = sc at p0 p1
 have hs':(D.lst (ns.map .int)) = sc:=hs
 rw [hs']
 show answerD (exD (runD defs 7) b_law [some sc,none,none,none,none,none,none,none]) = _
 have e1:exD (runD defs 7) b_law [some sc,none,none,none,none,none,none,none] = exD (runD defs 7) (post 2 b_law) (En sc none none none none none):=JbH _ 2 _ _ _ (by kernel_rfl)
 have e2:post 2 b_law = .seq (.loop false [3] 0 (.un .range (.con (.int 4))) lBd) lRest:=rfl
 obtain ⟨env',⟨y3,y4,y5,y6,y7,rfl⟩,h⟩:=JbM [3] 0 (exD (runD defs 7) lBd) (fun k:Nat=>D.int k) (fun env=>∃ x3 x4 x5 x6 x7,env = En sc x3 x4 x5 x6 x7) [0,1,2,3] (En sc none none none none none) ⟨_,_,_,_,_,rfl⟩ (by
  rintro k hk env ⟨x3,x4,x5,x6,x7,rfl⟩
  have hk4:k < 4:=by simp at hk; omega
  obtain ⟨y4,y5,y6,e⟩:=turn sc x4 x5 x6 x7 r0 r1 (by omega) (by omega) p0 p1 k hk4
  exact ⟨[some (.int (k:Nat))],rfl,_,⟨_,_,_,_,_,rfl⟩,.inl e⟩)
 have e3:exD (runD defs 7) (.loop false [3] 0 (.un .range (.con (.int 4))) lBd) (En sc none none none none none) = .ok (.nx,En sc y3 y4 y5 y6 y7):=h
 rw [e1,e2,JgV _ _ _ e3]
 exact rest sc y3 y4 y5 y6 y7
end K65
namespace K65
open PySem.Str (ofString)
open PySem PySem.Spec PyProof.Rows L2 Pu Rd
abbrev row:Program:=PySem.Challenge.pw_routeboard_k65_narrowing_refused
def stAt (i:Nat):Stmt:=row.main.body.getD i (.Pass ⟨0,0,0,0⟩)
abbrev s_is_text_of:Stmt:=stAt 16
abbrev N_is_text_of:List Str:=[(ofString "thing"),(ofString "signs"),(ofString "most")]
abbrev s_is_word:Stmt:=stAt 17
abbrev N_is_word:List Str:=[(ofString "thing")]
abbrev s_are_words:Stmt:=stAt 18
abbrev N_are_words:List Str:=[(ofString "things")]
abbrev s_is_hole:Stmt:=stAt 19
abbrev N_is_hole:List Str:=[(ofString "part")]
abbrev s_hole_names:Stmt:=stAt 20
abbrev N_hole_names:List Str:=[(ofString "pattern")]
abbrev s_hole_named:Stmt:=stAt 21
abbrev N_hole_named:List Str:=[(ofString "pattern"),(ofString "name"),(ofString "part")]
abbrev s_writes_number:Stmt:=stAt 23
abbrev N_writes_number:List Str:=[(ofString "word")]
abbrev s_lets_by:Stmt:=stAt 24
abbrev N_lets_by:List Str:=[(ofString "part"),(ofString "word")]
abbrev s_sought_hole:Stmt:=stAt 27
abbrev N_sought_hole:List Str:=[(ofString "pattern"),(ofString "name"),(ofString "hole")]
abbrev s_with_parts_for:Stmt:=stAt 28
abbrev N_with_parts_for:List Str:=[(ofString "pattern"),(ofString "hole"),(ofString "parts"),(ofString "at")]
abbrev s_renamed:Stmt:=stAt 29
abbrev N_renamed:List Str:=[(ofString "pattern"),(ofString "old"),(ofString "new"),(ofString "hole")]
abbrev s_words_for:Stmt:=stAt 30
abbrev N_words_for:List Str:=[(ofString "hole"),(ofString "value")]
abbrev s_narrowed:Stmt:=stAt 31
abbrev N_narrowed:List Str:=[(ofString "pattern"),(ofString "name"),(ofString "value"),(ofString "hole"),(ofString "words"),(ofString "told")]
abbrev s_widened:Stmt:=stAt 32
abbrev N_widened:List Str:=[(ofString "pattern"),(ofString "at"),(ofString "ahead"),(ofString "names")]
abbrev s_law_cell:Stmt:=stAt 34
abbrev N_law_cell:List Str:=[(ofString "_law_script"),(ofString "_law_k")]
abbrev s_law_pick:Stmt:=stAt 35
abbrev N_law_pick:List Str:=[(ofString "_law_script"),(ofString "_law_k"),(ofString "_law_many"),(ofString "_law_drawn")]
abbrev s_law_class:Stmt:=stAt 36
abbrev N_law_class:List Str:=[(ofString "_law_kept"),(ofString "_law_found"),(ofString "_law_some")]
abbrev s_law:Stmt:=stAt 38
abbrev N_law:List Str:=[(ofString "_law_script"),(ofString "_law_pattern"),(ofString "_law_odd"),(ofString "_law_k"),(ofString "_law_value"),(ofString "_law_told_here"),(ofString "_law_other"),(ofString "_law_made")]
structure Env (G:Gw) (call:CallD):Prop where
 f_is_text_of:Callee G call 0 (ofString "is_text_of")
 f_is_word:Callee G call 1 (ofString "is_word")
 f_are_words:Callee G call 2 (ofString "are_words")
 f_is_hole:Callee G call 3 (ofString "is_hole")
 f_hole_names:Callee G call 4 (ofString "hole_names")
 f_hole_named:Callee G call 5 (ofString "hole_named")
 f_writes_number:Callee G call 6 (ofString "writes_number")
 f_lets_by:Callee G call 7 (ofString "lets_by")
 f_sought_hole:Callee G call 8 (ofString "sought_hole")
 f_with_parts_for:Callee G call 9 (ofString "with_parts_for")
 f_renamed:Callee G call 10 (ofString "renamed")
 f_words_for:Callee G call 11 (ofString "words_for")
 f_narrowed:Callee G call 12 (ofString "narrowed")
 f_widened:Callee G call 13 (ofString "widened")
 f_law_cell:Callee G call 14 (ofString "_law_cell")
 f_law_pick:Callee G call 15 (ofString "_law_pick")
 f_law_class:Callee G call 16 (ofString "_law_class")
 b_ValueError:G.mg (ofString "ValueError") = none
 b_all:G.mg (ofString "all") = none
 b_isinstance:G.mg (ofString "isinstance") = none
 b_len:G.mg (ofString "len") = none
 b_range:G.mg (ofString "range") = none
 b_str:G.mg (ofString "str") = none
 b_tuple:G.mg (ofString "tuple") = none
 c_FIGURES:GlobC G (ofString "FIGURES") (.str (ofString "0123456789"))
 c_MOST_PARTS:GlobC G (ofString "MOST_PARTS") (.int 6)
 c_MOST_SIGNS:GlobC G (ofString "MOST_SIGNS") (.int 8)
 c_REST_NAMES:GlobC G (ofString "REST_NAMES") (.tup [(.str (ofString "r")),(.str (ofString "s")),(.str (ofString "t")),(.str (ofString "u")),(.str (ofString "v")),(.str (ofString "w")),(.str (ofString "x"))])
 c_WORD_SIGNS:GlobC G (ofString "WORD_SIGNS") (.str (ofString "abcdefghijklmnopqrstuvwxyz0123456789-"))
 x_BadValues:ExcC G (ofString "BadValues")
 x_NoHole:ExcC G (ofString "NoHole")
 x_Taken:ExcC G (ofString "Taken")
 x_TooMany:ExcC G (ofString "TooMany")
 t_RouteError:Takes G (ofString "RouteError") [(ofString "BadValues"),(ofString "NoRow"),(ofString "Taken"),(ofString "TooMany"),(ofString "BadLead"),(ofString "NoText"),(ofString "NoHole"),(ofString "NoSite"),(ofString "NoBack")]
 i_BadLead:IsaC G (ofString "BadLead") [(ofString "BadValues"),(ofString "NoRow"),(ofString "Taken"),(ofString "TooMany"),(ofString "BadLead"),(ofString "NoText"),(ofString "NoHole"),(ofString "NoSite"),(ofString "NoBack")]
 i_BadValues:IsaC G (ofString "BadValues") [(ofString "BadValues"),(ofString "NoRow"),(ofString "Taken"),(ofString "TooMany"),(ofString "BadLead"),(ofString "NoText"),(ofString "NoHole"),(ofString "NoSite"),(ofString "NoBack")]
 i_NoBack:IsaC G (ofString "NoBack") [(ofString "BadValues"),(ofString "NoRow"),(ofString "Taken"),(ofString "TooMany"),(ofString "BadLead"),(ofString "NoText"),(ofString "NoHole"),(ofString "NoSite"),(ofString "NoBack")]
 i_NoHole:IsaC G (ofString "NoHole") [(ofString "BadValues"),(ofString "NoRow"),(ofString "Taken"),(ofString "TooMany"),(ofString "BadLead"),(ofString "NoText"),(ofString "NoHole"),(ofString "NoSite"),(ofString "NoBack")]
 i_NoRow:IsaC G (ofString "NoRow") [(ofString "BadValues"),(ofString "NoRow"),(ofString "Taken"),(ofString "TooMany"),(ofString "BadLead"),(ofString "NoText"),(ofString "NoHole"),(ofString "NoSite"),(ofString "NoBack")]
 i_NoSite:IsaC G (ofString "NoSite") [(ofString "BadValues"),(ofString "NoRow"),(ofString "Taken"),(ofString "TooMany"),(ofString "BadLead"),(ofString "NoText"),(ofString "NoHole"),(ofString "NoSite"),(ofString "NoBack")]
 i_NoText:IsaC G (ofString "NoText") [(ofString "BadValues"),(ofString "NoRow"),(ofString "Taken"),(ofString "TooMany"),(ofString "BadLead"),(ofString "NoText"),(ofString "NoHole"),(ofString "NoSite"),(ofString "NoBack")]
 i_Taken:IsaC G (ofString "Taken") [(ofString "BadValues"),(ofString "NoRow"),(ofString "Taken"),(ofString "TooMany"),(ofString "BadLead"),(ofString "NoText"),(ofString "NoHole"),(ofString "NoSite"),(ofString "NoBack")]
 i_TooMany:IsaC G (ofString "TooMany") [(ofString "BadValues"),(ofString "NoRow"),(ofString "Taken"),(ofString "TooMany"),(ofString "BadLead"),(ofString "NoText"),(ofString "NoHole"),(ofString "NoSite"),(ofString "NoBack")]
 i_ValueError:IsaC G (ofString "ValueError") [(ofString "BadValues"),(ofString "NoRow"),(ofString "Taken"),(ofString "TooMany"),(ofString "BadLead"),(ofString "NoText"),(ofString "NoHole"),(ofString "NoSite"),(ofString "NoBack")]
 o_told:Told G call (ofString "_law_told") 16 [(ofString "BadValues"),(ofString "NoRow"),(ofString "Taken"),(ofString "TooMany"),(ofString "BadLead"),(ofString "NoText"),(ofString "NoHole"),(ofString "NoSite"),(ofString "NoBack")]
structure EnvN (G:Gw):Prop where
 b_isinstance:G.mg (ofString "isinstance") = none
 i_BadLead:IsaC G (ofString "BadLead") [(ofString "BadValues"),(ofString "NoRow"),(ofString "Taken"),(ofString "TooMany"),(ofString "BadLead"),(ofString "NoText"),(ofString "NoHole"),(ofString "NoSite"),(ofString "NoBack")]
 i_BadValues:IsaC G (ofString "BadValues") [(ofString "BadValues"),(ofString "NoRow"),(ofString "Taken"),(ofString "TooMany"),(ofString "BadLead"),(ofString "NoText"),(ofString "NoHole"),(ofString "NoSite"),(ofString "NoBack")]
 i_NoBack:IsaC G (ofString "NoBack") [(ofString "BadValues"),(ofString "NoRow"),(ofString "Taken"),(ofString "TooMany"),(ofString "BadLead"),(ofString "NoText"),(ofString "NoHole"),(ofString "NoSite"),(ofString "NoBack")]
 i_NoHole:IsaC G (ofString "NoHole") [(ofString "BadValues"),(ofString "NoRow"),(ofString "Taken"),(ofString "TooMany"),(ofString "BadLead"),(ofString "NoText"),(ofString "NoHole"),(ofString "NoSite"),(ofString "NoBack")]
 i_NoRow:IsaC G (ofString "NoRow") [(ofString "BadValues"),(ofString "NoRow"),(ofString "Taken"),(ofString "TooMany"),(ofString "BadLead"),(ofString "NoText"),(ofString "NoHole"),(ofString "NoSite"),(ofString "NoBack")]
 i_NoSite:IsaC G (ofString "NoSite") [(ofString "BadValues"),(ofString "NoRow"),(ofString "Taken"),(ofString "TooMany"),(ofString "BadLead"),(ofString "NoText"),(ofString "NoHole"),(ofString "NoSite"),(ofString "NoBack")]
 i_NoText:IsaC G (ofString "NoText") [(ofString "BadValues"),(ofString "NoRow"),(ofString "Taken"),(ofString "TooMany"),(ofString "BadLead"),(ofString "NoText"),(ofString "NoHole"),(ofString "NoSite"),(ofString "NoBack")]
 i_Taken:IsaC G (ofString "Taken") [(ofString "BadValues"),(ofString "NoRow"),(ofString "Taken"),(ofString "TooMany"),(ofString "BadLead"),(ofString "NoText"),(ofString "NoHole"),(ofString "NoSite"),(ofString "NoBack")]
 i_TooMany:IsaC G (ofString "TooMany") [(ofString "BadValues"),(ofString "NoRow"),(ofString "Taken"),(ofString "TooMany"),(ofString "BadLead"),(ofString "NoText"),(ofString "NoHole"),(ofString "NoSite"),(ofString "NoBack")]
 i_ValueError:IsaC G (ofString "ValueError") [(ofString "BadValues"),(ofString "NoRow"),(ofString "Taken"),(ofString "TooMany"),(ofString "BadLead"),(ofString "NoText"),(ofString "NoHole"),(ofString "NoSite"),(ofString "NoBack")]
abbrev s_law_told:Stmt:=stAt 37
section
variable {X:Cx} {G:Gw} {call:CallD} {H0:Hp}
theorem Jbn (E:Env G call) (C:Ctx X G N_is_text_of (defScope s_is_text_of).names) (hx:HX X (defScope s_is_text_of).names):PSs X (defBody s_is_text_of) (tS X call [] H0 b_is_text_of):=by
 refine @Jd _ _ _ _ _ _ _ _ ?_ ?_
 refine @Jw _ _ _ _ _ _ _ _ _ _ _ ?_ ?_ Jo
 refine @JbQ _ _ _ _ _ ?_
 refine @JQ _ _ _ _ ?_ (fun _=>rfl)
 refine @cIsi _ _ _ _ _ _ _ _ _ _ _ _ _ Jgf C E.b_isinstance E.b_str PyProof.Rows.boot_str ?_ (by decide +kernel) (by decide +kernel) (by decide +kernel) (by decide +kernel) rfl
 exact vV C (by decide +kernel)
 exact @Jg _ _ _ _ _ _ (@Jk _ _ _ _ _ _ _ Jaq)
 refine @Jg _ _ _ _ _ _ ?_
 refine @Jk _ _ _ _ _ _ _ ?_
 refine @Jhn _ _ _ _ _ _ _ _ ?_ ?_
 refine @JeA _ _ _ _ _ _ _ _ _ _ _ _ _ JcR JcR Jf ?_ ?_ rfl
 refine @cLen _ _ _ _ _ _ _ _ _ C E.b_len ?_ (by decide +kernel) rfl
 exact vV C (by decide +kernel)
 exact vV C (by decide +kernel)
 refine @JeQ _ _ _ _ _ _ ?_
 refine @cAll _ _ _ _ _ _ _ _ _ C E.b_all ?_ (by decide +kernel) rfl
 refine @Ji _ _ _ _ ?_ rfl
 refine @Jco _ _ _ _ _ _ _ _ _ _ _ _ _ _ _ C (by decide +kernel) ?_ ?_ (fun _ C'=>JaK) ?_ (fun _=>rfl)
 refine @Jam _ _ _ _ _ _ ?_
 exact vV C (by decide +kernel)
 exact (fun _ C'=>gOne C' (by decide +kernel))
 intro _ C'
 refine @eIn _ _ _ _ _ _ _ _ _ _ C' ?_ ?_ rfl
 exact vV C' (by decide +kernel)
 exact vV C' (by decide +kernel)
theorem Jdb (E:Env G call) (C:Ctx X G N_is_word (defScope s_is_word).names) (hx:HX X (defScope s_is_word).names):PSs X (defBody s_is_word) (tS X call [] H0 b_is_word):=by
 refine @Jg _ _ _ _ _ _ ?_
 refine @Jk _ _ _ _ _ _ _ ?_
 refine @cF _ _ _ _ _ _ _ _ _ _ _ C _ E.f_is_text_of (by decide +kernel) ?_ rfl rfl
 refine @Ja _ _ _ _ _ _ ?_ ?_ rfl
 exact vV C (by decide +kernel)
 refine @Ja _ _ _ _ _ _ ?_ ?_ rfl
 exact vG C E.c_WORD_SIGNS (by decide +kernel)
 refine @Ja _ _ _ _ _ _ ?_ Jc rfl
 exact vG C E.c_MOST_SIGNS (by decide +kernel)
theorem Jbz (E:Env G call) (C:Ctx X G N_are_words (defScope s_are_words).names) (hx:HX X (defScope s_are_words).names):PSs X (defBody s_are_words) (tS X call [] H0 b_are_words):=by
 refine @Jg _ _ _ _ _ _ ?_
 refine @Jk _ _ _ _ _ _ _ ?_
 refine @cAll _ _ _ _ _ _ _ _ _ C E.b_all ?_ (by decide +kernel) rfl
 refine @Ji _ _ _ _ ?_ rfl
 refine @Jco _ _ _ _ _ _ _ _ _ _ _ _ _ _ _ C (by decide +kernel) ?_ ?_ (fun _ C'=>JaK) ?_ (fun _=>rfl)
 refine @Jam _ _ _ _ _ _ ?_
 exact vV C (by decide +kernel)
 exact (fun _ C'=>gOne C' (by decide +kernel))
 intro _ C'
 refine @cF _ _ _ _ _ _ _ _ _ _ _ C' _ E.f_is_word (by decide +kernel) ?_ rfl rfl
 refine @Ja _ _ _ _ _ _ ?_ Jc rfl
 exact vV C' (by decide +kernel)
theorem JcX (E:Env G call) (C:Ctx X G N_is_hole (defScope s_is_hole).names) (hx:HX X (defScope s_is_hole).names):PSs X (defBody s_is_hole) (tS X call [] H0 b_is_hole):=by
 refine @Jg _ _ _ _ _ _ ?_
 refine @Jk _ _ _ _ _ _ _ ?_
 refine @eNe _ _ _ _ _ _ _ _ _ _ C ?_ Jb
 refine @eIx _ _ _ _ _ _ _ ?_ Jf (fun _ _=>rfl)
 exact vV C (by decide +kernel)
theorem Jba (E:Env G call) (C:Ctx X G N_hole_names (defScope s_hole_names).names) (hx:HX X (defScope s_hole_names).names):PSs X (defBody s_hole_names) (tS X call [] H0 b_hole_names):=by
 refine @Jg _ _ _ _ _ _ ?_
 refine @Jk _ _ _ _ _ _ _ ?_
 refine @Ji _ _ _ _ ?_ rfl
 refine @Jco _ _ _ _ _ _ _ _ _ _ _ _ _ _ _ C (by decide +kernel) ?_ ?_ ?_ ?_ (fun _=>rfl)
 refine @Jam _ _ _ _ _ _ ?_
 exact vV C (by decide +kernel)
 exact (fun _ C'=>gOne C' (by decide +kernel))
 intro _ C'
 refine @JcF _ _ _ _ ?_
 refine @JQ _ _ _ _ ?_ (fun _=>rfl)
 refine @cF _ _ _ _ _ _ _ _ _ _ _ C' _ E.f_is_hole (by decide +kernel) ?_ rfl rfl
 refine @Ja _ _ _ _ _ _ ?_ Jc rfl
 exact vV C' (by decide +kernel)
 intro _ C'
 refine @eIx _ _ _ _ _ _ _ ?_ Jf (fun _ _=>rfl)
 exact vV C' (by decide +kernel)
theorem Jbw (E:Env G call) (C:Ctx X G N_hole_named (defScope s_hole_named).names) (hx:HX X (defScope s_hole_named).names):PSs X (defBody s_hole_named) (tS X call [] H0 b_hole_named):=by
 refine @Jd _ _ _ _ _ _ _ _ ?_ ?_
 refine @Jfd _ _ _ _ _ _ _ _ _ _ _ _ _ _ _ C hx.pass ?_ ?_ ?_ rfl (fun _=>rfl)
 refine @Jam _ _ _ _ _ _ ?_
 exact vV C (by decide +kernel)
 exact @lOne _ _ _ _ _ _ _ _ _ C (by decide +kernel)
 refine @Jg _ _ _ _ _ _ ?_
 refine @Jw _ _ _ _ _ _ _ _ _ _ _ ?_ ?_ Jo
 refine @PW.pt _ _ _ ?_
 refine @JbN _ _ _ _ _ _ _ _ ?_ ?_
 refine @JQ _ _ _ _ ?_ (fun _=>rfl)
 refine @cF _ _ _ _ _ _ _ _ _ _ _ C _ E.f_is_hole (by decide +kernel) ?_ rfl rfl
 refine @Ja _ _ _ _ _ _ ?_ Jc rfl
 exact vV C (by decide +kernel)
 refine @Jah _ _ _ _ _ _ ?_
 refine @tEq _ _ _ _ _ _ _ _ _ _ C ?_ ?_
 refine @eIx _ _ _ _ _ _ _ ?_ Jf (fun _ _=>rfl)
 exact vV C (by decide +kernel)
 exact vV C (by decide +kernel)
 refine @Jg _ _ _ _ _ _ ?_
 refine @Jk _ _ _ _ _ _ _ ?_
 exact vV C (by decide +kernel)
 exact @Jg _ _ _ _ _ _ (@Jk _ _ _ _ _ _ _ Jdc)
theorem Jaj (E:Env G call) (C:Ctx X G N_writes_number (defScope s_writes_number).names) (hx:HX X (defScope s_writes_number).names):PSs X (defBody s_writes_number) (tS X call [] H0 b_writes_number):=by
 refine @Jd _ _ _ _ _ _ _ _ ?_ ?_
 refine @Jw _ _ _ _ _ _ _ _ _ _ _ ?_ ?_ Jo
 refine @PW.pt _ _ _ ?_
 refine @JfQ _ _ _ _ _ _ _ _ ?_ ?_
 refine @tEq _ _ _ _ _ _ _ _ _ _ C ?_ Jb
 exact vV C (by decide +kernel)
 refine @Jah _ _ _ _ _ _ ?_
 refine @JbQ _ _ _ _ _ ?_
 refine @JQ _ _ _ _ ?_ (fun _=>rfl)
 refine @cAll _ _ _ _ _ _ _ _ _ C E.b_all ?_ (by decide +kernel) rfl
 refine @Ji _ _ _ _ ?_ rfl
 refine @Jco _ _ _ _ _ _ _ _ _ _ _ _ _ _ _ C (by decide +kernel) ?_ ?_ (fun _ C'=>JaK) ?_ (fun _=>rfl)
 refine @Jam _ _ _ _ _ _ ?_
 exact vV C (by decide +kernel)
 exact (fun _ C'=>gOne C' (by decide +kernel))
 intro _ C'
 refine @eIn _ _ _ _ _ _ _ _ _ _ C' ?_ ?_ rfl
 exact vV C' (by decide +kernel)
 exact vG C' E.c_FIGURES (by decide +kernel)
 exact @Jg _ _ _ _ _ _ (@Jk _ _ _ _ _ _ _ Jaq)
 refine @Jg _ _ _ _ _ _ ?_
 refine @Jk _ _ _ _ _ _ _ ?_
 refine @pI_or _ _ _ _ _ _ _ _ ?_ ?_
 refine @eEq _ _ _ _ _ _ _ _ _ _ C ?_ Jb
 exact vV C (by decide +kernel)
 refine @JeQ _ _ _ _ _ _ ?_
 refine @JhJ _ _ _ _ _ ?_
 refine @Jdo _ _ _ _ _ _ _ _ ?_ Jb trivial rfl rfl rfl
 exact vV C (by decide +kernel)
theorem Jdr (E:Env G call) (C:Ctx X G N_lets_by (defScope s_lets_by).names) (hx:HX X (defScope s_lets_by).names):PSs X (defBody s_lets_by) (tS X call [] H0 b_lets_by):=by
 refine @Jd _ _ _ _ _ _ _ _ ?_ ?_
 refine @Jw _ _ _ _ _ _ _ _ _ _ _ ?_ ?_ Jo
 refine @tEq _ _ _ _ _ _ _ _ _ _ C ?_ Jb
 refine @eIx _ _ _ _ _ _ _ ?_ Jf (fun _ _=>rfl)
 exact vV C (by decide +kernel)
 refine @Jg _ _ _ _ _ _ ?_
 refine @Jk _ _ _ _ _ _ _ ?_
 refine @eEq _ _ _ _ _ _ _ _ _ _ C ?_ ?_
 exact vV C (by decide +kernel)
 refine @eIx _ _ _ _ _ _ _ ?_ Jf (fun _ _=>rfl)
 exact vV C (by decide +kernel)
 refine @Jd _ _ _ _ _ _ _ _ ?_ ?_
 refine @Jw _ _ _ _ _ _ _ _ _ _ _ ?_ ?_ Jo
 refine @tEq _ _ _ _ _ _ _ _ _ _ C ?_ Jb
 refine @eIx _ _ _ _ _ _ _ ?_ Jf (fun _ _=>rfl)
 exact vV C (by decide +kernel)
 refine @Jg _ _ _ _ _ _ ?_
 refine @Jk _ _ _ _ _ _ _ ?_
 refine @eIn _ _ _ _ _ _ _ _ _ _ C ?_ ?_ rfl
 exact vV C (by decide +kernel)
 refine @eIx _ _ _ _ _ _ _ ?_ Jf (fun _ _=>rfl)
 exact vV C (by decide +kernel)
 refine @Jd _ _ _ _ _ _ _ _ ?_ ?_
 refine @Jw _ _ _ _ _ _ _ _ _ _ _ ?_ ?_ Jo
 refine @tEq _ _ _ _ _ _ _ _ _ _ C ?_ Jb
 refine @eIx _ _ _ _ _ _ _ ?_ Jf (fun _ _=>rfl)
 exact vV C (by decide +kernel)
 refine @Jg _ _ _ _ _ _ ?_
 refine @Jk _ _ _ _ _ _ _ ?_
 refine @cF _ _ _ _ _ _ _ _ _ _ _ C _ E.f_writes_number (by decide +kernel) ?_ rfl rfl
 refine @Ja _ _ _ _ _ _ ?_ Jc rfl
 exact vV C (by decide +kernel)
 exact @Jg _ _ _ _ _ _ (@Jk _ _ _ _ _ _ _ Jaq)
theorem JaW (E:Env G call) (C:Ctx X G N_sought_hole (defScope s_sought_hole).names) (hx:HX X (defScope s_sought_hole).names):PSs X (defBody s_sought_hole) (tS X call [] H0 b_sought_hole):=by
 refine @Jd _ _ _ _ _ _ _ _ ?_ ?_
 refine @aSet _ _ _ _ _ _ _ _ _ _ _ _ _ C (by decide +kernel) ?_ rfl rfl
 refine @cF _ _ _ _ _ _ _ _ _ _ _ C _ E.f_hole_named (by decide +kernel) ?_ rfl rfl
 refine @Ja _ _ _ _ _ _ ?_ ?_ rfl
 exact vV C (by decide +kernel)
 refine @Ja _ _ _ _ _ _ ?_ Jc rfl
 exact vV C (by decide +kernel)
 refine @Jd _ _ _ _ _ _ _ _ ?_ ?_
 refine @Jw _ _ _ _ _ _ _ _ _ _ _ ?_ ?_ Jo
 refine @Jhi _ _ _ _ _ _ _ ?_
 exact vV C (by decide +kernel)
 refine @Jg _ _ _ _ _ _ ?_
 refine @JP _ _ _ _ _ _ _ _ _ _ _ _ _ C E.x_NoHole (by decide +kernel) ?_ rfl
 refine @Jfg _ _ _ _ _ _ _ ?_ rfl (by decide +kernel)
 refine @JeP _ _ _ _ _ _ _ ?_ (by decide +kernel)
 refine @JeV _ _ _ _ _ _ _ ?_ (@Jfc _ _)
 exact vV C (by decide +kernel)
 refine @Jg _ _ _ _ _ _ ?_
 refine @Jk _ _ _ _ _ _ _ ?_
 exact vV C (by decide +kernel)
theorem Jab (E:Env G call) (C:Ctx X G N_with_parts_for (defScope s_with_parts_for).names) (hx:HX X (defScope s_with_parts_for).names):PSs X (defBody s_with_parts_for) (tS X call [] H0 b_with_parts_for):=by
 refine @Jd _ _ _ _ _ _ _ _ ?_ ?_
 refine @aSet _ _ _ _ _ _ _ _ _ _ _ _ _ C (by decide +kernel) ?_ rfl rfl
 refine @cIdxT _ _ _ _ _ _ _ _ _ _ _ C ?_ ?_ rfl rfl rfl rfl
 exact vV C (by decide +kernel)
 exact vV C (by decide +kernel)
 refine @Jg _ _ _ _ _ _ ?_
 refine @Jk _ _ _ _ _ _ _ ?_
 refine @eAdd _ _ _ _ _ _ _ ?_ ?_
 refine @eAdd _ _ _ _ _ _ _ ?_ ?_
 refine @Jad _ _ _ _ _ _ _ _ _ _ ?_ JaJ ?_
 exact vV C (by decide +kernel)
 refine @JaM _ _ _ _ ?_
 exact vV C (by decide +kernel)
 exact vV C (by decide +kernel)
 refine @Jad _ _ _ _ _ _ _ _ _ _ ?_ ?_ JaJ
 exact vV C (by decide +kernel)
 refine @JaM _ _ _ _ ?_
 refine @eAdd _ _ _ _ _ _ _ ?_ Jf
 exact vV C (by decide +kernel)
theorem JdN (E:Env G call) (C:Ctx X G N_renamed (defScope s_renamed).names) (hx:HX X (defScope s_renamed).names):PSs X (defBody s_renamed) (tS X call [] H0 b_renamed):=by
 refine @Jd _ _ _ _ _ _ _ _ ?_ ?_
 refine @aSet _ _ _ _ _ _ _ _ _ _ _ _ _ C (by decide +kernel) ?_ rfl rfl
 refine @cF _ _ _ _ _ _ _ _ _ _ _ C _ E.f_sought_hole (by decide +kernel) ?_ rfl rfl
 refine @Ja _ _ _ _ _ _ ?_ ?_ rfl
 exact vV C (by decide +kernel)
 refine @Ja _ _ _ _ _ _ ?_ Jc rfl
 exact vV C (by decide +kernel)
 refine @Jd _ _ _ _ _ _ _ _ ?_ ?_
 refine @Jw _ _ _ _ _ _ _ _ _ _ _ ?_ ?_ Jo
 refine @PW.pt _ _ _ ?_
 refine @JbN _ _ _ _ _ _ _ _ ?_ ?_
 refine @tNe _ _ _ _ _ _ _ _ _ _ C ?_ ?_
 exact vV C (by decide +kernel)
 exact vV C (by decide +kernel)
 refine @Jah _ _ _ _ _ _ ?_
 refine @tIn _ _ _ _ _ _ _ _ _ _ C ?_ ?_ rfl
 exact vV C (by decide +kernel)
 refine @cF _ _ _ _ _ _ _ _ _ _ _ C _ E.f_hole_names (by decide +kernel) ?_ rfl rfl
 refine @Ja _ _ _ _ _ _ ?_ Jc rfl
 exact vV C (by decide +kernel)
 refine @Jg _ _ _ _ _ _ ?_
 refine @JP _ _ _ _ _ _ _ _ _ _ _ _ _ C E.x_Taken (by decide +kernel) ?_ rfl
 refine @Jfg _ _ _ _ _ _ _ ?_ rfl (by decide +kernel)
 refine @JeP _ _ _ _ _ _ _ ?_ (by decide +kernel)
 refine @JeV _ _ _ _ _ _ _ ?_ (@Jfc _ _)
 exact vV C (by decide +kernel)
 refine @Jg _ _ _ _ _ _ ?_
 refine @Jk _ _ _ _ _ _ _ ?_
 refine @cF _ _ _ _ _ _ _ _ _ _ _ C _ E.f_with_parts_for (by decide +kernel) ?_ rfl rfl
 refine @Ja _ _ _ _ _ _ ?_ ?_ rfl
 exact vV C (by decide +kernel)
 refine @Ja _ _ _ _ _ _ ?_ ?_ rfl
 exact vV C (by decide +kernel)
 refine @Ja _ _ _ _ _ _ ?_ Jc rfl
 refine @Jl _ _ _ _ _ _ ?_
 refine @Ja _ _ _ _ _ _ ?_ Jc rfl
 refine @eAdd _ _ _ _ _ _ _ ?_ ?_
 refine @Jl _ _ _ _ _ _ ?_
 refine @Ja _ _ _ _ _ _ ?_ ?_ rfl
 refine @eIx _ _ _ _ _ _ _ ?_ Jf (fun _ _=>rfl)
 exact vV C (by decide +kernel)
 refine @Ja _ _ _ _ _ _ ?_ Jc rfl
 exact vV C (by decide +kernel)
 refine @Jad _ _ _ _ _ _ _ _ _ _ ?_ (@JaM _ _ _ _ Jf) JaJ
 exact vV C (by decide +kernel)
theorem JbG (E:Env G call) (C:Ctx X G N_words_for (defScope s_words_for).names) (hx:HX X (defScope s_words_for).names):PSs X (defBody s_words_for) (tS X call [] H0 b_words_for):=by
 refine @Jd _ _ _ _ _ _ _ _ ?_ ?_
 refine @Jw _ _ _ _ _ _ _ _ _ _ _ ?_ ?_ ?_
 refine @tEq _ _ _ _ _ _ _ _ _ _ C ?_ Jb
 refine @eIx _ _ _ _ _ _ _ ?_ Jf (fun _ _=>rfl)
 exact vV C (by decide +kernel)
 refine @Jg _ _ _ _ _ _ ?_
 refine @Jw _ _ _ _ _ _ _ _ _ _ _ ?_ ?_ Jo
 refine @PW.pt _ _ _ ?_
 refine @JbN _ _ _ _ _ _ _ _ ?_ ?_
 refine @JQ _ _ _ _ ?_ (fun _=>rfl)
 refine @cIsi _ _ _ _ _ _ _ _ _ _ _ _ _ JfI C E.b_isinstance E.b_tuple PyProof.Rows.boot_tuple ?_ (by decide +kernel) (by decide +kernel) (by decide +kernel) (by decide +kernel) rfl
 exact vV C (by decide +kernel)
 refine @Jah _ _ _ _ _ _ ?_
 refine @JQ _ _ _ _ ?_ (fun _=>rfl)
 refine @cF _ _ _ _ _ _ _ _ _ _ _ C _ E.f_are_words (by decide +kernel) ?_ rfl rfl
 refine @Ja _ _ _ _ _ _ ?_ Jc rfl
 exact vV C (by decide +kernel)
 refine @Jg _ _ _ _ _ _ ?_
 refine @Jk _ _ _ _ _ _ _ ?_
 exact vV C (by decide +kernel)
 refine @Jg _ _ _ _ _ _ ?_
 refine @Jw _ _ _ _ _ _ _ _ _ _ _ ?_ ?_ Jo
 refine @PW.pt _ _ _ ?_
 refine @JbN _ _ _ _ _ _ _ _ ?_ ?_
 refine @JQ _ _ _ _ ?_ (fun _=>rfl)
 refine @cF _ _ _ _ _ _ _ _ _ _ _ C _ E.f_is_word (by decide +kernel) ?_ rfl rfl
 refine @Ja _ _ _ _ _ _ ?_ Jc rfl
 exact vV C (by decide +kernel)
 refine @Jah _ _ _ _ _ _ ?_
 refine @JQ _ _ _ _ ?_ (fun _=>rfl)
 refine @cF _ _ _ _ _ _ _ _ _ _ _ C _ E.f_lets_by (by decide +kernel) ?_ rfl rfl
 refine @Ja _ _ _ _ _ _ ?_ ?_ rfl
 exact vV C (by decide +kernel)
 refine @Ja _ _ _ _ _ _ ?_ Jc rfl
 exact vV C (by decide +kernel)
 refine @Jg _ _ _ _ _ _ ?_
 refine @Jk _ _ _ _ _ _ _ ?_
 refine @Jl _ _ _ _ _ _ ?_
 refine @Ja _ _ _ _ _ _ ?_ Jc rfl
 exact vV C (by decide +kernel)
 refine @Jg _ _ _ _ _ _ ?_
 exact @JP _ _ _ _ _ _ _ _ _ _ _ _ _ C E.x_BadValues (by decide +kernel) (@Jfw _ _ _ _ _) rfl
theorem Jcv (E:Env G call) (C:Ctx X G N_narrowed (defScope s_narrowed).names) (hx:HX X (defScope s_narrowed).names):PSs X (defBody s_narrowed) (tS X call [] H0 b_narrowed):=by
 refine @Jd _ _ _ _ _ _ _ _ ?_ ?_
 refine @aSet _ _ _ _ _ _ _ _ _ _ _ _ _ C (by decide +kernel) ?_ rfl rfl
 refine @cF _ _ _ _ _ _ _ _ _ _ _ C _ E.f_sought_hole (by decide +kernel) ?_ rfl rfl
 refine @Ja _ _ _ _ _ _ ?_ ?_ rfl
 exact vV C (by decide +kernel)
 refine @Ja _ _ _ _ _ _ ?_ Jc rfl
 exact vV C (by decide +kernel)
 refine @Jd _ _ _ _ _ _ _ _ ?_ ?_
 refine @aSet _ _ _ _ _ _ _ _ _ _ _ _ _ C (by decide +kernel) ?_ rfl rfl
 refine @cF _ _ _ _ _ _ _ _ _ _ _ C _ E.f_words_for (by decide +kernel) ?_ rfl rfl
 refine @Ja _ _ _ _ _ _ ?_ ?_ rfl
 exact vV C (by decide +kernel)
 refine @Ja _ _ _ _ _ _ ?_ Jc rfl
 exact vV C (by decide +kernel)
 refine @Jd _ _ _ _ _ _ _ _ ?_ ?_
 refine @aSet _ _ _ _ _ _ _ _ _ _ _ _ _ C (by decide +kernel) ?_ rfl rfl
 refine @cF _ _ _ _ _ _ _ _ _ _ _ C _ E.f_with_parts_for (by decide +kernel) ?_ rfl rfl
 refine @Ja _ _ _ _ _ _ ?_ ?_ rfl
 exact vV C (by decide +kernel)
 refine @Ja _ _ _ _ _ _ ?_ ?_ rfl
 exact vV C (by decide +kernel)
 refine @Ja _ _ _ _ _ _ ?_ Jc rfl
 refine @Jhe _ _ _ _ _ _ _ _ _ C E.b_tuple ?_ (by decide +kernel) rfl
 refine @Ji _ _ _ _ ?_ rfl
 refine @Jco _ _ _ _ _ _ _ _ _ _ _ _ _ _ _ C (by decide +kernel) ?_ ?_ (fun _ C'=>JaK) ?_ (fun _=>rfl)
 refine @Jam _ _ _ _ _ _ ?_
 exact vV C (by decide +kernel)
 exact (fun _ C'=>gOne C' (by decide +kernel))
 intro _ C'
 refine @Jl _ _ _ _ _ _ ?_
 refine @Ja _ _ _ _ _ _ Jb ?_ rfl
 refine @Ja _ _ _ _ _ _ ?_ Jc rfl
 exact vV C' (by decide +kernel)
 refine @Jd _ _ _ _ _ _ _ _ ?_ ?_
 refine @Jw _ _ _ _ _ _ _ _ _ _ _ ?_ ?_ Jo
 refine @tGt _ _ _ _ _ _ _ ?_ ?_
 refine @cLen _ _ _ _ _ _ _ _ _ C E.b_len ?_ (by decide +kernel) rfl
 exact vV C (by decide +kernel)
 exact vG C E.c_MOST_PARTS (by decide +kernel)
 refine @Jg _ _ _ _ _ _ ?_
 exact @JP _ _ _ _ _ _ _ _ _ _ _ _ _ C E.x_TooMany (by decide +kernel) (@Jfw _ _ _ _ _) rfl
 refine @Jg _ _ _ _ _ _ ?_
 refine @Jk _ _ _ _ _ _ _ ?_
 exact vV C (by decide +kernel)
theorem JcT (E:Env G call) (C:Ctx X G N_widened (defScope s_widened).names) (hx:HX X (defScope s_widened).names):PSs X (defBody s_widened) (tS X call [] H0 b_widened):=by
 refine @Jd _ _ _ _ _ _ _ _ ?_ ?_
 refine @Jw _ _ _ _ _ _ _ _ _ _ _ ?_ ?_ Jo
 refine @JbQ _ _ _ _ _ ?_
 refine @JeG _ _ _ _ _ _ _ _ _ _ _ _ _ JcR JeX Jf ?_ ?_ rfl
 exact vV C (by decide +kernel)
 refine @cLen _ _ _ _ _ _ _ _ _ C E.b_len ?_ (by decide +kernel) rfl
 exact vV C (by decide +kernel)
 refine @Jg _ _ _ _ _ _ ?_
 exact @JP _ _ _ _ _ _ _ _ _ _ _ _ _ C E.x_NoHole (by decide +kernel) (@Jfw _ _ _ _ _) rfl
 refine @Jd _ _ _ _ _ _ _ _ ?_ ?_
 refine @Jw _ _ _ _ _ _ _ _ _ _ _ ?_ ?_ Jo
 refine @tEq _ _ _ _ _ _ _ _ _ _ C ?_ Jb
 refine @eIx _ _ _ _ _ _ _ ?_ Jf (fun _ _=>rfl)
 refine @eIx _ _ _ _ _ _ _ ?_ ?_ (fun _ _=>rfl)
 exact vV C (by decide +kernel)
 exact vV C (by decide +kernel)
 refine @Jg _ _ _ _ _ _ ?_
 refine @Jk _ _ _ _ _ _ _ ?_
 exact vV C (by decide +kernel)
 refine @Jd _ _ _ _ _ _ _ _ ?_ ?_
 refine @aSet _ _ _ _ _ _ _ _ _ _ _ _ _ C (by decide +kernel) ?_ rfl rfl
 refine @Jad _ _ _ _ _ _ _ _ _ _ ?_ JaJ ?_
 exact vV C (by decide +kernel)
 refine @JaM _ _ _ _ ?_
 exact vV C (by decide +kernel)
 refine @Jd _ _ _ _ _ _ _ _ ?_ ?_
 refine @aSet _ _ _ _ _ _ _ _ _ _ _ _ _ C (by decide +kernel) ?_ rfl rfl
 refine @cF _ _ _ _ _ _ _ _ _ _ _ C _ E.f_hole_names (by decide +kernel) ?_ rfl rfl
 refine @Ja _ _ _ _ _ _ ?_ Jc rfl
 exact vV C (by decide +kernel)
 refine @Jg _ _ _ _ _ _ ?_
 refine @Jk _ _ _ _ _ _ _ ?_
 refine @eAdd _ _ _ _ _ _ _ ?_ ?_
 exact vV C (by decide +kernel)
 refine @Jl _ _ _ _ _ _ ?_
 refine @Ja _ _ _ _ _ _ ?_ Jc rfl
 refine @Jl _ _ _ _ _ _ ?_
 refine @Ja _ _ _ _ _ _ Jb ?_ rfl
 refine @Ja _ _ _ _ _ _ ?_ Jc rfl
 refine @eIx _ _ _ _ _ _ _ ?_ Jf (fun _ _=>rfl)
 refine @Ji _ _ _ _ ?_ rfl
 refine @Jco _ _ _ _ _ _ _ _ _ _ _ _ _ _ _ C (by decide +kernel) ?_ ?_ ?_ ?_ (fun _=>rfl)
 refine @Jam _ _ _ _ _ _ ?_
 exact vG C E.c_REST_NAMES (by decide +kernel)
 exact (fun _ C'=>gOne C' (by decide +kernel))
 intro _ C'
 refine @JcF _ _ _ _ ?_
 refine @tNi _ _ _ _ _ _ _ _ _ _ C' ?_ ?_ rfl
 exact vV C' (by decide +kernel)
 exact vV C' (by decide +kernel)
 intro _ C'
 exact vV C' (by decide +kernel)
theorem Jcx (E:Env G call) (C:Ctx X G N_law_cell (defScope s_law_cell).names) (hx:HX X (defScope s_law_cell).names):PSs X (defBody s_law_cell) (tS X call [] H0 b_law_cell):=by
 refine @Jd _ _ _ _ _ _ _ _ ?_ ?_
 refine @Jw _ _ _ _ _ _ _ _ _ _ _ ?_ ?_ Jo
 refine @tLt _ _ _ _ _ _ _ ?_ ?_
 exact vV C (by decide +kernel)
 refine @cLen _ _ _ _ _ _ _ _ _ C E.b_len ?_ (by decide +kernel) rfl
 exact vV C (by decide +kernel)
 refine @Jg _ _ _ _ _ _ ?_
 refine @Jk _ _ _ _ _ _ _ ?_
 refine @eIx _ _ _ _ _ _ _ ?_ ?_ (fun _ _=>rfl)
 exact vV C (by decide +kernel)
 exact vV C (by decide +kernel)
 refine @Jd _ _ _ _ _ _ _ _ ?_ ?_
 refine @Jw _ _ _ _ _ _ _ _ _ _ _ ?_ ?_ Jo
 refine @tEq _ _ _ _ _ _ _ _ _ _ C ?_ ?_
 exact vV C (by decide +kernel)
 exact @Ji _ _ _ _ (@Jp _ _ _ _ _ Jc) rfl
 exact @Jg _ _ _ _ _ _ (@Jk _ _ _ _ _ _ _ Jf)
 refine @Jg _ _ _ _ _ _ ?_
 refine @Jk _ _ _ _ _ _ _ ?_
 refine @eAdd _ _ _ _ _ _ _ ?_ ?_
 refine @eMul _ _ _ _ _ _ _ ?_ Jf
 refine @eIx _ _ _ _ _ _ _ ?_ ?_ (fun _ _=>rfl)
 exact vV C (by decide +kernel)
 refine @eMod _ _ _ _ _ _ _ ?_ ?_
 exact vV C (by decide +kernel)
 refine @cLen _ _ _ _ _ _ _ _ _ C E.b_len ?_ (by decide +kernel) rfl
 exact vV C (by decide +kernel)
 exact vV C (by decide +kernel)
theorem JcA (E:Env G call) (C:Ctx X G N_law_pick (defScope s_law_pick).names) (hx:HX X (defScope s_law_pick).names):PSs X (defBody s_law_pick) (tS X call [] H0 b_law_pick):=by
 refine @Jd _ _ _ _ _ _ _ _ ?_ ?_
 refine @aSet _ _ _ _ _ _ _ _ _ _ _ _ _ C (by decide +kernel) ?_ rfl rfl
 refine @eMod _ _ _ _ _ _ _ ?_ Jf
 refine @eMul _ _ _ _ _ _ _ ?_ Jf
 refine @eAdd _ _ _ _ _ _ _ ?_ ?_
 refine @cF _ _ _ _ _ _ _ _ _ _ _ C _ E.f_law_cell (by decide +kernel) ?_ rfl rfl
 refine @Ja _ _ _ _ _ _ ?_ ?_ rfl
 exact vV C (by decide +kernel)
 refine @Ja _ _ _ _ _ _ ?_ Jc rfl
 exact vV C (by decide +kernel)
 refine @eMul _ _ _ _ _ _ _ Jf ?_
 refine @eAdd _ _ _ _ _ _ _ ?_ Jf
 exact vV C (by decide +kernel)
 refine @Jg _ _ _ _ _ _ ?_
 refine @Jk _ _ _ _ _ _ _ ?_
 refine @eMod _ _ _ _ _ _ _ ?_ ?_
 refine @eMod _ _ _ _ _ _ _ ?_ Jf
 refine @eAdd _ _ _ _ _ _ _ ?_ ?_
 refine @eMul _ _ _ _ _ _ _ ?_ ?_
 exact vV C (by decide +kernel)
 exact vV C (by decide +kernel)
 refine @eDiv _ _ _ _ _ _ _ ?_ Jf
 exact vV C (by decide +kernel)
 exact vV C (by decide +kernel)
theorem JX (E:EnvN G) (C:CtxN X G N_law_class (defScope s_law_class).names):PSs X (defBody s_law_class) (tS X call [] H0 b_law_class):=by
 refine @Jd _ _ _ _ _ _ _ _ ?_ ?_
 refine Jeh C (by decide +kernel) ?_
 refine @Ji _ _ _ _ ?_ rfl
 refine @Jp _ _ _ _ _ ?_
 refine @Ja _ _ _ _ _ _ ?_ ?_ rfl
 refine JaB C E.b_isinstance E.i_BadLead ?_ (by decide +kernel) (by decide +kernel)
 exact vVN C (by decide +kernel)
 refine @Ja _ _ _ _ _ _ ?_ ?_ rfl
 refine JaB C E.b_isinstance E.i_BadValues ?_ (by decide +kernel) (by decide +kernel)
 exact vVN C (by decide +kernel)
 refine @Ja _ _ _ _ _ _ ?_ Jc rfl
 refine JaB C E.b_isinstance E.i_NoBack ?_ (by decide +kernel) (by decide +kernel)
 exact vVN C (by decide +kernel)
 refine @Jd _ _ _ _ _ _ _ _ ?_ ?_
 refine Jeh C (by decide +kernel) ?_
 refine @eAdd _ _ _ _ _ _ _ ?_ ?_
 exact vVN C (by decide +kernel)
 refine @Ji _ _ _ _ ?_ rfl
 refine @Jp _ _ _ _ _ ?_
 refine @Ja _ _ _ _ _ _ ?_ ?_ rfl
 refine JaB C E.b_isinstance E.i_NoHole ?_ (by decide +kernel) (by decide +kernel)
 exact vVN C (by decide +kernel)
 refine @Ja _ _ _ _ _ _ ?_ ?_ rfl
 refine JaB C E.b_isinstance E.i_NoRow ?_ (by decide +kernel) (by decide +kernel)
 exact vVN C (by decide +kernel)
 refine @Ja _ _ _ _ _ _ ?_ Jc rfl
 refine JaB C E.b_isinstance E.i_NoSite ?_ (by decide +kernel) (by decide +kernel)
 exact vVN C (by decide +kernel)
 refine @Jd _ _ _ _ _ _ _ _ ?_ ?_
 refine Jeh C (by decide +kernel) ?_
 refine @eAdd _ _ _ _ _ _ _ ?_ ?_
 exact vVN C (by decide +kernel)
 refine @Ji _ _ _ _ ?_ rfl
 refine @Jp _ _ _ _ _ ?_
 refine @Ja _ _ _ _ _ _ ?_ ?_ rfl
 refine JaB C E.b_isinstance E.i_NoText ?_ (by decide +kernel) (by decide +kernel)
 exact vVN C (by decide +kernel)
 refine @Ja _ _ _ _ _ _ ?_ ?_ rfl
 refine JaB C E.b_isinstance E.i_Taken ?_ (by decide +kernel) (by decide +kernel)
 exact vVN C (by decide +kernel)
 refine @Ja _ _ _ _ _ _ ?_ Jc rfl
 refine JaB C E.b_isinstance E.i_TooMany ?_ (by decide +kernel) (by decide +kernel)
 exact vVN C (by decide +kernel)
 refine @Jd _ _ _ _ _ _ _ _ ?_ ?_
 refine @Jw _ _ _ _ _ _ _ _ _ _ _ ?_ ?_ Jo
 refine @PW.pt _ _ _ ?_
 refine @JfQ _ _ _ _ _ _ _ _ ?_ ?_
 refine tNeN C ?_ Jf
 refine Jfx C ?_ Jaq rfl rfl
 exact vVN C (by decide +kernel)
 refine @Jah _ _ _ _ _ _ ?_
 refine @JbQ _ _ _ _ _ ?_
 refine @JQ _ _ _ _ ?_ (fun _=>rfl)
 refine JaB C E.b_isinstance E.i_ValueError ?_ (by decide +kernel) (by decide +kernel)
 exact vVN C (by decide +kernel)
 exact @Jg _ _ _ _ _ _ (@Jk _ _ _ _ _ _ _ Jb)
 refine @Jd _ _ _ _ _ _ _ _ ?_ ?_
 refine Jeh C (by decide +kernel) ?_
 refine @Ji _ _ _ _ ?_ rfl
 refine @Jp _ _ _ _ _ ?_
 refine @Ja _ _ _ _ _ _ Jb ?_ rfl
 refine @Ja _ _ _ _ _ _ Jb ?_ rfl
 refine @Ja _ _ _ _ _ _ Jb ?_ rfl
 refine @Ja _ _ _ _ _ _ Jb ?_ rfl
 refine @Ja _ _ _ _ _ _ Jb ?_ rfl
 refine @Ja _ _ _ _ _ _ Jb ?_ rfl
 refine @Ja _ _ _ _ _ _ Jb ?_ rfl
 exact @Ja _ _ _ _ _ _ Jb (@Ja _ _ _ _ _ _ Jb Jc rfl) rfl
 refine @Jg _ _ _ _ _ _ ?_
 refine @Jk _ _ _ _ _ _ _ ?_
 refine @eIx _ _ _ _ _ _ _ ?_ ?_ (fun _ _=>rfl)
 exact vVN C (by decide +kernel)
 refine Jfh C ?_ Jaq rfl rfl
 exact vVN C (by decide +kernel)
theorem JbI (E:Env G call) (C:Ctx X G N_law_class (defScope s_law_class).names) (hx:HX X (defScope s_law_class).names):PSs X (defBody s_law_class) (tS X call [] H0 b_law_class):=JX ⟨E.b_isinstance,E.i_BadLead,E.i_BadValues,E.i_NoBack,E.i_NoHole,E.i_NoRow,E.i_NoSite,E.i_NoText,E.i_Taken,E.i_TooMany,E.i_ValueError⟩ C.n
theorem d_law {P:Program} {w:World} {K:PySem.W.Frag} {mg:Str -> Option Value} {base:Heap} {A:Around} {k:Nat} (EE:∀ A,Room (3 * k + 2) A -> Env ⟨P,w,K,mg,base,A⟩ call) (hr:Room (3 * k + 5) A) (C:Ctx X ⟨P,w,K,mg,base,A⟩ N_law (defScope s_law).names) (hx:HX X (defScope s_law).names) (L:LamX X):PSs X (defBody s_law) (tS X call [5] H0 b_law):=by
 have E:=EE A (hr.mono (by omega))
 refine @Jd _ _ _ _ _ _ _ _ ?_ ?_
 refine @aSet _ _ _ _ _ _ _ _ _ _ _ _ _ C (by decide +kernel) ?_ rfl rfl
 refine @Jl _ _ _ _ _ _ ?_
 refine @Ja _ _ _ _ _ _ ?_ ?_ rfl
 refine @Jl _ _ _ _ _ _ ?_
 exact @Ja _ _ _ _ _ _ Jb (@Ja _ _ _ _ _ _ Jb Jc rfl) rfl
 refine @Ja _ _ _ _ _ _ ?_ ?_ rfl
 refine @Jl _ _ _ _ _ _ ?_
 exact @Ja _ _ _ _ _ _ Jb (@Ja _ _ _ _ _ _ Jb Jc rfl) rfl
 refine @Ja _ _ _ _ _ _ ?_ ?_ rfl
 refine @Jl _ _ _ _ _ _ ?_
 exact @Ja _ _ _ _ _ _ Jb (@Ja _ _ _ _ _ _ Jb Jc rfl) rfl
 refine @Ja _ _ _ _ _ _ ?_ ?_ rfl
 refine @Jl _ _ _ _ _ _ ?_
 refine @Ja _ _ _ _ _ _ Jb ?_ rfl
 refine @Ja _ _ _ _ _ _ Jb ?_ rfl
 refine @Ja _ _ _ _ _ _ ?_ Jc rfl
 refine @Jl _ _ _ _ _ _ ?_
 exact @Ja _ _ _ _ _ _ Jb (@Ja _ _ _ _ _ _ Jb Jc rfl) rfl
 refine @Ja _ _ _ _ _ _ ?_ Jc rfl
 refine @Jl _ _ _ _ _ _ ?_
 exact @Ja _ _ _ _ _ _ Jb (@Ja _ _ _ _ _ _ Jb Jc rfl) rfl
 refine @Jd _ _ _ _ _ _ _ _ ?_ ?_
 refine @aSet _ _ _ _ _ _ _ _ _ _ _ _ _ C (by decide +kernel) ?_ rfl rfl
 refine @Ji _ _ _ _ ?_ rfl
 refine @Jp _ _ _ _ _ ?_
 refine @Ja _ _ _ _ _ _ Jdc ?_ rfl
 refine @Ja _ _ _ _ _ _ Jb ?_ rfl
 refine @Ja _ _ _ _ _ _ Jb ?_ rfl
 refine @Ja _ _ _ _ _ _ Jb ?_ rfl
 refine @Ja _ _ _ _ _ _ Jf ?_ rfl
 refine @Ja _ _ _ _ _ _ ?_ ?_ rfl
 exact @Jl _ _ _ _ _ _ (@Ja _ _ _ _ _ _ Jb Jc rfl)
 refine @Ja _ _ _ _ _ _ Jaq ?_ rfl
 refine @Ja _ _ _ _ _ _ Jb ?_ rfl
 refine @Ja _ _ _ _ _ _ ?_ (@Ja _ _ _ _ _ _ Jb Jc rfl) rfl
 exact @Ji _ _ _ _ (@Jp _ _ _ _ _ Jc) rfl
 refine @Jd _ _ _ _ _ _ _ _ ?_ ?_
 refine @Jfd _ _ _ _ _ _ _ _ _ _ _ _ _ _ _ C hx.pass ?_ ?_ ?_ rfl (fun _=>rfl)
 exact @JdG _ _ _ _ _ _ _ _ _ _ C Jf (by decide +kernel) E.b_range rfl
 exact @lOne _ _ _ _ _ _ _ _ _ C (by decide +kernel)
 refine @Jd _ _ _ _ _ _ _ _ ?_ ?_
 refine @aSet _ _ _ _ _ _ _ _ _ _ _ _ _ C (by decide +kernel) ?_ rfl rfl
 refine @eIx _ _ _ _ _ _ _ ?_ ?_ (fun _ _=>rfl)
 exact vV C (by decide +kernel)
 refine @eMod _ _ _ _ _ _ _ ?_ Jf
 refine @eAdd _ _ _ _ _ _ _ ?_ ?_
 refine @cF _ _ _ _ _ _ _ _ _ _ _ C _ E.f_law_pick (by decide +kernel) ?_ rfl rfl
 refine @Ja _ _ _ _ _ _ ?_ ?_ rfl
 exact vV C (by decide +kernel)
 exact @Ja _ _ _ _ _ _ Jf (@Ja _ _ _ _ _ _ Jf Jc rfl) rfl
 refine @eMul _ _ _ _ _ _ _ Jf ?_
 exact vV C (by decide +kernel)
 refine @Jd _ _ _ _ _ _ _ _ ?_ ?_
 refine @aOwn _ _ _ _ _ _ _ _ _ _ _ _ _ C (by decide +kernel) ?_ rfl
 refine @Jp _ _ _ _ _ ?_
 refine @Ja _ _ _ _ _ _ ?_ Jc rfl
 refine JaA (M:=[0,2,5,6,7]) C L E.o_told hr (by decide +kernel) (by decide +kernel) (by decide +kernel) ?_ (fun _ _ _ _ _=>rfl) rfl rfl
 intro _ _ Cl rl
 refine @cF _ _ _ _ _ _ _ _ _ _ _ Cl _ ?_ (by decide +kernel) ?_ rfl rfl
 exact Env.f_narrowed (EE _ rl)
 refine @Ja _ _ _ _ _ _ ?_ ?_ rfl
 exact vV Cl (by decide +kernel)
 refine @Ja _ _ _ _ _ _ ?_ ?_ rfl
 refine @eIx _ _ _ _ _ _ _ ?_ ?_ (fun _ _=>rfl)
 refine @Ji _ _ _ _ ?_ rfl
 refine @Jp _ _ _ _ _ ?_
 refine @Ja _ _ _ _ _ _ Jb ?_ rfl
 refine @Ja _ _ _ _ _ _ Jb ?_ rfl
 exact @Ja _ _ _ _ _ _ Jb (@Ja _ _ _ _ _ _ Jb Jc rfl) rfl
 exact vV Cl (by decide +kernel)
 refine @Ja _ _ _ _ _ _ ?_ Jc rfl
 exact vV Cl (by decide +kernel)
 refine @Jd _ _ _ _ _ _ _ _ ?_ ?_
 refine @aApp _ _ _ _ _ _ _ _ _ _ _ _ _ _ _ C (by decide +kernel) ?_ rfl rfl rfl
 refine JaA (M:=[0,2,4,5,6,7]) C L E.o_told hr (by decide +kernel) (by decide +kernel) (by decide +kernel) ?_ (fun _ _ _ _ _=>rfl) rfl rfl
 intro _ _ Cl rl
 refine @cF _ _ _ _ _ _ _ _ _ _ _ Cl _ ?_ (by decide +kernel) ?_ rfl rfl
 exact Env.f_renamed (EE _ rl)
 refine @Ja _ _ _ _ _ _ ?_ ?_ rfl
 exact vV Cl (by decide +kernel)
 refine @Ja _ _ _ _ _ _ ?_ (@Ja _ _ _ _ _ _ Jb Jc rfl) rfl
 refine @eIx _ _ _ _ _ _ _ ?_ ?_ (fun _ _=>rfl)
 refine @Ji _ _ _ _ ?_ rfl
 refine @Jp _ _ _ _ _ ?_
 refine @Ja _ _ _ _ _ _ Jb ?_ rfl
 refine @Ja _ _ _ _ _ _ Jb ?_ rfl
 exact @Ja _ _ _ _ _ _ Jb (@Ja _ _ _ _ _ _ Jb Jc rfl) rfl
 exact vV Cl (by decide +kernel)
 refine @Jd _ _ _ _ _ _ _ _ ?_ ?_
 refine @aApp _ _ _ _ _ _ _ _ _ _ _ _ _ _ _ C (by decide +kernel) ?_ rfl rfl rfl
 refine JaA (M:=[0,2,4,5,6,7]) C L E.o_told hr (by decide +kernel) (by decide +kernel) (by decide +kernel) ?_ (fun _ _ _ _ _=>rfl) rfl rfl
 intro _ _ Cl rl
 refine @cF _ _ _ _ _ _ _ _ _ _ _ Cl _ ?_ (by decide +kernel) ?_ rfl rfl
 exact Env.f_widened (EE _ rl)
 refine @Ja _ _ _ _ _ _ ?_ ?_ rfl
 exact vV Cl (by decide +kernel)
 refine @Ja _ _ _ _ _ _ ?_ Jc rfl
 refine @eIx _ _ _ _ _ _ _ ?_ ?_ (fun _ _=>rfl)
 refine @Ji _ _ _ _ ?_ rfl
 refine @Jp _ _ _ _ _ ?_
 refine @Ja _ _ _ _ _ _ Jf ?_ rfl
 refine @Ja _ _ _ _ _ _ (@JhL _ _ _ _ _ Jf) ?_ rfl
 exact @Ja _ _ _ _ _ _ Jf (@Ja _ _ _ _ _ _ Jf Jc rfl) rfl
 exact vV Cl (by decide +kernel)
 refine @Jd _ _ _ _ _ _ _ _ ?_ ?_
 refine @Jw _ _ _ _ _ _ _ _ _ _ _ ?_ ?_ Jo
 refine @tNe _ _ _ _ _ _ _ _ _ _ C ?_ ?_
 exact vV C (by decide +kernel)
 refine @eRep _ _ _ _ _ _ _ rfl ?_ Jf
 exact @Jp _ _ _ _ _ (@Ja _ _ _ _ _ _ Jb Jc rfl)
 exact @Jg _ _ _ _ _ _ (@Jk _ _ _ _ _ _ _ Jaq)
 refine @Jd _ _ _ _ _ _ _ _ ?_ ?_
 refine @aOwn _ _ _ _ _ _ _ _ _ _ _ _ _ C (by decide +kernel) ?_ rfl
 refine @Jp _ _ _ _ _ ?_
 refine @Ja _ _ _ _ _ _ ?_ Jc rfl
 refine JaA (M:=[0,2,3,5,6,7]) C L E.o_told hr (by decide +kernel) (by decide +kernel) (by decide +kernel) ?_ (fun _ _ _ _ _=>rfl) rfl rfl
 intro _ _ Cl rl
 refine @cF _ _ _ _ _ _ _ _ _ _ _ Cl _ ?_ (by decide +kernel) ?_ rfl rfl
 exact Env.f_narrowed (EE _ rl)
 refine @Ja _ _ _ _ _ _ ?_ ?_ rfl
 exact vV Cl (by decide +kernel)
 refine @Ja _ _ _ _ _ _ Jb ?_ rfl
 refine @Ja _ _ _ _ _ _ ?_ Jc rfl
 exact vV Cl (by decide +kernel)
 refine @Jd _ _ _ _ _ _ _ _ ?_ ?_
 refine @aApp _ _ _ _ _ _ _ _ _ _ _ _ _ _ _ C (by decide +kernel) ?_ rfl rfl rfl
 refine JaA (M:=[0,2,5,6,7]) C L E.o_told hr (by decide +kernel) (by decide +kernel) (by decide +kernel) ?_ (fun _ _ _ _ _=>rfl) rfl rfl
 intro _ _ Cl rl
 refine @cF _ _ _ _ _ _ _ _ _ _ _ Cl _ ?_ (by decide +kernel) ?_ rfl rfl
 exact Env.f_narrowed (EE _ rl)
 refine @Ja _ _ _ _ _ _ ?_ ?_ rfl
 exact vV Cl (by decide +kernel)
 refine @Ja _ _ _ _ _ _ Jb ?_ rfl
 refine @Ja _ _ _ _ _ _ ?_ Jc rfl
 refine @eIx _ _ _ _ _ _ _ ?_ ?_ (fun _ _=>rfl)
 refine @Ji _ _ _ _ ?_ rfl
 refine @Jp _ _ _ _ _ ?_
 refine @Ja _ _ _ _ _ _ ?_ ?_ rfl
 exact vV Cl (by decide +kernel)
 refine @Ja _ _ _ _ _ _ Jb ?_ rfl
 exact @Ja _ _ _ _ _ _ Jb (@Ja _ _ _ _ _ _ Jb Jc rfl) rfl
 exact vV Cl (by decide +kernel)
 refine @Jd _ _ _ _ _ _ _ _ ?_ ?_
 refine @aApp _ _ _ _ _ _ _ _ _ _ _ _ _ _ _ C (by decide +kernel) ?_ rfl rfl rfl
 refine JaA (M:=[0,2,5,6,7]) C L E.o_told hr (by decide +kernel) (by decide +kernel) (by decide +kernel) ?_ (fun _ _ _ _ _=>rfl) rfl rfl
 intro _ _ Cl rl
 refine @cF _ _ _ _ _ _ _ _ _ _ _ Cl _ ?_ (by decide +kernel) ?_ rfl rfl
 exact Env.f_narrowed (EE _ rl)
 refine @Ja _ _ _ _ _ _ ?_ ?_ rfl
 exact vV Cl (by decide +kernel)
 refine @Ja _ _ _ _ _ _ Jb ?_ rfl
 refine @Ja _ _ _ _ _ _ ?_ Jc rfl
 refine @eIx _ _ _ _ _ _ _ ?_ ?_ (fun _ _=>rfl)
 refine @Ji _ _ _ _ ?_ rfl
 refine @Jp _ _ _ _ _ ?_
 refine @Ja _ _ _ _ _ _ ?_ ?_ rfl
 exact vV Cl (by decide +kernel)
 refine @Ja _ _ _ _ _ _ Jb ?_ rfl
 refine @Ja _ _ _ _ _ _ Jb ?_ rfl
 refine @Ja _ _ _ _ _ _ ?_ Jc rfl
 exact @Jl _ _ _ _ _ _ (@Ja _ _ _ _ _ _ Jb Jc rfl)
 exact vV Cl (by decide +kernel)
 refine @Jd _ _ _ _ _ _ _ _ ?_ ?_
 refine @aApp _ _ _ _ _ _ _ _ _ _ _ _ _ _ _ C (by decide +kernel) ?_ rfl rfl rfl
 refine JaA (M:=[0,2,4,5,6,7]) C L E.o_told hr (by decide +kernel) (by decide +kernel) (by decide +kernel) ?_ (fun _ _ _ _ _=>rfl) rfl rfl
 intro _ _ Cl rl
 refine @cF _ _ _ _ _ _ _ _ _ _ _ Cl _ ?_ (by decide +kernel) ?_ rfl rfl
 exact Env.f_narrowed (EE _ rl)
 refine @Ja _ _ _ _ _ _ ?_ ?_ rfl
 exact vV Cl (by decide +kernel)
 refine @Ja _ _ _ _ _ _ Jb ?_ rfl
 refine @Ja _ _ _ _ _ _ ?_ Jc rfl
 refine @eIx _ _ _ _ _ _ _ ?_ ?_ (fun _ _=>rfl)
 refine @Ji _ _ _ _ ?_ rfl
 refine @Jp _ _ _ _ _ ?_
 refine @Ja _ _ _ _ _ _ Jdc ?_ rfl
 refine @Ja _ _ _ _ _ _ Jb ?_ rfl
 refine @Ja _ _ _ _ _ _ ?_ ?_ rfl
 refine @Ji _ _ _ _ ?_ rfl
 exact @Jp _ _ _ _ _ (@Ja _ _ _ _ _ _ Jb Jc rfl)
 refine @Ja _ _ _ _ _ _ ?_ Jc rfl
 refine @Jl _ _ _ _ _ _ ?_
 exact @Ja _ _ _ _ _ _ Jb (@Ja _ _ _ _ _ _ Jb Jc rfl) rfl
 exact vV Cl (by decide +kernel)
 refine @Jd _ _ _ _ _ _ _ _ ?_ ?_
 refine @aApp _ _ _ _ _ _ _ _ _ _ _ _ _ _ _ C (by decide +kernel) ?_ rfl rfl rfl
 refine JaA (M:=[0,2,3,5,6,7]) C L E.o_told hr (by decide +kernel) (by decide +kernel) (by decide +kernel) ?_ (fun _ _ _ _ _=>rfl) rfl rfl
 intro _ _ Cl rl
 refine @cF _ _ _ _ _ _ _ _ _ _ _ Cl _ ?_ (by decide +kernel) ?_ rfl rfl
 exact Env.f_narrowed (EE _ rl)
 refine @Ja _ _ _ _ _ _ ?_ ?_ rfl
 exact vV Cl (by decide +kernel)
 refine @Ja _ _ _ _ _ _ Jb ?_ rfl
 refine @Ja _ _ _ _ _ _ ?_ Jc rfl
 refine @pI_if _ _ _ _ _ _ _ _ _ ?_ ?_ Jf
 refine @tNe _ _ _ _ _ _ _ _ _ _ Cl ?_ Jb
 exact vV Cl (by decide +kernel)
 refine @Jl _ _ _ _ _ _ ?_
 refine @Ja _ _ _ _ _ _ ?_ Jc rfl
 exact vV Cl (by decide +kernel)
 refine @Jd _ _ _ _ _ _ _ _ ?_ ?_
 refine @Jw _ _ _ _ _ _ _ _ _ _ _ ?_ ?_ Jo
 refine @tNe _ _ _ _ _ _ _ _ _ _ C ?_ ?_
 exact vV C (by decide +kernel)
 refine @eRep _ _ _ _ _ _ _ rfl ?_ Jf
 exact @Jp _ _ _ _ _ (@Ja _ _ _ _ _ _ Jb Jc rfl)
 exact @Jg _ _ _ _ _ _ (@Jk _ _ _ _ _ _ _ Jaq)
 refine @Jd _ _ _ _ _ _ _ _ ?_ ?_
 refine @aSet _ _ _ _ _ _ _ _ _ _ _ _ _ C (by decide +kernel) ?_ rfl rfl
 refine @eIx _ _ _ _ _ _ _ ?_ ?_ (fun _ _=>rfl)
 refine @Ji _ _ _ _ ?_ rfl
 refine @Jp _ _ _ _ _ ?_
 refine @Ja _ _ _ _ _ _ Jb ?_ rfl
 refine @Ja _ _ _ _ _ _ Jb ?_ rfl
 exact @Ja _ _ _ _ _ _ Jb (@Ja _ _ _ _ _ _ Jb Jc rfl) rfl
 refine @eMod _ _ _ _ _ _ _ ?_ Jf
 refine @eAdd _ _ _ _ _ _ _ ?_ ?_
 refine @cF _ _ _ _ _ _ _ _ _ _ _ C _ E.f_law_pick (by decide +kernel) ?_ rfl rfl
 refine @Ja _ _ _ _ _ _ ?_ ?_ rfl
 exact vV C (by decide +kernel)
 exact @Ja _ _ _ _ _ _ Jf (@Ja _ _ _ _ _ _ Jf Jc rfl) rfl
 exact vV C (by decide +kernel)
 refine @Jg _ _ _ _ _ _ ?_
 refine @Jw _ _ _ _ _ _ _ _ _ _ _ ?_ ?_ Jo
 refine @tNe _ _ _ _ _ _ _ _ _ _ C ?_ Jb
 refine JaA (M:=[0,2,3,4,5,7]) C L E.o_told hr (by decide +kernel) (by decide +kernel) (by decide +kernel) ?_ (fun _ _ _ _ _=>rfl) rfl rfl
 intro _ _ Cl rl
 refine @cF _ _ _ _ _ _ _ _ _ _ _ Cl _ ?_ (by decide +kernel) ?_ rfl rfl
 exact Env.f_renamed (EE _ rl)
 refine @Ja _ _ _ _ _ _ ?_ ?_ rfl
 exact vV Cl (by decide +kernel)
 refine @Ja _ _ _ _ _ _ Jb ?_ rfl
 refine @Ja _ _ _ _ _ _ ?_ Jc rfl
 exact vV Cl (by decide +kernel)
 exact @Jg _ _ _ _ _ _ (@Jk _ _ _ _ _ _ _ Jaq)
 refine @Jd _ _ _ _ _ _ _ _ ?_ ?_
 refine @Jw _ _ _ _ _ _ _ _ _ _ _ ?_ ?_ Jo
 refine @PW.pt _ _ _ ?_
 refine @JfQ _ _ _ _ _ _ _ _ ?_ ?_
 refine @tNe _ _ _ _ _ _ _ _ _ _ C ?_ Jb
 refine JaA (M:=[0,2,3,4,5,6,7]) C L E.o_told hr (by decide +kernel) (by decide +kernel) (by decide +kernel) ?_ (fun _ _ _ _ _=>rfl) rfl rfl
 intro _ _ Cl rl
 refine @cF _ _ _ _ _ _ _ _ _ _ _ Cl _ ?_ (by decide +kernel) ?_ rfl rfl
 exact Env.f_narrowed (EE _ rl)
 refine @Ja _ _ _ _ _ _ ?_ ?_ rfl
 exact vV Cl (by decide +kernel)
 refine @Ja _ _ _ _ _ _ Jb ?_ rfl
 refine @Ja _ _ _ _ _ _ ?_ Jc rfl
 refine @eRepU _ _ _ _ _ _ _ ?_ Jf
 exact @Jl _ _ _ _ _ _ (@Ja _ _ _ _ _ _ Jb Jc rfl)
 refine @Jah _ _ _ _ _ _ ?_
 refine @tNe _ _ _ _ _ _ _ _ _ _ C ?_ ?_
 refine @cF _ _ _ _ _ _ _ _ _ _ _ C _ E.f_renamed (by decide +kernel) ?_ rfl rfl
 refine @Ja _ _ _ _ _ _ ?_ ?_ rfl
 exact vV C (by decide +kernel)
 exact @Ja _ _ _ _ _ _ Jb (@Ja _ _ _ _ _ _ Jb Jc rfl) rfl
 exact vV C (by decide +kernel)
 exact @Jg _ _ _ _ _ _ (@Jk _ _ _ _ _ _ _ Jaq)
 refine @Jd _ _ _ _ _ _ _ _ ?_ ?_
 refine @aSet _ _ _ _ _ _ _ _ _ _ _ _ _ C (by decide +kernel) ?_ rfl rfl
 refine @cF _ _ _ _ _ _ _ _ _ _ _ C _ E.f_narrowed (by decide +kernel) ?_ rfl rfl
 refine @Ja _ _ _ _ _ _ ?_ ?_ rfl
 refine @cF _ _ _ _ _ _ _ _ _ _ _ C _ E.f_narrowed (by decide +kernel) ?_ rfl rfl
 refine @Ja _ _ _ _ _ _ ?_ ?_ rfl
 exact vV C (by decide +kernel)
 refine @Ja _ _ _ _ _ _ Jb ?_ rfl
 exact @Ja _ _ _ _ _ _ (@Jl _ _ _ _ _ _ Jc) Jc rfl
 exact @Ja _ _ _ _ _ _ Jb (@Ja _ _ _ _ _ _ Jb Jc rfl) rfl
 refine @Jd _ _ _ _ _ _ _ _ ?_ ?_
 refine @Jw _ _ _ _ _ _ _ _ _ _ _ ?_ ?_ Jo
 refine @tNe _ _ _ _ _ _ _ _ _ _ C ?_ ?_
 refine @cF _ _ _ _ _ _ _ _ _ _ _ C _ E.f_widened (by decide +kernel) ?_ rfl rfl
 refine @Ja _ _ _ _ _ _ ?_ (@Ja _ _ _ _ _ _ Jf Jc rfl) rfl
 exact vV C (by decide +kernel)
 refine @Jl _ _ _ _ _ _ ?_
 refine @Ja _ _ _ _ _ _ ?_ Jc rfl
 refine @Jl _ _ _ _ _ _ ?_
 exact @Ja _ _ _ _ _ _ Jb (@Ja _ _ _ _ _ _ Jb Jc rfl) rfl
 exact @Jg _ _ _ _ _ _ (@Jk _ _ _ _ _ _ _ Jaq)
 refine @Jg _ _ _ _ _ _ ?_
 refine @Jk _ _ _ _ _ _ _ ?_
 refine @eEq _ _ _ _ _ _ _ _ _ _ C ?_ ?_
 exact vV C (by decide +kernel)
 refine @Jl _ _ _ _ _ _ ?_
 refine @Ja _ _ _ _ _ _ ?_ ?_ rfl
 refine @Jl _ _ _ _ _ _ ?_
 exact @Ja _ _ _ _ _ _ Jb (@Ja _ _ _ _ _ _ Jb Jc rfl) rfl
 refine @Ja _ _ _ _ _ _ ?_ ?_ rfl
 refine @Jl _ _ _ _ _ _ ?_
 exact @Ja _ _ _ _ _ _ Jb (@Ja _ _ _ _ _ _ Jb Jc rfl) rfl
 refine @Ja _ _ _ _ _ _ ?_ ?_ rfl
 refine @Jl _ _ _ _ _ _ ?_
 exact @Ja _ _ _ _ _ _ Jb (@Ja _ _ _ _ _ _ Jb Jc rfl) rfl
 refine @Ja _ _ _ _ _ _ ?_ Jc rfl
 refine @Jl _ _ _ _ _ _ ?_
 refine @Ja _ _ _ _ _ _ Jb ?_ rfl
 refine @Ja _ _ _ _ _ _ Jb ?_ rfl
 refine @Ja _ _ _ _ _ _ ?_ Jc rfl
 refine @Jl _ _ _ _ _ _ ?_
 exact @Ja _ _ _ _ _ _ Jb (@Ja _ _ _ _ _ _ Jb Jc rfl) rfl
end
end K65
namespace K65
open PySem.Str (ofString)
open PySem PySem.Spec PyProof.Rows L2 Pu Rd
abbrev T:List DefE:=[((ofString "is_text_of"),s_is_text_of,[(ofString "thing"),(ofString "signs"),(ofString "most")]),
 ((ofString "is_word"),s_is_word,[(ofString "thing")]),
 ((ofString "are_words"),s_are_words,[(ofString "things")]),
 ((ofString "is_hole"),s_is_hole,[(ofString "part")]),
 ((ofString "hole_names"),s_hole_names,[(ofString "pattern")]),
 ((ofString "hole_named"),s_hole_named,[(ofString "pattern"),(ofString "name")]),
 ((ofString "writes_number"),s_writes_number,[(ofString "word")]),
 ((ofString "lets_by"),s_lets_by,[(ofString "part"),(ofString "word")]),
 ((ofString "sought_hole"),s_sought_hole,[(ofString "pattern"),(ofString "name")]),
 ((ofString "with_parts_for"),s_with_parts_for,[(ofString "pattern"),(ofString "hole"),(ofString "parts")]),
 ((ofString "renamed"),s_renamed,[(ofString "pattern"),(ofString "old"),(ofString "new")]),
 ((ofString "words_for"),s_words_for,[(ofString "hole"),(ofString "value")]),
 ((ofString "narrowed"),s_narrowed,[(ofString "pattern"),(ofString "name"),(ofString "value")]),
 ((ofString "widened"),s_widened,[(ofString "pattern"),(ofString "at")]),
 ((ofString "_law_cell"),s_law_cell,[(ofString "_law_script"),(ofString "_law_k")]),
 ((ofString "_law_pick"),s_law_pick,[(ofString "_law_script"),(ofString "_law_k"),(ofString "_law_many")]),
 ((ofString "_law_class"),s_law_class,[(ofString "_law_kept")])]
abbrev B:List Str:=[(ofString "ValueError"),(ofString "all"),(ofString "isinstance"),(ofString "len"),(ofString "range"),(ofString "str"),(ofString "tuple")]
abbrev TL:List DefE:=[((ofString "law"),s_law,[(ofString "_law_script")])]
abbrev TT:List DefE:=[((ofString "_law_told"),s_law_told,[(ofString "_law_deed")])]
theorem tolS:ToldS s_law_told (ofString "_law_deed") (ofString "e") (ofString "RouteError") (ofString "_law_class"):=⟨⟨_,_,_,_,_,_,_,_,_,_,rfl⟩,Jev (by decide +kernel),by decide +kernel,by decide +kernel,by decide +kernel,by decide +kernel,by decide +kernel⟩
theorem bndL:BsOk TL:=⟨fun _ _ _ _ _ _ us hl=>match us,hl with | [_],_=>rfl,trivial⟩
theorem bndT:BsOk TT:=⟨fun _ _ _ _ _ _ us hl=>match us,hl with | [_],_=>rfl,trivial⟩
theorem bnd:BsOk T:=by
 repeat' apply And.intro
 all_goals first | exact True.intro | exact (fun _ _ _ _ _ _ us hl=>match us,hl with | [_],_=>rfl) | exact (fun _ _ _ _ _ _ us hl=>match us,hl with | [_,_],_=>rfl) | exact (fun _ _ _ _ _ _ us hl=>match us,hl with | [_,_,_],_=>rfl)
section
variable {P:Program} {w:World} {K:PySem.W.Frag} {mg:Str -> Option Value} {base:Heap}
abbrev cl:List Str:=[(ofString "BadValues"),(ofString "NoRow"),(ofString "Taken"),(ofString "TooMany"),(ofString "BadLead"),(ofString "NoText"),(ofString "NoHole"),(ofString "NoSite"),(ofString "NoBack")]
theorem JfZ (hT:HasD K mg T) (hB:BlN mg B)
 (y0:∃ u,mg (ofString "FIGURES") = some u /\ ∃ v,RelV v u /\ ∀ H,Rep K H (.str (ofString "0123456789")) v)
 (y1:∃ u,mg (ofString "MOST_PARTS") = some u /\ ∃ v,RelV v u /\ ∀ H,Rep K H (.int 6) v)
 (y2:∃ u,mg (ofString "MOST_SIGNS") = some u /\ ∃ v,RelV v u /\ ∀ H,Rep K H (.int 8) v)
 (y3:∃ u,mg (ofString "REST_NAMES") = some u /\ ∃ v,RelV v u /\ ∀ H,Rep K H (.tup [(.str (ofString "r")),(.str (ofString "s")),(.str (ofString "t")),(.str (ofString "u")),(.str (ofString "v")),(.str (ofString "w")),(.str (ofString "x"))]) v)
 (y4:∃ u,mg (ofString "WORD_SIGNS") = some u /\ ∃ v,RelV v u /\ ∀ H,Rep K H (.str (ofString "abcdefghijklmnopqrstuvwxyz0123456789-")) v)
 (xx0:∀ A,ExcC ⟨P,w,K,mg,base,A⟩ (ofString "BadValues"))
 (xx1:∀ A,ExcC ⟨P,w,K,mg,base,A⟩ (ofString "NoHole"))
 (xx2:∀ A,ExcC ⟨P,w,K,mg,base,A⟩ (ofString "Taken"))
 (xx3:∀ A,ExcC ⟨P,w,K,mg,base,A⟩ (ofString "TooMany"))
 (xt0:∀ A,Takes ⟨P,w,K,mg,base,A⟩ (ofString "RouteError") cl)
 (xi0:∀ A,IsaC ⟨P,w,K,mg,base,A⟩ (ofString "BadLead") cl)
 (xi1:∀ A,IsaC ⟨P,w,K,mg,base,A⟩ (ofString "BadValues") cl)
 (xi2:∀ A,IsaC ⟨P,w,K,mg,base,A⟩ (ofString "NoBack") cl)
 (xi3:∀ A,IsaC ⟨P,w,K,mg,base,A⟩ (ofString "NoHole") cl)
 (xi4:∀ A,IsaC ⟨P,w,K,mg,base,A⟩ (ofString "NoRow") cl)
 (xi5:∀ A,IsaC ⟨P,w,K,mg,base,A⟩ (ofString "NoSite") cl)
 (xi6:∀ A,IsaC ⟨P,w,K,mg,base,A⟩ (ofString "NoText") cl)
 (xi7:∀ A,IsaC ⟨P,w,K,mg,base,A⟩ (ofString "Taken") cl)
 (xi8:∀ A,IsaC ⟨P,w,K,mg,base,A⟩ (ofString "TooMany") cl)
 (xi9:∀ A,IsaC ⟨P,w,K,mg,base,A⟩ (ofString "ValueError") cl)
 (hD:HasD K mg TT):∀ k A,Told ⟨P,w,K,mg,base,A⟩ (runD defs k) (ofString "_law_told") 16 cl:=by
 intro k A
 obtain ⟨f,g,D⟩:=hD.1
 obtain ⟨fc,gc,Dc⟩:=JaO hT (j:=16) rfl
 refine JfW D tolS (xt0 A) Dc ?_
 cases k with
 | zero=>exact JeL
 | succ k=>exact foN (b:=b_law_class) Dc fun C=>JX ⟨JI 2 hB rfl,xi0 _,xi1 _,xi2 _,xi3 _,xi4 _,xi5 _,xi6 _,xi7 _,xi8 _,xi9 _⟩ C
theorem JeS (hT:HasD K mg T) (hB:BlN mg B)
 (y0:∃ u,mg (ofString "FIGURES") = some u /\ ∃ v,RelV v u /\ ∀ H,Rep K H (.str (ofString "0123456789")) v)
 (y1:∃ u,mg (ofString "MOST_PARTS") = some u /\ ∃ v,RelV v u /\ ∀ H,Rep K H (.int 6) v)
 (y2:∃ u,mg (ofString "MOST_SIGNS") = some u /\ ∃ v,RelV v u /\ ∀ H,Rep K H (.int 8) v)
 (y3:∃ u,mg (ofString "REST_NAMES") = some u /\ ∃ v,RelV v u /\ ∀ H,Rep K H (.tup [(.str (ofString "r")),(.str (ofString "s")),(.str (ofString "t")),(.str (ofString "u")),(.str (ofString "v")),(.str (ofString "w")),(.str (ofString "x"))]) v)
 (y4:∃ u,mg (ofString "WORD_SIGNS") = some u /\ ∃ v,RelV v u /\ ∀ H,Rep K H (.str (ofString "abcdefghijklmnopqrstuvwxyz0123456789-")) v)
 (xx0:∀ A,ExcC ⟨P,w,K,mg,base,A⟩ (ofString "BadValues"))
 (xx1:∀ A,ExcC ⟨P,w,K,mg,base,A⟩ (ofString "NoHole"))
 (xx2:∀ A,ExcC ⟨P,w,K,mg,base,A⟩ (ofString "Taken"))
 (xx3:∀ A,ExcC ⟨P,w,K,mg,base,A⟩ (ofString "TooMany"))
 (xt0:∀ A,Takes ⟨P,w,K,mg,base,A⟩ (ofString "RouteError") cl)
 (xi0:∀ A,IsaC ⟨P,w,K,mg,base,A⟩ (ofString "BadLead") cl)
 (xi1:∀ A,IsaC ⟨P,w,K,mg,base,A⟩ (ofString "BadValues") cl)
 (xi2:∀ A,IsaC ⟨P,w,K,mg,base,A⟩ (ofString "NoBack") cl)
 (xi3:∀ A,IsaC ⟨P,w,K,mg,base,A⟩ (ofString "NoHole") cl)
 (xi4:∀ A,IsaC ⟨P,w,K,mg,base,A⟩ (ofString "NoRow") cl)
 (xi5:∀ A,IsaC ⟨P,w,K,mg,base,A⟩ (ofString "NoSite") cl)
 (xi6:∀ A,IsaC ⟨P,w,K,mg,base,A⟩ (ofString "NoText") cl)
 (xi7:∀ A,IsaC ⟨P,w,K,mg,base,A⟩ (ofString "Taken") cl)
 (xi8:∀ A,IsaC ⟨P,w,K,mg,base,A⟩ (ofString "TooMany") cl)
 (xi9:∀ A,IsaC ⟨P,w,K,mg,base,A⟩ (ofString "ValueError") cl)
 (hD:HasD K mg TT) {k:Nat} (ih:OkD P w K mg base defs k 0 T):∀ A,Room (3 * k + 2) A -> Env ⟨P,w,K,mg,base,A⟩ (runD defs k):=fun A hr=>by
 have c:=@Jdf P w K mg base defs T k A hT ih hr
 exact ⟨c 0 rfl,c 1 rfl,c 2 rfl,c 3 rfl,c 4 rfl,c 5 rfl,c 6 rfl,c 7 rfl,c 8 rfl,c 9 rfl,c 10 rfl,c 11 rfl,c 12 rfl,c 13 rfl,c 14 rfl,c 15 rfl,c 16 rfl,JI 0 hB rfl,JI 1 hB rfl,JI 2 hB rfl,JI 3 hB rfl,JI 4 hB rfl,JI 5 hB rfl,JI 6 hB rfl,(by obtain ⟨u,e,v,r,g⟩:=y0; exact ⟨v,u,e,r,g⟩),(by obtain ⟨u,e,v,r,g⟩:=y1; exact ⟨v,u,e,r,g⟩),(by obtain ⟨u,e,v,r,g⟩:=y2; exact ⟨v,u,e,r,g⟩),(by obtain ⟨u,e,v,r,g⟩:=y3; exact ⟨v,u,e,r,g⟩),(by obtain ⟨u,e,v,r,g⟩:=y4; exact ⟨v,u,e,r,g⟩),xx0 A,xx1 A,xx2 A,xx3 A,xt0 A,xi0 A,xi1 A,xi2 A,xi3 A,xi4 A,xi5 A,xi6 A,xi7 A,xi8 A,xi9 A,JfZ (base:=base) hT hB y0 y1 y2 y3 y4 xx0 xx1 xx2 xx3 xt0 xi0 xi1 xi2 xi3 xi4 xi5 xi6 xi7 xi8 xi9 hD k A⟩
theorem Jgm (hT:HasD K mg T) (hB:BlN mg B)
 (y0:∃ u,mg (ofString "FIGURES") = some u /\ ∃ v,RelV v u /\ ∀ H,Rep K H (.str (ofString "0123456789")) v)
 (y1:∃ u,mg (ofString "MOST_PARTS") = some u /\ ∃ v,RelV v u /\ ∀ H,Rep K H (.int 6) v)
 (y2:∃ u,mg (ofString "MOST_SIGNS") = some u /\ ∃ v,RelV v u /\ ∀ H,Rep K H (.int 8) v)
 (y3:∃ u,mg (ofString "REST_NAMES") = some u /\ ∃ v,RelV v u /\ ∀ H,Rep K H (.tup [(.str (ofString "r")),(.str (ofString "s")),(.str (ofString "t")),(.str (ofString "u")),(.str (ofString "v")),(.str (ofString "w")),(.str (ofString "x"))]) v)
 (y4:∃ u,mg (ofString "WORD_SIGNS") = some u /\ ∃ v,RelV v u /\ ∀ H,Rep K H (.str (ofString "abcdefghijklmnopqrstuvwxyz0123456789-")) v)
 (xx0:∀ A,ExcC ⟨P,w,K,mg,base,A⟩ (ofString "BadValues"))
 (xx1:∀ A,ExcC ⟨P,w,K,mg,base,A⟩ (ofString "NoHole"))
 (xx2:∀ A,ExcC ⟨P,w,K,mg,base,A⟩ (ofString "Taken"))
 (xx3:∀ A,ExcC ⟨P,w,K,mg,base,A⟩ (ofString "TooMany"))
 (xt0:∀ A,Takes ⟨P,w,K,mg,base,A⟩ (ofString "RouteError") cl)
 (xi0:∀ A,IsaC ⟨P,w,K,mg,base,A⟩ (ofString "BadLead") cl)
 (xi1:∀ A,IsaC ⟨P,w,K,mg,base,A⟩ (ofString "BadValues") cl)
 (xi2:∀ A,IsaC ⟨P,w,K,mg,base,A⟩ (ofString "NoBack") cl)
 (xi3:∀ A,IsaC ⟨P,w,K,mg,base,A⟩ (ofString "NoHole") cl)
 (xi4:∀ A,IsaC ⟨P,w,K,mg,base,A⟩ (ofString "NoRow") cl)
 (xi5:∀ A,IsaC ⟨P,w,K,mg,base,A⟩ (ofString "NoSite") cl)
 (xi6:∀ A,IsaC ⟨P,w,K,mg,base,A⟩ (ofString "NoText") cl)
 (xi7:∀ A,IsaC ⟨P,w,K,mg,base,A⟩ (ofString "Taken") cl)
 (xi8:∀ A,IsaC ⟨P,w,K,mg,base,A⟩ (ofString "TooMany") cl)
 (xi9:∀ A,IsaC ⟨P,w,K,mg,base,A⟩ (ofString "ValueError") cl)
 (hD:HasD K mg TT):∀ k,OkD P w K mg base defs k 0 T:=by
 intro k
 induction k with
 | zero=>exact JbS _ _
 | succ k ih=>
  have E:=JeS (base:=base) hT hB y0 y1 y2 y3 y4 xx0 xx1 xx2 xx3 xt0 xi0 xi1 xi2 xi3 xi4 xi5 xi6 xi7 xi8 xi9 hD ih
  exact ⟨fo E @Jbn,fo E @Jdb,fo E @Jbz,fo E @JcX,fo E @Jba,fo E @Jbw,fo E @Jaj,fo E @Jdr,fo E @JaW,fo E @Jab,fo E @JdN,fo E @JbG,fo E @Jcv,fo E @JcT,fo E @Jcx,fo E @JcA,fo E @JbI,trivial⟩
theorem JgG (hT:HasD K mg T) (hB:BlN mg B)
 (y0:∃ u,mg (ofString "FIGURES") = some u /\ ∃ v,RelV v u /\ ∀ H,Rep K H (.str (ofString "0123456789")) v)
 (y1:∃ u,mg (ofString "MOST_PARTS") = some u /\ ∃ v,RelV v u /\ ∀ H,Rep K H (.int 6) v)
 (y2:∃ u,mg (ofString "MOST_SIGNS") = some u /\ ∃ v,RelV v u /\ ∀ H,Rep K H (.int 8) v)
 (y3:∃ u,mg (ofString "REST_NAMES") = some u /\ ∃ v,RelV v u /\ ∀ H,Rep K H (.tup [(.str (ofString "r")),(.str (ofString "s")),(.str (ofString "t")),(.str (ofString "u")),(.str (ofString "v")),(.str (ofString "w")),(.str (ofString "x"))]) v)
 (y4:∃ u,mg (ofString "WORD_SIGNS") = some u /\ ∃ v,RelV v u /\ ∀ H,Rep K H (.str (ofString "abcdefghijklmnopqrstuvwxyz0123456789-")) v)
 (xx0:∀ A,ExcC ⟨P,w,K,mg,base,A⟩ (ofString "BadValues"))
 (xx1:∀ A,ExcC ⟨P,w,K,mg,base,A⟩ (ofString "NoHole"))
 (xx2:∀ A,ExcC ⟨P,w,K,mg,base,A⟩ (ofString "Taken"))
 (xx3:∀ A,ExcC ⟨P,w,K,mg,base,A⟩ (ofString "TooMany"))
 (xt0:∀ A,Takes ⟨P,w,K,mg,base,A⟩ (ofString "RouteError") cl)
 (xi0:∀ A,IsaC ⟨P,w,K,mg,base,A⟩ (ofString "BadLead") cl)
 (xi1:∀ A,IsaC ⟨P,w,K,mg,base,A⟩ (ofString "BadValues") cl)
 (xi2:∀ A,IsaC ⟨P,w,K,mg,base,A⟩ (ofString "NoBack") cl)
 (xi3:∀ A,IsaC ⟨P,w,K,mg,base,A⟩ (ofString "NoHole") cl)
 (xi4:∀ A,IsaC ⟨P,w,K,mg,base,A⟩ (ofString "NoRow") cl)
 (xi5:∀ A,IsaC ⟨P,w,K,mg,base,A⟩ (ofString "NoSite") cl)
 (xi6:∀ A,IsaC ⟨P,w,K,mg,base,A⟩ (ofString "NoText") cl)
 (xi7:∀ A,IsaC ⟨P,w,K,mg,base,A⟩ (ofString "Taken") cl)
 (xi8:∀ A,IsaC ⟨P,w,K,mg,base,A⟩ (ofString "TooMany") cl)
 (xi9:∀ A,IsaC ⟨P,w,K,mg,base,A⟩ (ofString "ValueError") cl)
 (hD:HasD K mg TT) {c Pt f:Addr} {g:FuncData} (LB:LamB mg base c Pt) (D:Def1 K mg (ofString "law") s_law [(ofString "_law_script")] f g) (hc:g.code = .ref c) (k:Nat):FnOk P w K mg base (CXr P w) (3 * k + 6) f g [(ofString "_law_script")] (spL K mg Pt ((ofString "law") ++ ".<locals>." ++ "<lambda>") (runD defs (k + 1)) 17):=
 @foL P w K mg base defs c Pt Env N_law [(ofString "_law_script")] [5] (ofString "law") s_law 17 k ⟨8,1,b_law⟩ b_law f g (JeS (base:=base) hT hB y0 y1 y2 y3 y4 xx0 xx1 xx2 xx3 xt0 xi0 xi1 xi2 xi3 xi4 xi5 xi6 xi7 xi8 xi9 hD (Jgm (base:=base) hT hB y0 y1 y2 y3 y4 xx0 xx1 xx2 xx3 xt0 xi0 xi1 xi2 xi3 xi4 xi5 xi6 xi7 xi8 xi9 hD k)) D hc LB (fun {X A H0} E hr C hx L=>@d_law X (runD defs k) H0 P w K mg base A k E hr C hx L) rfl rfl (by decide +kernel)
end
theorem Jgy {l:PySem.W.OpenLaw} {w:World} {K:PySem.W.Frag} {h:Heap} {mg:Str -> Option Value} {fa:Addr} (X:K.In h) (G:h.Ns mainGlobals mg) (hfa:mg "law" = some (.ref fa)) (dT:DsIn K T) (dL:DsIn K TL) (dD:DsIn K TT) (ht:PySem.W.tabIn K "law" = some (256,252)) (dB:BlIn K B)
  {t0:Tok} (y0:PySem.W.nsIn K mainGlobals (ofString "FIGURES") = some (some (.str (ofString "0123456789") t0)))
  {t1:Tok} (y1:PySem.W.nsIn K mainGlobals (ofString "MOST_PARTS") = some (some (.int 6 t1)))
  {t2:Tok} (y2:PySem.W.nsIn K mainGlobals (ofString "MOST_SIGNS") = some (some (.int 8 t2)))
  {ya3:Addr} {yn3:Nat} {ys3:Array (Option Value)} {t3_0 t3_1 t3_2 t3_3 t3_4 t3_5 t3_6:Tok} (y3:PySem.W.nsIn K mainGlobals (ofString "REST_NAMES") = some (some (.ref ya3))) (v3:K.lookup ya3 = some ⟨.type "tuple",none,.seq #[.str (ofString "r") t3_0,.str (ofString "s") t3_1,.str (ofString "t") t3_2,.str (ofString "u") t3_3,.str (ofString "v") t3_4,.str (ofString "w") t3_5,.str (ofString "x") t3_6] yn3,ys3⟩)
  {t4:Tok} (y4:PySem.W.nsIn K mainGlobals (ofString "WORD_SIGNS") = some (some (.str (ofString "abcdefghijklmnopqrstuvwxyz0123456789-") t4)))
  {C_BadLead C_BadValues C_NoBack C_NoHole C_NoRow C_NoSite C_NoText C_RouteError C_Taken C_TooMany:Addr}
  (ec_BadLead:PySem.W.nsIn K mainGlobals (ofString "BadLead") = some (some (.ref C_BadLead)))
  (ec_BadValues:PySem.W.nsIn K mainGlobals (ofString "BadValues") = some (some (.ref C_BadValues)))
  (ec_NoBack:PySem.W.nsIn K mainGlobals (ofString "NoBack") = some (some (.ref C_NoBack)))
  (ec_NoHole:PySem.W.nsIn K mainGlobals (ofString "NoHole") = some (some (.ref C_NoHole)))
  (ec_NoRow:PySem.W.nsIn K mainGlobals (ofString "NoRow") = some (some (.ref C_NoRow)))
  (ec_NoSite:PySem.W.nsIn K mainGlobals (ofString "NoSite") = some (some (.ref C_NoSite)))
  (ec_NoText:PySem.W.nsIn K mainGlobals (ofString "NoText") = some (some (.ref C_NoText)))
  (ec_RouteError:PySem.W.nsIn K mainGlobals (ofString "RouteError") = some (some (.ref C_RouteError)))
  (ec_Taken:PySem.W.nsIn K mainGlobals (ofString "Taken") = some (some (.ref C_Taken)))
  (ec_TooMany:PySem.W.nsIn K mainGlobals (ofString "TooMany") = some (some (.ref C_TooMany)))
  (xc_BadValues:PySem.W.excIn K C_BadValues [.type "ValueError",.type "Exception",.type "BaseException",.type "object"] "ValueError.__new__" = true)
  (xc_NoHole:PySem.W.excIn K C_NoHole [.type "ValueError",.type "Exception",.type "BaseException",.type "object"] "ValueError.__new__" = true)
  (xc_Taken:PySem.W.excIn K C_Taken [.type "ValueError",.type "Exception",.type "BaseException",.type "object"] "ValueError.__new__" = true)
  (xc_TooMany:PySem.W.excIn K C_TooMany [.type "ValueError",.type "Exception",.type "BaseException",.type "object"] "ValueError.__new__" = true)
  (gX:exB K [((ofString "BadValues"),C_BadValues),((ofString "NoRow"),C_NoRow),((ofString "Taken"),C_Taken),((ofString "TooMany"),C_TooMany),((ofString "BadLead"),C_BadLead),((ofString "NoText"),C_NoText),((ofString "NoHole"),C_NoHole),((ofString "NoSite"),C_NoSite),((ofString "NoBack"),C_NoBack)] = true)
  (gR_RouteError:takB K C_RouteError [((ofString "BadValues"),C_BadValues),((ofString "NoRow"),C_NoRow),((ofString "Taken"),C_Taken),((ofString "TooMany"),C_TooMany),((ofString "BadLead"),C_BadLead),((ofString "NoText"),C_NoText),((ofString "NoHole"),C_NoHole),((ofString "NoSite"),C_NoSite),((ofString "NoBack"),C_NoBack)] = true)
  (gI:kitB K [((ofString "BadLead"),.ref C_BadLead),((ofString "BadValues"),.ref C_BadValues),((ofString "NoBack"),.ref C_NoBack),((ofString "NoHole"),.ref C_NoHole),((ofString "NoRow"),.ref C_NoRow),((ofString "NoSite"),.ref C_NoSite),((ofString "NoText"),.ref C_NoText),((ofString "Taken"),.ref C_Taken),((ofString "TooMany"),.ref C_TooMany),((ofString "ValueError"),.type "ValueError")] [((ofString "BadValues"),C_BadValues),((ofString "NoRow"),C_NoRow),((ofString "Taken"),C_Taken),((ofString "TooMany"),C_TooMany),((ofString "BadLead"),C_BadLead),((ofString "NoText"),C_NoText),((ofString "NoHole"),C_NoHole),((ofString "NoSite"),C_NoSite),((ofString "NoBack"),C_NoBack)] = true)
  : ∃ fd:FuncData,(∀ (s:Shared) (v:Value),BindsTo s fd ⟨[v],[]⟩ [((ofString "_law_script"),v)]) /\ ∀ base:Heap,K.In base -> base.Ns mainGlobals mg -> LamB mg base 256 252 -> FnOk l.prog w K mg base (CXr l.prog w) 27 fa fd [(ofString "_law_script")] (spL0 K 252 ((ofString "law") ++ ".<locals>." ++ "<lambda>") (runD defs 8) 17):=by
 have X0:∀ base A,ExcC ⟨l.prog,w,K,mg,base,A⟩ (ofString "BadValues"):=fun base A=>⟨⟨C_BadValues,ec_BadValues,PySem.W.mg_of X G ec_BadValues,_,_,_,_,xc_BadValues,PySem.F.excBase_ValueError⟩⟩
 have X1:∀ base A,ExcC ⟨l.prog,w,K,mg,base,A⟩ (ofString "NoHole"):=fun base A=>⟨⟨C_NoHole,ec_NoHole,PySem.W.mg_of X G ec_NoHole,_,_,_,_,xc_NoHole,PySem.F.excBase_ValueError⟩⟩
 have X2:∀ base A,ExcC ⟨l.prog,w,K,mg,base,A⟩ (ofString "Taken"):=fun base A=>⟨⟨C_Taken,ec_Taken,PySem.W.mg_of X G ec_Taken,_,_,_,_,xc_Taken,PySem.F.excBase_ValueError⟩⟩
 have X3:∀ base A,ExcC ⟨l.prog,w,K,mg,base,A⟩ (ofString "TooMany"):=fun base A=>⟨⟨C_TooMany,ec_TooMany,PySem.W.mg_of X G ec_TooMany,_,_,_,_,xc_TooMany,PySem.F.excBase_ValueError⟩⟩
 have T0:∀ base A,Takes ⟨l.prog,w,K,mg,base,A⟩ (ofString "RouteError") cl:=fun base A=>Jey (cs:=[((ofString "BadValues"),C_BadValues),((ofString "NoRow"),C_NoRow),((ofString "Taken"),C_Taken),((ofString "TooMany"),C_TooMany),((ofString "BadLead"),C_BadLead),((ofString "NoText"),C_NoText),((ofString "NoHole"),C_NoHole),((ofString "NoSite"),C_NoSite),((ofString "NoBack"),C_NoBack)]) X G gX gR_RouteError (PySem.W.mg_of X G ec_RouteError)
 have I0:∀ base A,IsaC ⟨l.prog,w,K,mg,base,A⟩ (ofString "BadLead") cl:=fun base A=>JK (ts:=[((ofString "BadLead"),.ref C_BadLead),((ofString "BadValues"),.ref C_BadValues),((ofString "NoBack"),.ref C_NoBack),((ofString "NoHole"),.ref C_NoHole),((ofString "NoRow"),.ref C_NoRow),((ofString "NoSite"),.ref C_NoSite),((ofString "NoText"),.ref C_NoText),((ofString "Taken"),.ref C_Taken),((ofString "TooMany"),.ref C_TooMany),((ofString "ValueError"),.type "ValueError")]) (cs:=[((ofString "BadValues"),C_BadValues),((ofString "NoRow"),C_NoRow),((ofString "Taken"),C_Taken),((ofString "TooMany"),C_TooMany),((ofString "BadLead"),C_BadLead),((ofString "NoText"),C_NoText),((ofString "NoHole"),C_NoHole),((ofString "NoSite"),C_NoSite),((ofString "NoBack"),C_NoBack)]) (v:=.ref C_BadLead) gI gX rfl (.inl (PySem.W.mg_of X G ec_BadLead)) (.head _)
 have I1:∀ base A,IsaC ⟨l.prog,w,K,mg,base,A⟩ (ofString "BadValues") cl:=fun base A=>JK (ts:=[((ofString "BadLead"),.ref C_BadLead),((ofString "BadValues"),.ref C_BadValues),((ofString "NoBack"),.ref C_NoBack),((ofString "NoHole"),.ref C_NoHole),((ofString "NoRow"),.ref C_NoRow),((ofString "NoSite"),.ref C_NoSite),((ofString "NoText"),.ref C_NoText),((ofString "Taken"),.ref C_Taken),((ofString "TooMany"),.ref C_TooMany),((ofString "ValueError"),.type "ValueError")]) (cs:=[((ofString "BadValues"),C_BadValues),((ofString "NoRow"),C_NoRow),((ofString "Taken"),C_Taken),((ofString "TooMany"),C_TooMany),((ofString "BadLead"),C_BadLead),((ofString "NoText"),C_NoText),((ofString "NoHole"),C_NoHole),((ofString "NoSite"),C_NoSite),((ofString "NoBack"),C_NoBack)]) (v:=.ref C_BadValues) gI gX rfl (.inl (PySem.W.mg_of X G ec_BadValues)) (.tail _ (.head _))
 have I2:∀ base A,IsaC ⟨l.prog,w,K,mg,base,A⟩ (ofString "NoBack") cl:=fun base A=>JK (ts:=[((ofString "BadLead"),.ref C_BadLead),((ofString "BadValues"),.ref C_BadValues),((ofString "NoBack"),.ref C_NoBack),((ofString "NoHole"),.ref C_NoHole),((ofString "NoRow"),.ref C_NoRow),((ofString "NoSite"),.ref C_NoSite),((ofString "NoText"),.ref C_NoText),((ofString "Taken"),.ref C_Taken),((ofString "TooMany"),.ref C_TooMany),((ofString "ValueError"),.type "ValueError")]) (cs:=[((ofString "BadValues"),C_BadValues),((ofString "NoRow"),C_NoRow),((ofString "Taken"),C_Taken),((ofString "TooMany"),C_TooMany),((ofString "BadLead"),C_BadLead),((ofString "NoText"),C_NoText),((ofString "NoHole"),C_NoHole),((ofString "NoSite"),C_NoSite),((ofString "NoBack"),C_NoBack)]) (v:=.ref C_NoBack) gI gX rfl (.inl (PySem.W.mg_of X G ec_NoBack)) (.tail _ (.tail _ (.head _)))
 have I3:∀ base A,IsaC ⟨l.prog,w,K,mg,base,A⟩ (ofString "NoHole") cl:=fun base A=>JK (ts:=[((ofString "BadLead"),.ref C_BadLead),((ofString "BadValues"),.ref C_BadValues),((ofString "NoBack"),.ref C_NoBack),((ofString "NoHole"),.ref C_NoHole),((ofString "NoRow"),.ref C_NoRow),((ofString "NoSite"),.ref C_NoSite),((ofString "NoText"),.ref C_NoText),((ofString "Taken"),.ref C_Taken),((ofString "TooMany"),.ref C_TooMany),((ofString "ValueError"),.type "ValueError")]) (cs:=[((ofString "BadValues"),C_BadValues),((ofString "NoRow"),C_NoRow),((ofString "Taken"),C_Taken),((ofString "TooMany"),C_TooMany),((ofString "BadLead"),C_BadLead),((ofString "NoText"),C_NoText),((ofString "NoHole"),C_NoHole),((ofString "NoSite"),C_NoSite),((ofString "NoBack"),C_NoBack)]) (v:=.ref C_NoHole) gI gX rfl (.inl (PySem.W.mg_of X G ec_NoHole)) (.tail _ (.tail _ (.tail _ (.head _))))
 have I4:∀ base A,IsaC ⟨l.prog,w,K,mg,base,A⟩ (ofString "NoRow") cl:=fun base A=>JK (ts:=[((ofString "BadLead"),.ref C_BadLead),((ofString "BadValues"),.ref C_BadValues),((ofString "NoBack"),.ref C_NoBack),((ofString "NoHole"),.ref C_NoHole),((ofString "NoRow"),.ref C_NoRow),((ofString "NoSite"),.ref C_NoSite),((ofString "NoText"),.ref C_NoText),((ofString "Taken"),.ref C_Taken),((ofString "TooMany"),.ref C_TooMany),((ofString "ValueError"),.type "ValueError")]) (cs:=[((ofString "BadValues"),C_BadValues),((ofString "NoRow"),C_NoRow),((ofString "Taken"),C_Taken),((ofString "TooMany"),C_TooMany),((ofString "BadLead"),C_BadLead),((ofString "NoText"),C_NoText),((ofString "NoHole"),C_NoHole),((ofString "NoSite"),C_NoSite),((ofString "NoBack"),C_NoBack)]) (v:=.ref C_NoRow) gI gX rfl (.inl (PySem.W.mg_of X G ec_NoRow)) (.tail _ (.tail _ (.tail _ (.tail _ (.head _)))))
 have I5:∀ base A,IsaC ⟨l.prog,w,K,mg,base,A⟩ (ofString "NoSite") cl:=fun base A=>JK (ts:=[((ofString "BadLead"),.ref C_BadLead),((ofString "BadValues"),.ref C_BadValues),((ofString "NoBack"),.ref C_NoBack),((ofString "NoHole"),.ref C_NoHole),((ofString "NoRow"),.ref C_NoRow),((ofString "NoSite"),.ref C_NoSite),((ofString "NoText"),.ref C_NoText),((ofString "Taken"),.ref C_Taken),((ofString "TooMany"),.ref C_TooMany),((ofString "ValueError"),.type "ValueError")]) (cs:=[((ofString "BadValues"),C_BadValues),((ofString "NoRow"),C_NoRow),((ofString "Taken"),C_Taken),((ofString "TooMany"),C_TooMany),((ofString "BadLead"),C_BadLead),((ofString "NoText"),C_NoText),((ofString "NoHole"),C_NoHole),((ofString "NoSite"),C_NoSite),((ofString "NoBack"),C_NoBack)]) (v:=.ref C_NoSite) gI gX rfl (.inl (PySem.W.mg_of X G ec_NoSite)) (.tail _ (.tail _ (.tail _ (.tail _ (.tail _ (.head _))))))
 have I6:∀ base A,IsaC ⟨l.prog,w,K,mg,base,A⟩ (ofString "NoText") cl:=fun base A=>JK (ts:=[((ofString "BadLead"),.ref C_BadLead),((ofString "BadValues"),.ref C_BadValues),((ofString "NoBack"),.ref C_NoBack),((ofString "NoHole"),.ref C_NoHole),((ofString "NoRow"),.ref C_NoRow),((ofString "NoSite"),.ref C_NoSite),((ofString "NoText"),.ref C_NoText),((ofString "Taken"),.ref C_Taken),((ofString "TooMany"),.ref C_TooMany),((ofString "ValueError"),.type "ValueError")]) (cs:=[((ofString "BadValues"),C_BadValues),((ofString "NoRow"),C_NoRow),((ofString "Taken"),C_Taken),((ofString "TooMany"),C_TooMany),((ofString "BadLead"),C_BadLead),((ofString "NoText"),C_NoText),((ofString "NoHole"),C_NoHole),((ofString "NoSite"),C_NoSite),((ofString "NoBack"),C_NoBack)]) (v:=.ref C_NoText) gI gX rfl (.inl (PySem.W.mg_of X G ec_NoText)) (.tail _ (.tail _ (.tail _ (.tail _ (.tail _ (.tail _ (.head _)))))))
 have I7:∀ base A,IsaC ⟨l.prog,w,K,mg,base,A⟩ (ofString "Taken") cl:=fun base A=>JK (ts:=[((ofString "BadLead"),.ref C_BadLead),((ofString "BadValues"),.ref C_BadValues),((ofString "NoBack"),.ref C_NoBack),((ofString "NoHole"),.ref C_NoHole),((ofString "NoRow"),.ref C_NoRow),((ofString "NoSite"),.ref C_NoSite),((ofString "NoText"),.ref C_NoText),((ofString "Taken"),.ref C_Taken),((ofString "TooMany"),.ref C_TooMany),((ofString "ValueError"),.type "ValueError")]) (cs:=[((ofString "BadValues"),C_BadValues),((ofString "NoRow"),C_NoRow),((ofString "Taken"),C_Taken),((ofString "TooMany"),C_TooMany),((ofString "BadLead"),C_BadLead),((ofString "NoText"),C_NoText),((ofString "NoHole"),C_NoHole),((ofString "NoSite"),C_NoSite),((ofString "NoBack"),C_NoBack)]) (v:=.ref C_Taken) gI gX rfl (.inl (PySem.W.mg_of X G ec_Taken)) (.tail _ (.tail _ (.tail _ (.tail _ (.tail _ (.tail _ (.tail _ (.head _))))))))
 have I8:∀ base A,IsaC ⟨l.prog,w,K,mg,base,A⟩ (ofString "TooMany") cl:=fun base A=>JK (ts:=[((ofString "BadLead"),.ref C_BadLead),((ofString "BadValues"),.ref C_BadValues),((ofString "NoBack"),.ref C_NoBack),((ofString "NoHole"),.ref C_NoHole),((ofString "NoRow"),.ref C_NoRow),((ofString "NoSite"),.ref C_NoSite),((ofString "NoText"),.ref C_NoText),((ofString "Taken"),.ref C_Taken),((ofString "TooMany"),.ref C_TooMany),((ofString "ValueError"),.type "ValueError")]) (cs:=[((ofString "BadValues"),C_BadValues),((ofString "NoRow"),C_NoRow),((ofString "Taken"),C_Taken),((ofString "TooMany"),C_TooMany),((ofString "BadLead"),C_BadLead),((ofString "NoText"),C_NoText),((ofString "NoHole"),C_NoHole),((ofString "NoSite"),C_NoSite),((ofString "NoBack"),C_NoBack)]) (v:=.ref C_TooMany) gI gX rfl (.inl (PySem.W.mg_of X G ec_TooMany)) (.tail _ (.tail _ (.tail _ (.tail _ (.tail _ (.tail _ (.tail _ (.tail _ (.head _)))))))))
 have I9:∀ base A,IsaC ⟨l.prog,w,K,mg,base,A⟩ (ofString "ValueError") cl:=fun base A=>JK (ts:=[((ofString "BadLead"),.ref C_BadLead),((ofString "BadValues"),.ref C_BadValues),((ofString "NoBack"),.ref C_NoBack),((ofString "NoHole"),.ref C_NoHole),((ofString "NoRow"),.ref C_NoRow),((ofString "NoSite"),.ref C_NoSite),((ofString "NoText"),.ref C_NoText),((ofString "Taken"),.ref C_Taken),((ofString "TooMany"),.ref C_TooMany),((ofString "ValueError"),.type "ValueError")]) (cs:=[((ofString "BadValues"),C_BadValues),((ofString "NoRow"),C_NoRow),((ofString "Taken"),C_Taken),((ofString "TooMany"),C_TooMany),((ofString "BadLead"),C_BadLead),((ofString "NoText"),C_NoText),((ofString "NoHole"),C_NoHole),((ofString "NoSite"),C_NoSite),((ofString "NoBack"),C_NoBack)]) (v:=.ty "ValueError") gI gX rfl (.inr ⟨JI 0 (Jfu X G dB) rfl,by decide +kernel,by decide +kernel⟩) (.tail _ (.tail _ (.tail _ (.tail _ (.tail _ (.tail _ (.tail _ (.tail _ (.tail _ (.head _))))))))))
 exact Jfk (n:=8) X G hfa dT bnd dL bndL ht fun base f g LB hT D hc=>JgG (P:=l.prog) (w:=w) (base:=base) hT (Jfu X G dB) ⟨_,PySem.W.mg_of X G y0,.str (ofString "0123456789"),⟨_,rfl⟩,fun H=>rfl⟩ ⟨_,PySem.W.mg_of X G y1,.int 6,⟨_,rfl⟩,fun H=>rfl⟩ ⟨_,PySem.W.mg_of X G y2,.int 8,⟨_,rfl⟩,fun H=>rfl⟩ ⟨_,PySem.W.mg_of X G y3,.ref ya3,rfl,fun H=>Rd.globT (.inl y3) (ds:=[(.str (ofString "r")),(.str (ofString "s")),(.str (ofString "t")),(.str (ofString "u")),(.str (ofString "v")),(.str (ofString "w")),(.str (ofString "x"))]) (xs:=[.str (ofString "r"),.str (ofString "s"),.str (ofString "t"),.str (ofString "u"),.str (ofString "v"),.str (ofString "w"),.str (ofString "x")]) v3 (by simp) (.cons ⟨_,rfl⟩ (.cons ⟨_,rfl⟩ (.cons ⟨_,rfl⟩ (.cons ⟨_,rfl⟩ (.cons ⟨_,rfl⟩ (.cons ⟨_,rfl⟩ (.cons ⟨_,rfl⟩ .nil))))))) (fun H=>⟨_,_,rfl,rfl,⟨_,_,rfl,rfl,⟨_,_,rfl,rfl,⟨_,_,rfl,rfl,⟨_,_,rfl,rfl,⟨_,_,rfl,rfl,⟨_,_,rfl,rfl,rfl⟩⟩⟩⟩⟩⟩⟩) H⟩ ⟨_,PySem.W.mg_of X G y4,.str (ofString "abcdefghijklmnopqrstuvwxyz0123456789-"),⟨_,rfl⟩,fun H=>rfl⟩ (X0 base) (X1 base) (X2 base) (X3 base) (T0 base) (I0 base) (I1 base) (I2 base) (I3 base) (I4 base) (I5 base) (I6 base) (I7 base) (I8 base) (I9 base) (Jbx X G dD bndT) LB D hc 7
end K65
def PySem.W.Fast.tw11931946131099156529:=0
def PySem.W.Fast.tw8913160493508875154:=0
def PySem.W.Fast.tw9205957008194305264:=0
def PySem.W.Fast.tw9764786590902124268:=0
def PySem.W.Fast.tw18019075220675199806:=0
def PySem.W.Fast.tw12085264680221918594:=0
def PySem.W.Fast.tw14552724119702091206:=0
def PySem.W.Fast.tw526723534898405720:=0
def PySem.W.Fast.tw3938926293893447865:=0
def PySem.W.Fast.tw11020929902786292224:=0
def PySem.W.Fast.tw14514239827021785111:=0
def PySem.W.Fast.tw17001266198509393337:=0
def PySem.W.Fast.tw3934347937866359191:=0
def PySem.W.Fast.tw14039009842038791421:=0
def PySem.W.Fast.tw12362181431627351133:=0
def PySem.W.Fast.tw14373210530794765350:=0
def PySem.W.Fast.tw5103720202306512369:=0
def PySem.W.Fast.tw9371776798723983467:=0
def PySem.W.Fast.tw4281646959425983479:=0
def PySem.W.Fast.tw6243625058610678066:=0
def PySem.W.Fast.tw9540908251632880155:=0
def PySem.W.Fast.tw1592942689879403377:=0
def PySem.W.Fast.tw2103223455112299858:=0
def PySem.W.Fast.tw16475239957466608246:=0
def PySem.W.Fast.tw14266392285843598909:=0
def PySem.W.Fast.tw18262597508378525047:=0
def PySem.W.Fast.tw17951232224832918953:=0
def PySem.W.Fast.tw14733079208267357219:=0
def PySem.W.Fast.tw12348662859396007134:=0
def PySem.W.Fast.tw9638051129167416216:=0
def PySem.W.Fast.tw11758128675581523448:=0
def PySem.W.Fast.tw197063420738018147:=0
def PySem.W.Fast.tw14367826552665014589:=0
def PySem.W.Fast.tw121542279134543793:=0
def PySem.W.Fast.tw4894585581681616508:=0
def PySem.W.Fast.tw8326595002998782158:=0
def PySem.W.Fast.tw1805618255206621680:=0
def PySem.W.Fast.tw2550185775794572663:=0
def PySem.W.Fast.tw8762523724721783347:=0
def PySem.W.Fast.tw3565058929052225504:=0
def PySem.W.Fast.tw88611126324201428:=0
def PySem.W.Fast.tw10709939045909365835:=0
def PySem.W.Fast.tw15770965885181668881:=0
def PySem.W.Fast.tw14398845177756292535:=0
def PySem.W.Fast.tw4709281010245373769:=0
def PySem.W.Fast.tw753018304417640207:=0
def PySem.W.Fast.tw5750199503709388033:=0
def PySem.W.Fast.tw1784944121510702461:=0
def PySem.W.Fast.tw13553099828505195564:=0
def PySem.W.Fast.tw13970026417421826025:=0
def PySem.W.Fast.tw1249863727988380320:=0
def PySem.W.Fast.tw1300218382962711112:=0
def PySem.W.Fast.tw12432327540804432471:=0
def PySem.W.Fast.tw9342559891695526077:=0
def PySem.W.Fast.tw424538862872355492:=0
def PySem.W.Fast.tw7764392109058314467:=0
def PySem.W.Fast.tw14010183238325757556:=0
def PySem.W.Fast.tw6609602369110094687:=0
def PySem.W.Fast.tw17944689282133802769:=0
def PySem.W.Fast.tw8265457856388134086:=0
def PySem.W.Fast.tw11903626402904117625:=0
def PySem.W.Fast.tw16143777552677060924:=0
def PySem.W.Fast.tw12473538213445763057:=0
open PySem PySem.W PyProof.Rows
theorem PySem.Challenge.cw_routeboard_k65_narrowing_refused_holds : PySem.Challenge.rw_routeboard_k65_narrowing_refused.Holds := by
 w_on; o_law; k_head; (case hw=>w_witness2)
 k_fill
 refine Rd.Jew (l:=PySem.Challenge.rw_routeboard_k65_narrowing_refused) (n:=63) (k:=27) (x:=(Str.ofString "_law_script")) (c:=256) (Pt:=252) (qn:=(Str.ofString "law" ++ ".<locals>." ++ "<lambda>")) (CX:=fun w=>Rd.CXr PySem.Challenge.rw_routeboard_k65_narrowing_refused.prog w) (sp:=fun w=>Rd.spL0 _ 252 (Str.ofString "law" ++ ".<locals>." ++ "<lambda>") (Pu.runD K65.defs 8) 17) rfl (by decide) rfl ⟨rfl,by decide,by decide⟩ (fun w h Y=>⟨PySem.W.km_in_of Y,PySem.W.km_tabs_of Y 252 (by simp)⟩) (fun _=>by kernel_rfl) (fun _=>by kernel_rfl) ?F (fun w H a ns hl hT hS=>Rd.JdJ hT hS (K65.JeE ns hl)) fun _ _ _ _ _ z=>Rd.noCX z
 case F=>
  intro w mg fa h KX G hmg
  refine' K65.Jgy KX G hmg ?dT ?dL ?dD ?ht ?dB ?y0 ?y1 ?y2 ?y3 ?v3 ?y4 ?ec_BadLead ?ec_BadValues ?ec_NoBack ?ec_NoHole ?ec_NoRow ?ec_NoSite ?ec_NoText ?ec_RouteError ?ec_Taken ?ec_TooMany ?xc_BadValues ?xc_NoHole ?xc_Taken ?xc_TooMany ?gX ?gR_RouteError ?gI
  (case dT=>(repeat' refine And.intro ⟨_,_,Rd.def_mk (by k_is) (by k_is) (by k_is) (by k_is)⟩ ?_); exact True.intro)
  (case dL=>(repeat' refine And.intro ⟨_,_,Rd.def_mk (by k_is) (by k_is) (by k_is) (by k_is)⟩ ?_); exact True.intro)
  (case dD=>(repeat' refine And.intro ⟨_,_,Rd.def_mk (by k_is) (by k_is) (by k_is) (by k_is)⟩ ?_); exact True.intro)
  (case ht=>kernel_rfl)
  (case dB=>(repeat' refine And.intro (by k_is) ?_); exact True.intro)
  (case y0=>k_is)
  (case y1=>k_is)
  (case y2=>k_is)
  (case y3=>k_is)
  (case v3=>k_is)
  (case y4=>k_is)
  (case ec_BadLead=>k_is)
  (case ec_BadValues=>k_is)
  (case ec_NoBack=>k_is)
  (case ec_NoHole=>k_is)
  (case ec_NoRow=>k_is)
  (case ec_NoSite=>k_is)
  (case ec_NoText=>k_is)
  (case ec_RouteError=>k_is)
  (case ec_Taken=>k_is)
  (case ec_TooMany=>k_is)
  (case xc_BadValues=>k_exc)
  (case xc_NoHole=>k_exc)
  (case xc_Taken=>k_exc)
  (case xc_TooMany=>k_exc)
  (case gX=>kernel_rfl)
  (case gR_RouteError=>kernel_rfl)
  (case gI=>kernel_rfl)
