import PyProof.Rows.All
import Wide.All
import OpenK.AllK
import Wide.FinOn
import Lean
import PyProof.EqAt
import PyProof.EqKinds
import PyProof.TupleCall
import PyProof.NeKinds
import PySem.Challenge.RW_standstill_k42_a_paper
set_option Elab.async false
set_option genSizeOf false
set_option linter.all false
set_option maxRecDepth 100000
namespace L2
open PySem PySem.Spec PyProof.Rows
noncomputable abbrev Key:=Sum Int Str
noncomputable def zkp : Key -> Value -> Bool
 | .inl k,v=>Value.isInt k v
 | .inr x,v=>Value.isStrOf x v
noncomputable def zzx (w : World) : Key -> Int
 | .inl k=>hashInt k
 | .inr x=>hashStr w x
theorem zgp : ∀ {k : Key} {v : Value},zkp k v = true -> (∃ i t,k = Sum.inl i /\ v = Value.int i t) \/ (∃ x t,k = Sum.inr x /\ v = Value.str x t)
 | .inl i,v,h=>by
  obtain ⟨t,e⟩:=Value.isInt_shape (k:=i) (v:=v) h
  exact .inl ⟨i,t,rfl,e⟩
 | .inr x,v,h=>by
  obtain ⟨t,e⟩:=Value.isStrOf_shape (x:=x) (v:=v) h
  exact .inr ⟨x,t,rfl,e⟩
theorem z85 (i : Int) (t : Tok) : zkp (.inl i) (.int i t) = true:=by simp [zkp,Value.isInt]
theorem z3b (x : Str) (t : Tok) : zkp (.inr x) (.str x t) = true:=by simp [zkp,Value.isStrOf]
theorem zxc (a b : Int) : decide ((Sum.inl a : Key) = Sum.inl b) = (a == b):=by
 by_cases e : a = b
 ·subst e; simp
 ·have h : ¬ (Sum.inl a : Key) = Sum.inl b:=fun q=>e (Sum.inl.inj q)
  rw [decide_eq_false h]
  exact (beq_eq_false_iff_ne.mpr e).symm
theorem z09 (a b : Str) : decide ((Sum.inr a : Key) = Sum.inr b) = decide (a = b):=by
 by_cases e : a = b
 ·subst e; simp
 ·have h : ¬ (Sum.inr a : Key) = Sum.inr b:=fun q=>e (Sum.inr.inj q)
  rw [decide_eq_false h,decide_eq_false e]
theorem z4m (a : Int) (b : Str) : decide ((Sum.inl a : Key) = Sum.inr b) = false:=decide_eq_false (fun q=>nomatch q)
theorem zyt (a : Str) (b : Int) : decide ((Sum.inr a : Key) = Sum.inl b) = false:=decide_eq_false (fun q=>nomatch q)
noncomputable def zej (prog : Program) (w : World) : PySem.KeyKind prog w Key where
 is:=zkp
 hash:=zzx w
 inj:=fun v a b ha hb=>by
  rcases zgp ha with ⟨i,t,rfl,rfl⟩ | ⟨x,t,rfl,rfl⟩
  ·rcases zgp hb with ⟨j,u,rfl,e⟩ | ⟨y,u,rfl,e⟩
   ·injection e with e1 _; rw [e1]
   ·exact nomatch e
  ·rcases zgp hb with ⟨j,u,rfl,e⟩ | ⟨y,u,rfl,e⟩
   ·exact nomatch e
   ·injection e with e1 _; rw [e1]
 byValue:=fun k v h=>by
  rcases zgp h with ⟨i,t,rfl,rfl⟩ | ⟨x,t,rfl,rfl⟩ <;> rfl
 pyHash:=fun hv h=>by
  rcases zgp hv with ⟨i,t,rfl,rfl⟩ | ⟨x,t,rfl,rfl⟩
  ·exact wpAny_pyHash_int h
  ·exact wpAny_pyHash_str h
 eqBool:=fun hu hv h=>by
  rcases zgp hu with ⟨i,t,rfl,rfl⟩ | ⟨x,t,rfl,rfl⟩
  ·rcases zgp hv with ⟨j,u,rfl,rfl⟩ | ⟨y,u,rfl,rfl⟩
   ·rw [zxc] at h; exact wpAny_eqBool_int h
   ·rw [z4m] at h; exact SeqAt.EqAt.int_str i t y u _ _ _ _ h
  ·rcases zgp hv with ⟨j,u,rfl,rfl⟩ | ⟨y,u,rfl,rfl⟩
   ·rw [zyt] at h; exact SeqAt.EqAt.str_int x t j u _ _ _ _ h
   ·rw [z09] at h; exact wpAny_eqBool_str h
 «strs»:=fun k x t v h=>by
  rcases zgp h with ⟨i,u,rfl,e⟩ | ⟨y,u,rfl,e⟩
  ·exact nomatch e
  ·injection e with e1 _
   subst e1
   cases v <;> rfl
theorem z1p (prog : Program) (w : World) (i : Int) (t : Tok) : (zej prog w).is (.inl i) (.int i t) = true:=z85 i t
theorem z7q (prog : Program) (w : World) (x : Str) (t : Tok) : (zej prog w).is (.inr x) (.str x t) = true:=z3b x t
inductive V where
 | non | bl (b : Bool) | int (i : Int) | str (x : Str) | byt (b : Array UInt8) | flt (b : UInt64) | ref (a : Addr) | ty (n : String)
 deriving DecidableEq
noncomputable def za6 : V -> Value -> Prop
 | .non,u=>u = Value.none
 | .bl b,u=>u = Value.bool b
 | .int i,u=>∃ t,u = Value.int i t
 | .str x,u=>∃ t,u = Value.str x t
 | .byt b,u=>∃ t,u = Value.bytes b t
 | .flt b,u=>∃ t,u = Value.float b t
 | .ref a,u=>u = Value.ref a
 | .ty n,u=>u = Value.type n
noncomputable abbrev za8 : List V -> List Value -> Prop:=Paired za6
theorem za8.length {xs : List V} {us : List Value} (r : za8 xs us) : xs.length = us.length:=Paired.length r
theorem za8.get : ∀ {xs : List V} {us : List Value} {i : Nat} {x : V},za8 xs us -> xs[i]? = some x -> ∃ u,us[i]? = some u /\ za6 x u
 | _,_,_,_,.nil,e=>by simp at e
 | _,_,0,_,.cons r _,e=>by simp at e; subst e; exact ⟨_,rfl,r⟩
 | _,_,i + 1,x,.cons _ t,e=>by
  obtain ⟨u,h1,h2⟩:=za8.get (i:=i) (x:=x) t (by simpa using e)
  exact ⟨u,by simpa using h1,h2⟩
theorem za8.set {x : V} {u : Value} (r : za6 x u) : ∀ {xs : List V} {us : List Value} (i : Nat),za8 xs us -> za8 (xs.set i x) (us.set i u)
 | _,_,_,.nil=>.nil
 | _,_,0,.cons _ t=>.cons r t
 | _,_,i + 1,.cons q t=>.cons q (za8.set r i t)
theorem za8.append : ∀ {xs ys : List V} {us ws : List Value},za8 xs us -> za8 ys ws -> za8 (xs ++ ys) (us ++ ws)
 | _,_,_,_,.nil,s=>s
 | _,_,_,_,.cons r t,s=>.cons r (za8.append t s)
theorem za8.take : ∀ {xs : List V} {us : List Value} (n : Nat),za8 xs us -> za8 (xs.take n) (us.take n)
 | _,_,0,_=>.nil
 | _,_,_ + 1,.nil=>.nil
 | _,_,n + 1,.cons r t=>.cons r (za8.take n t)
theorem za8.drop : ∀ {xs : List V} {us : List Value} (n : Nat),za8 xs us -> za8 (xs.drop n) (us.drop n)
 | _,_,0,r=>r
 | _,_,_ + 1,.nil=>.nil
 | _,_,n + 1,.cons _ t=>za8.drop n t
noncomputable def zeg : Option V -> Option Value -> Prop
 | some v,some u=>za6 v u
 | none,none=>True
 | _,_=>False
noncomputable def KV {κ : Type} : List (κ × V) -> List (κ × Value) -> Prop:=Paired fun (p : κ × V) (q : κ × Value)=>p.1 = q.1 /\ za6 p.2 q.2
noncomputable def kV : Key -> V
 | .inl i=>.int i
 | .inr x=>.str x
inductive HO where
 | lst (xs : List V)
 | tup (xs : List V)
 | dK (kvs : List (Key × V)) | dT (kvs : List (List Key × V))
 | set (S : Int -> Bool) (n : Nat)
 | ins (C dx : Addr) (fs : List (Str × V))
 | own (x : Addr)
 | xd (fs : List (Str × V))
 | met (f x : Addr)
 | rng (lo hi : Int)
 | frz (o : Obj) (u : HO)
 | tbl (ps : Array Value)
 | ext (φ : Heap -> Prop)
noncomputable abbrev Hp:=Addr -> Option HO
noncomputable def upd (H : Hp) (a : Addr) (o : HO) : Hp:=fun b=>if b = a then some o else H b
theorem zcg {H : Hp} {a : Addr} {o : HO} : upd H a o a = some o:=by unfold upd; rw [if_pos rfl]
theorem zb0 {H : Hp} {a b : Addr} {o : HO} (h : b ≠ a) : upd H a o b = H b:=by unfold upd; rw [if_neg h]
theorem z4r {H : Hp} {a b : Addr} {o u : HO} (h : H a = some o) (h' : H b = some u) (d : o ≠ u) : a ≠ b:=by
 intro e; subst e; rw [h] at h'; exact d (Option.some.inj h')
theorem zdq {H : Hp} {a b : Addr} {o : HO} (h : H a = some o) (h' : H b = none) : a ≠ b:=by
 intro e; subst e; rw [h] at h'; cases h'
section
variable (P : Program) (w : World)
noncomputable def zcx (H : Hp) (h : Heap) (a : Addr) : HO -> Prop
 | .lst xs=>xs.length <= sizeLine /\ ∃ (its : List Value) (n : Nat),za8 xs its /\ h.get? a = some { cls:=.type "list",data:=.seq its.toArray n }
 | .tup xs=>xs.length <= sizeLine /\ ∃ its : List Value,za8 xs its /\ IsTup h a its.toArray
 | .dK kvs=>kvs.length <= sizeLine /\ (a == sysModules) = false /\ ∃ vs,KV kvs vs /\ h.DictOf (zej P w) a vs
 | .dT kvs=>kvs.length <= sizeLine /\ (a == sysModules) = false /\ ∃ xs : List (List Key × Addr × Value),
   Paired (fun (p : List Key × V) (q : List Key × Addr × Value)=>p.1 = q.1 /\ H q.2.1 = some (.tup (p.1.map kV)) /\ za6 p.2 q.2.2) kvs xs /\
   ∃ o es ep,h.get? a = some o /\ o.ExactDict /\ o.data = .dict es ep /\ es.toList = xs.map (entryOfKey (tupleKind (zej P w))) /\ (xs.map (·.1)).Nodup
 | .set S n=>h.SetOf (intKind P w) a S n
 | .ins C dx fs=>H dx = some (.own a) /\ fs.length <= 1000 /\ dx ≠ a /\ h.get? a = some (PySem.W.instObj C dx) /\
   ∃ mA,h.Ns1 dx mA /\ (∀ f,zeg (fs.lookup f) (mA f)) /\ PySem.Within mA (fs.map (·.1))
 | .own _=>∃ o,h.get? a = some o
 | .xd fs=>∃ mA,h.Ns1 a mA /\ ∀ f,zeg (fs.lookup f) (mA f)
 | .rng lo hi=>∃ t u v,h.get? a = some { cls:=.type "range",data:=.fields #[.int lo t,.int hi u,.int 1 v] }
 | .frz o u=>h.get? a = some o /\ zcx H h a u
 | .tbl ps=>h.get? a = some { cls:=.none,data:=.fields ps }
 | .met f x=>h.get? a = some (PySem.W.methodObj (.ref f) (.ref x))
 | .ext φ=>φ h /\ (∃ o,h.get? a = some o) /\ ∀ h1 h2 : Heap,φ h1 -> (∀ o,h1.get? a = some o -> h2.get? a = some o) -> φ h2
noncomputable def HOk (H : Hp) (h : Heap) : Prop:=∀ a o,H a = some o -> zcx P w H h a o
end
section
variable {P : Program} {w : World} {H H' : Hp} {h h' : Heap} {a : Addr} {o : HO}
theorem zcx.lt (x : zcx P w H h a o) : a < h.objs.size:=by
 cases o with
 | lst xs=>obtain ⟨_,_,_,_,e⟩:=x; exact Heap.lt_size e
 | tup xs=>obtain ⟨_,_,_,p⟩:=x; exact p.lt
 | dK kvs=>obtain ⟨_,_,_,_,o,_,_,e,_⟩:=x; exact Heap.lt_size e
 | dT kvs=>obtain ⟨_,_,_,_,o,_,_,e,_⟩:=x; exact Heap.lt_size e
 | set S n=>obtain ⟨o,_,_,_,e,_⟩:=x; exact Heap.lt_size e
 | ins C dx fs=>obtain ⟨_,_,_,e,_⟩:=x; exact Heap.lt_size e
 | own y=>obtain ⟨_,e⟩:=x; exact Heap.lt_size e
 | xd fs=>obtain ⟨_,⟨_,_,_,e,_⟩,_⟩:=x; exact Heap.lt_size e
 | rng lo hi=>obtain ⟨_,_,_,e⟩:=x; exact Heap.lt_size e
 | frz ob u=>obtain ⟨e,_⟩:=x; exact Heap.lt_size e
 | tbl ps=>exact Heap.lt_size (show h.get? a = some _ from x)
 | met f y=>exact Heap.lt_size (show h.get? a = some _ from x)
 | ext φ=>obtain ⟨_,⟨_,e⟩,_⟩:=x; exact Heap.lt_size e
theorem Paired.mapP {α β : Type} {F G : α -> β -> Prop} : ∀ {l₁ : List α} {l₂ : List β},Paired F l₁ l₂ -> (∀ a b,F a b -> G a b) -> Paired G l₁ l₂
 | _,_,.nil,_=>.nil
 | _,_,.cons r t,f=>.cons (f _ _ r) (Paired.mapP t f)
theorem zcx.stay (x : zcx P w H h a o) (k : ∀ b u,(b = a \/ H b = some (.own a)) -> h.get? b = some u -> h'.get? b = some u)
  (ho : ∀ b,H b = some (.own a) -> H' b = some (.own a)) (ht : ∀ b xs,H b = some (.tup xs) -> H' b = some (.tup xs)) : zcx P w H' h' a o:=by
 induction o with
 | lst xs=>obtain ⟨z,its,n,r,e⟩:=x; exact ⟨z,its,n,r,k _ _ (.inl rfl) e⟩
 | tup xs=>obtain ⟨z,its,r,ob,e,c⟩:=x; exact ⟨z,its,r,ob,k _ _ (.inl rfl) e,c⟩
 | dK kvs=>obtain ⟨z,y,vs,r,ob,es,ep,e,c⟩:=x; exact ⟨z,y,vs,r,ob,es,ep,k _ _ (.inl rfl) e,c⟩
 | dT kvs =>
  obtain ⟨z,y,xs,r,ob,es,ep,e,c⟩:=x
  exact ⟨z,y,xs,Paired.mapP r fun p q z=>⟨z.1,ht _ _ z.2.1,z.2.2⟩,ob,es,ep,k _ _ (.inl rfl) e,c⟩
 | set S n=>obtain ⟨ob,es,ep,t,e,c⟩:=x; exact ⟨ob,es,ep,t,k _ _ (.inl rfl) e,c⟩
 | ins C dx fs =>
  obtain ⟨d,z,ne,e,mA,⟨od,es,ep,e2,c⟩,r⟩:=x
  exact ⟨ho _ d,z,ne,k _ _ (.inl rfl) e,mA,⟨od,es,ep,k _ _ (.inr d) e2,c⟩,r⟩
 | own y=>obtain ⟨ob,e⟩:=x; exact ⟨ob,k _ _ (.inl rfl) e⟩
 | xd fs=>obtain ⟨mA,⟨od,es,ep,e,c⟩,r⟩:=x; exact ⟨mA,⟨od,es,ep,k _ _ (.inl rfl) e,c⟩,r⟩
 | rng lo hi=>obtain ⟨t,u,v,e⟩:=x; exact ⟨t,u,v,k _ _ (.inl rfl) e⟩
 | frz ob u ih=>obtain ⟨e,q⟩:=x; exact ⟨k _ _ (.inl rfl) e,ih q⟩
 | tbl ps =>
  have e : h.get? a = some { cls:=.none,data:=.fields ps }:=x
  show h'.get? a = some { cls:=.none,data:=.fields ps }
  exact k a _ (.inl rfl) e
 | met f y =>
  have e : h.get? a = some (PySem.W.methodObj (.ref f) (.ref y)):=x
  show h'.get? a = some (PySem.W.methodObj (.ref f) (.ref y))
  exact k a _ (.inl rfl) e
 | ext φ=>obtain ⟨p,⟨o,e⟩,st⟩:=x; exact ⟨st _ _ p fun o q=>k _ _ (.inl rfl) q,⟨o,k _ _ (.inl rfl) e⟩,st⟩
theorem HOk.lt (x : HOk P w H h) (e : H a = some o) : a < h.objs.size:=(x a o e).lt
theorem HOk.fresh (x : HOk P w H h) (e : h.objs.size <= a) : H a = none:=by
 cases q : H a with
 | none=>rfl
 | some u=>exact absurd (Nat.lt_of_lt_of_le (x.lt q) e) (Nat.lt_irrefl _)
theorem HOk.kept (x : HOk P w H h) (k : ∀ b u,h.get? b = some u -> h'.get? b = some u) : HOk P w H h':=fun a o e =>
 (x a o e).stay (fun b u _ q=>k b u q) (fun _ q=>q) fun _ _ q=>q
theorem HOk.laid (x : HOk P w H h) (k : ∀ b u,h.get? b = some u -> h'.get? b = some u) (hp : h.objs.size <= a) (new : zcx P w (upd H a o) h' a o) : HOk P w (upd H a o) h':=fun b u e=>by
 have hn:=x.fresh hp
 by_cases hb : b = a
 ·subst hb; rw [zcg] at e; cases e; exact new
 ·rw [zb0 hb] at e
  exact (x b u e).stay (fun c v _ q=>k c v q) (fun c q=>by rw [zb0 (zdq q hn)]; exact q) fun c xs q=>by rw [zb0 (zdq q hn)]; exact q
end
noncomputable def Rd (H : Hp) (a : Addr) (u : HO) : Prop:=H a = some u \/ ∃ o,H a = some (.frz o u)
theorem Rd.ok {P : Program} {w : World} {H : Hp} {h : Heap} {a : Addr} {u : HO} (r : Rd H a u) (x : HOk P w H h) : zcx P w H h a u:=by
 rcases r with r | ⟨o,r⟩
 ·exact x a u r
 ·obtain ⟨_,q⟩:=x a _ r
  exact q
noncomputable def Mut : Option HO -> Prop
 | some (.lst _)=>True
 | some (.dK _)=>True
 | some (.dT _)=>True
 | some (.set _ _)=>True
 | some (.ins _ _ _)=>True
 | some (.ext _)=>True
 | _=>False
section
variable {P : Program} {w : World} {H : Hp} {h h' : Heap} {x e : Addr} {o' : HO}
theorem HOk.write (ok : HOk P w H h) (mu : Mut (H x)) (he : e = x \/ H e = some (.own x)) (k : ∀ b u,b ≠ e -> h.get? b = some u -> h'.get? b = some u) (heo : ∃ u,h'.get? e = some u)
  (new : zcx P w (upd H x o') h' x o') : HOk P w (upd H x o') h':=fun b u q=>by
 have nown : ∀ c y,H c = some (.own y) -> c ≠ x:=fun c y r z=>by subst z; rw [r] at mu; exact mu
 have ntup : ∀ c xs,H c = some (.tup xs) -> c ≠ x:=fun c xs r z=>by subst z; rw [r] at mu; exact mu
 by_cases hb : b = x
 ·subst hb; rw [zcg] at q; cases q; exact new
 ·rw [zb0 hb] at q
  by_cases hbe : b = e
  ·have q' : H b = some (.own x):=by
    rcases he with z | z
    ·exact absurd (hbe.trans z) hb
    ·rw [hbe]; exact z
   rw [q] at q'; cases q'
   obtain ⟨v,hv⟩:=heo
   exact ⟨v,by rw [hbe]; exact hv⟩
  ·refine (ok b u q).stay (fun c v hc r=>k c v ?_ r) (fun c r=>by rw [zb0 (nown c b r)]; exact r) fun c xs r=>by rw [zb0 (ntup c xs r)]; exact r
   rcases hc with rfl | hc
   ·exact hbe
   ·rintro rfl
    rcases he with z | z
    ·exact nown c b hc z
    ·rw [hc] at z; cases z; exact hb rfl
end
structure Un (fs ex : List Addr) (H H' : Hp) (h h' : Heap) : Prop where
 keep : ∀ b o,h.get? b = some o -> H b = none -> b ∉ fs -> b ∉ ex -> h'.get? b = some o
 slot : ∀ b o,h.get? b = some o -> H b = none -> b ∈ fs -> b ∉ ex -> ∃ sl,h'.get? b = some { o with slots:=sl }
 free : ∀ b o,h.get? b = some o -> H b = none -> b ∉ ex -> H' b = none
 there : ∀ b o,h.get? b = some o -> b ∉ ex -> ∃ o',h'.get? b = some o'
 tups : ∀ b xs,H b = some (.tup xs) -> H' b = some (.tup xs)
 frzs : ∀ b o u,H b = some (.frz o u) -> H' b = some (.frz o u)
 tbls : ∀ b ps,H b = some (.tbl ps) -> ∃ more,H' b = some (.tbl (ps ++ more))
section
variable {fs fs' ex ex' : List Addr} {H H1 H2 : Hp} {h h1 h2 h' : Heap} {a x e : Addr} {o : HO}
theorem Un.any (u : Un fs ex H H1 h h1) {b : Addr} {ob : Obj} (q : h.get? b = some ob) (n : H b = none) (hx : b ∉ ex) : ∃ sl,h1.get? b = some { ob with slots:=sl }:=by
 by_cases hb : b ∈ fs
 ·exact u.slot b ob q n hb hx
 ·exact ⟨ob.slots,u.keep b ob q n hb hx⟩
theorem Un.kept (k : ∀ b u,h.get? b = some u -> h'.get? b = some u) : Un fs ex H H h h' :=
 ⟨fun b ob q _ _ _=>k b ob q,fun b ob q _ _ _=>⟨ob.slots,k b ob q⟩,fun _ _ _ n _=>n,fun b ob q _=>⟨ob,k b ob q⟩,fun _ _ q=>q,fun _ _ _ q=>q,fun _ ps q=>⟨#[],by rw [q]; simp⟩⟩
theorem Un.refl : Un fs ex H H h h:=Un.kept fun _ _ q=>q
theorem Un.laid (k : ∀ b u,h.get? b = some u -> h'.get? b = some u) (hp : h.objs.size <= a) (hn : H a = none) : Un fs ex H (upd H a o) h h' where
 keep:=fun b u q _ _ _=>k b u q
 slot:=fun b u q _ _ _=>⟨u.slots,k b u q⟩
 free:=fun b u q n _=>by rw [zb0 (Nat.ne_of_lt (Nat.lt_of_lt_of_le (Heap.lt_size q) hp))]; exact n
 there:=fun b u q _=>⟨u,k b u q⟩
 tups:=fun b xs q=>by rw [zb0 (zdq q hn)]; exact q
 frzs:=fun b u xs q=>by rw [zb0 (zdq q hn)]; exact q
 tbls:=fun b ps q=>⟨#[],by rw [zb0 (zdq q hn),q]; simp⟩
theorem Un.write (mu : Mut (H x)) (he : e = x \/ H e = some (.own x)) (k : ∀ b u,b ≠ e -> h.get? b = some u -> h'.get? b = some u) (heo : ∃ u,h'.get? e = some u) : Un fs ex H (upd H x o) h h':=by
 have hx : ∀ b,H b = none -> b ≠ x:=fun b n z=>by subst z; rw [n] at mu; exact mu
 have hb : ∀ b,H b = none -> b ≠ e:=fun b n z=>by
  subst z
  rcases he with r | r
  ·exact hx b n r
  ·rw [n] at r; cases r
 have hm : ∀ b u,H b = some u -> ¬ Mut (some u) -> b ≠ x:=fun b u q nm z=>by subst z; rw [q] at mu; exact nm mu
 refine ⟨fun b u q n _ _=>k b u (hb b n) q,fun b u q n _ _=>⟨u.slots,k b u (hb b n) q⟩,fun b u q n _=>by rw [zb0 (hx b n)]; exact n,fun b u q _=>?_,
  fun b xs q=>by rw [zb0 (hm b _ q fun z=>z)]; exact q,fun b u xs q=>by rw [zb0 (hm b _ q fun z=>z)]; exact q,fun b ps q=>⟨#[],by rw [zb0 (hm b _ q fun z=>z),q]; simp⟩⟩
 by_cases hbe : b = e
 ·subst hbe; exact heo
 ·exact ⟨u,k b u hbe q⟩
end
noncomputable def trk (h : Heap) (H : Hp) : List Addr:=(List.range h.objs.size).filter fun a=>(H a).isSome
noncomputable def zg5 (h : Heap) (H : Hp) : Heap:=PySem.W.hideAll h (trk h H)
theorem zxs (h : Heap) (H : Hp) : (zg5 h H).objs.size = h.objs.size:=PySem.W.hideAll_size _ _
theorem z4g {h : Heap} {H : Hp} {b : Addr} {o : Obj} (e : h.get? b = some o) (n : H b = none) : (zg5 h H).get? b = some o :=
 PySem.W.hideAll_get _ e fun hm=>by
  have q : (H b).isSome = true:=(List.mem_filter.mp hm).2
  rw [n] at q; simp at q
theorem z1m {h : Heap} {H : Hp} {b : Addr} {o : Obj} (e : (zg5 h H).get? b = some o) : h.get? b = some o /\ H b = none:=by
 have e' : h.get? b = some o:=PySem.W.of_hideAll (trk h H) e
 refine ⟨e',?_⟩
 cases q : H b with
 | none=>rfl
 | some x =>
  have hm : b ∈ trk h H:=List.mem_filter.mpr ⟨List.mem_range.mpr (Heap.lt_size e'),by simp [q]⟩
  have z : (zg5 h H).get? b = none:=PySem.W.hideAll_none (trk h H) hm
  rw [z] at e; cases e
noncomputable def z6r (g h : Heap) (L : Addr) : List (Addr × Obj):=(List.range h.objs.size).filterMap fun a=>if a = L \/ (g.get? a).isSome = true then none else (h.get? a).map fun o=>(a,o)
noncomputable def zco (g h : Heap) (L d : Addr) : List (Addr × Obj):=(z6r g h L).filter fun p=>decide (p.1 ≠ d)
structure Mod (K : PySem.W.Frag) (mg : Str -> Option Value) (base : Heap) : Prop where
 kin : K.In base
 glob : base.Ns mainGlobals mg
 blt : ∃ mb,base.Ns builtinsNs mb /\ ∀ x : Str,x ≠ "__name__" -> mb x = bootBuiltins x
 nolimit : base.NoLimit
set_option genInjectivity false in
structure Cx where
 prog : Program
 w : World
 K : PySem.W.Frag
 mg : Str -> Option Value
 base : Heap
 A : Around
 N : List Str
 s₀ : Shared
 H₀ : Hp
 env : Env
 outer : List Env
 stack : List Env
 ex : List Addr
 fn : Str -> Bool
 calm : Bool
 pn : List (Addr × Obj)
 xe : Value -> Shared -> Prop
noncomputable def frs (l : List Env) : List Addr:=l.filterMap (·.frame)
noncomputable abbrev Cx.fs (X : Cx) : List Addr:=frs X.outer
noncomputable def Vis (sc : Scope) (x : Str) : Prop:=sc.names.lookup x = some .local \/ sc.names.lookup x = some .cell \/ sc.names.lookup x = some .free
noncomputable def Loc (sc : Scope) (x : Str) : Prop:=sc.names.lookup x = some .local \/ sc.names.lookup x = some .cell
noncomputable def z7u (env : Env) (h : Heap) (m : Str -> Option Value) (x : Str) (u : Value) : Prop :=
 (env.kindOf x = some .local /\ m x = some u) \/ ((env.kindOf x = some .cell \/ env.kindOf x = some .free) /\ ∃ c,env.cells.lookup x = some c /\ h.IsCell c (some u))
structure Cx.Ok (X : Cx) : Prop where
 mod : Mod X.K X.mg X.base
 kind : X.env.scope.kind = .function
 glob : X.env.globals = mainGlobals
 blt : X.env.builtins = builtinsNs
 above : X.s₀.heap.objs.size <= X.env.locals
 inj : ∀ x y c,X.env.cells.lookup x = some c -> X.env.cells.lookup y = some c -> x = y
 has : ∀ x,(X.env.kindOf x = some .cell \/ X.env.kindOf x = some .free) -> ∃ c,X.env.cells.lookup x = some c
 cab : ∀ x c,X.fn x = true -> X.env.cells.lookup x = some c -> X.s₀.heap.objs.size <= c
 hd : X.calm = true -> X.A.handled = none
 frames : X.A.frames = some X.stack
 stk : X.stack = X.outer \/ (X.stack = X.env :: X.outer /\ X.env.frame = some X.env.locals)
 exf : ∀ b ∈ X.ex,b ≠ X.env.locals /\ ∀ x c,X.env.cells.lookup x = some c -> c ≠ b
 bs : ∀ b o,X.base.get? b = some o -> X.s₀.heap.get? b = some o /\ X.H₀ b = none
 bsz : X.base.objs.size <= X.s₀.heap.objs.size
 noex : ∀ b o,X.base.get? b = some o -> b ∉ X.ex
 exfs : ∀ b ∈ X.ex,b ∉ X.fs
 funs : X.s₀.heap.FunFrames X.base X.outer
 frf : ∀ b ∈ X.fs,X.H₀ b = none
structure Inv (X : Cx) (pins : List (Addr × Obj)) (σ : List (Option V)) (H : Hp) (s : Shared) : Prop where
 ok : X.Ok
 os : s.os = X.s₀.os
 bare : AllBare s.gens
 base : Un X.fs X.ex X.H₀ H X.s₀.heap s.heap
 loc : ∃ m,s.heap.Ns X.env.locals m /\ ∀ (i : Nat) (x : Str) (v : V),X.N[i]? = some x -> σ[i]? = some (some v) -> Vis X.env.scope x -> ∃ u,za6 v u /\ z7u X.env s.heap m x u
 cell : ∀ x c,X.env.cells.lookup x = some c -> ∃ v,s.heap.IsCell c v
 free : H X.env.locals = none
 freeC : ∀ x c,X.env.cells.lookup x = some c -> H c = none
 pin : ∀ p ∈ X.pn ++ pins,s.heap.get? p.1 = some p.2 /\ H p.1 = none /\ p.1 ≠ X.env.locals /\ p.1 ∉ X.fs /\ ∀ v,p.2.data ≠ .cell v
 hok : HOk X.prog X.w H s.heap
 len : σ.length = X.N.length
section
variable {X : Cx} {pins : List (Addr × Obj)} {σ : List (Option V)} {H H' : Hp} {s : Shared} {h' : Heap}
theorem Cx.Ok.nofr (ok : X.Ok) {b : Addr} {o : Obj} (e : X.base.get? b = some o) : b ∉ X.fs:=fun hb=>by
 have:=(ok.funs.mem hb).1
 rw [e] at this; cases this
theorem Inv.bs (I : Inv X pins σ H s) : ∀ b o,X.base.get? b = some o -> s.heap.get? b = some o /\ H b = none:=fun b o e =>
 ⟨I.base.keep b o (I.ok.bs b o e).1 (I.ok.bs b o e).2 (I.ok.nofr e) (I.ok.noex b o e),I.base.free b o (I.ok.bs b o e).1 (I.ok.bs b o e).2 (I.ok.noex b o e)⟩
theorem Inv.bk (I : Inv X pins σ H s) : ∀ b o,X.base.get? b = some o -> s.heap.get? b = some o:=fun b o e=>(I.bs b o e).1
theorem Inv.mod (I : Inv X pins σ H s) : Mod X.K X.mg X.base:=I.ok.mod
theorem Inv.kIn (I : Inv X pins σ H s) : X.K.In s.heap:=I.ok.mod.kin.keeps I.bk
theorem Inv.lt (I : Inv X pins σ H s) : X.env.locals < s.heap.objs.size:=let ⟨_,hn,_⟩:=I.loc; hn.lt
theorem Inv.sz (I : Inv X pins σ H s) : X.s₀.heap.objs.size <= s.heap.objs.size:=Nat.le_trans I.ok.above (Nat.le_of_lt I.lt)
theorem Inv.nofs (I : Inv X pins σ H s) {a : Addr} (h : s.heap.objs.size <= a) : a ∉ X.fs:=fun hb=>by
 obtain ⟨_,o,ho,_⟩:=I.ok.funs.mem hb
 exact absurd (Nat.lt_of_lt_of_le (Heap.lt_size ho) (Nat.le_trans I.sz h)) (Nat.lt_irrefl _)
theorem Inv.cne (I : Inv X pins σ H s) : ∀ x c,X.env.cells.lookup x = some c -> c ≠ X.env.locals:=fun x c e z=>by
 obtain ⟨v,o,ho,hd⟩:=I.cell x c e
 obtain ⟨m,⟨o',es,ep,ho',hd',_⟩,_⟩:=I.loc
 rw [z,ho'] at ho; cases ho; rw [hd'] at hd; cases hd
theorem Inv.funs (I : Inv X pins σ H s) : s.heap.FunFrames X.base X.outer:=by
 have all : ∀ (l : List Env),(∀ b ∈ frs l,b ∈ X.fs) -> X.s₀.heap.FunFrames X.base l -> s.heap.FunFrames X.base l:=by
  intro l
  induction l with
  | nil=>intro _ _; trivial
  | cons env r ih =>
   intro hs hl
   obtain ⟨hk,⟨L,o,hf,hn,ho,hd⟩,hr⟩:=hl
   have hL : L ∈ X.fs:=hs L (by unfold frs; rw [List.filterMap_cons,hf]; exact List.mem_cons_self)
   obtain ⟨sl,e⟩:=I.base.slot L o ho (I.ok.frf L hL) hL fun z=>I.ok.exfs L z hL
   exact ⟨hk,⟨L,_,hf,hn,e,hd⟩,ih (fun b hb=>hs b (by unfold frs; rw [List.filterMap_cons,hf]; exact List.mem_cons_of_mem _ hb)) hr⟩
 exact all X.outer (fun _ hb=>hb) I.ok.funs
theorem Inv.stack (I : Inv X pins σ H s) : s.heap.FunFrames X.base X.stack:=by
 rcases I.ok.stk with e | ⟨e,hf⟩
 ·rw [e]; exact I.funs
 ·rw [e]
  obtain ⟨m,hn,_⟩:=I.loc
  refine .cons (by rw [I.ok.kind]; decide) hf hn ?_ I.funs
  exact Heap.get?_none_of_le (Nat.le_trans I.ok.bsz I.ok.above)
theorem Inv.stkSub (I : Inv X pins σ H s) : ∀ b ∈ frs X.stack,b ∈ X.env.locals :: X.fs:=fun b hb=>by
 rcases I.ok.stk with e | ⟨e,hf⟩
 ·rw [e] at hb; exact List.mem_cons_of_mem _ hb
 ·rw [e] at hb
  unfold frs at hb
  rw [List.filterMap_cons,hf] at hb
  exact hb
theorem Inv.stkFree (I : Inv X pins σ H s) : ∀ b ∈ frs X.stack,H b = none:=fun b hb=>by
 rcases List.mem_cons.mp (I.stkSub b hb) with e | hb
 ·rw [e]; exact I.free
 ·obtain ⟨_,o,ho,_⟩:=I.ok.funs.mem hb
  exact I.base.free b o ho (I.ok.frf b hb) fun z=>I.ok.exfs b z hb
theorem Inv.step {g' : Array GenState} {t' : Nat} {d' : Drawn} {ch : List Addr} (I : Inv X pins σ H s)
  (hch : ∀ b ∈ ch,(b ∈ X.ex \/ X.s₀.heap.objs.size <= b) /\ b ≠ X.env.locals /\ (∀ x c,X.env.cells.lookup x = some c -> c ≠ b) /\ ∀ p ∈ X.pn ++ pins,p.1 ≠ b)
  (keep : ∀ b o,b ≠ X.env.locals -> b ∉ X.fs -> b ∉ ch -> s.heap.get? b = some o -> H b = none -> h'.get? b = some o)
  (slot : ∀ b o,b ≠ X.env.locals -> b ∈ X.fs -> b ∉ ch -> s.heap.get? b = some o -> H b = none -> ∃ sl,h'.get? b = some { o with slots:=sl }) (free : ∀ b o,b ∉ ch -> s.heap.get? b = some o -> H b = none -> H' b = none)
  (there : ∀ b o,b ∉ ch -> s.heap.get? b = some o -> ∃ o',h'.get? b = some o')
  (tups : ∀ b xs,H b = some (.tup xs) -> H' b = some (.tup xs)) (frzs : ∀ b o u,H b = some (.frz o u) -> H' b = some (.frz o u)) (tbls : ∀ b ps,H b = some (.tbl ps) -> ∃ more,H' b = some (.tbl (ps ++ more)))
  (ns : ∀ m,s.heap.Ns X.env.locals m -> h'.Ns X.env.locals m) (hok : HOk X.prog X.w H' h') (hg : AllBare g') :
  Inv X pins σ H' { s with heap:=h',gens:=g',drawn:=d',toks:=t' }:=by
 have neL : ∀ b o,X.s₀.heap.get? b = some o -> b ≠ X.env.locals:=fun b o e=>Nat.ne_of_lt (Nat.lt_of_lt_of_le (Heap.lt_size e) I.ok.above)
 have neC : ∀ b o,X.s₀.heap.get? b = some o -> b ∉ X.ex -> b ∉ ch:=fun b o e hx hb=>by
  rcases (hch b hb).1 with z | z
  ·exact hx z
  ·exact absurd (Nat.lt_of_lt_of_le (Heap.lt_size e) z) (Nat.lt_irrefl _)
 have cellK : ∀ x c,X.env.cells.lookup x = some c -> ∀ v,s.heap.IsCell c v -> h'.IsCell c v:=fun x c e v ⟨o,ho,hd⟩=>by
  have nch : c ∉ ch:=fun z=>(hch c z).2.2.1 x c e rfl
  by_cases hc : c ∈ X.fs
  ·obtain ⟨sl,q⟩:=slot c o (I.cne x c e) hc nch ho (I.freeC x c e)
   exact ⟨_,q,hd⟩
  ·exact ⟨o,keep c o (I.cne x c e) hc nch ho (I.freeC x c e),hd⟩
 refine ⟨I.ok,I.os,hg,⟨fun b o e n hb hx=>?_,fun b o e n hb hx=>?_,fun b o e n hx=>?_,fun b o e hx=>?_,fun b xs e=>tups b xs (I.base.tups b xs e),fun b o xs e=>frzs b o xs (I.base.frzs b o xs e),fun b ps e=>?_⟩,?_,fun x c e=>?_,?_,fun x c e=>?_,fun p hp=>?_,hok,I.len⟩
 ·exact keep b o (neL b o e) hb (neC b o e hx) (I.base.keep b o e n hb hx) (I.base.free b o e n hx)
 ·obtain ⟨sl,e1⟩:=I.base.slot b o e n hb hx
  obtain ⟨sl',e2⟩:=slot b _ (neL b o e) hb (neC b o e hx) e1 (I.base.free b o e n hx)
  exact ⟨sl',e2⟩
 ·obtain ⟨o',e1⟩:=I.base.there b o e hx
  exact free b o' (neC b o e hx) e1 (I.base.free b o e n hx)
 ·obtain ⟨o',e1⟩:=I.base.there b o e hx
  exact there b o' (neC b o e hx) e1
 ·obtain ⟨m1,e1⟩:=I.base.tbls b ps e
  obtain ⟨m2,e2⟩:=tbls b _ e1
  exact ⟨m1 ++ m2,by rw [e2,Array.append_assoc]⟩
 ·obtain ⟨m,hn,hl⟩:=I.loc
  refine ⟨m,ns m hn,fun i x v e1 e2 e3=>?_⟩
  obtain ⟨u,r,l⟩:=hl i x v e1 e2 e3
  refine ⟨u,r,?_⟩
  rcases l with l | ⟨k,c,e,z⟩
  ·exact .inl l
  ·exact .inr ⟨k,c,e,cellK x c e _ z⟩
 ·obtain ⟨v,z⟩:=I.cell x c e
  exact ⟨v,cellK x c e v z⟩
 ·obtain ⟨m,⟨o,_,_,ho,_⟩,_⟩:=I.loc
  exact free _ o (fun z=>(hch _ z).2.1 rfl) ho I.free
 ·obtain ⟨v,o,ho,hd⟩:=I.cell x c e
  exact free c o (fun z=>(hch c z).2.2.1 x c e rfl) ho (I.freeC x c e)
 ·obtain ⟨e,n,ne,nf,d⟩:=I.pin p hp
  have nch : p.1 ∉ ch:=fun z=>(hch p.1 z).2.2.2 p hp rfl
  exact ⟨keep p.1 p.2 ne nf nch e n,free p.1 p.2 nch e n,ne,nf,d⟩
theorem Inv.un {t' : Nat} (I : Inv X pins σ H s) (u : Un X.fs [] H H' s.heap h') (hok : HOk X.prog X.w H' h') : Inv X pins σ H' { s with heap:=h',toks:=t' }:=by
 obtain ⟨m,⟨o,es,ep,ho,r⟩,_⟩:=id I.loc
 obtain ⟨sl,hL⟩:=u.any ho I.free (by simp)
 exact I.step (g':=s.gens) (d':=s.drawn) (ch:=[]) (fun _ z=>nomatch z) (fun b o _ hb _ e n=>u.keep b o e n hb (by simp)) (fun b o _ hb _ e n=>u.slot b o e n hb (by simp)) (fun b o _ e n=>u.free b o e n (by simp)) (fun b o _ e=>u.there b o e (by simp)) u.tups u.frzs u.tbls (fun m' hm=>by
  obtain ⟨o',es',ep',ho',r'⟩:=hm
  rw [ho] at ho'; cases ho'
  exact ⟨_,es',ep',hL,r'⟩) hok I.bare
theorem Inv.call {g' : Array GenState} {t' : Nat} {d' : Drawn} {ch : List Addr} (I : Inv X pins σ H s) (u : Un (frs X.stack) ch H H' s.heap h') (hok : HOk X.prog X.w H' h') (hg : AllBare g')
  (hch : ∀ b ∈ ch,(b ∈ X.ex \/ X.s₀.heap.objs.size <= b) /\ b ≠ X.env.locals /\ (∀ x c,X.env.cells.lookup x = some c -> c ≠ b) /\ ∀ p ∈ X.pn ++ pins,p.1 ≠ b) :
  Inv X pins σ H' { s with heap:=h',gens:=g',drawn:=d',toks:=t' }:=by
 obtain ⟨m,⟨o,es,ep,ho,r⟩,_⟩:=id I.loc
 obtain ⟨sl,hL⟩:=u.any ho I.free fun z=>(hch _ z).2.1 rfl
 exact I.step (ch:=ch) hch (fun b o hL hb hc e n=>u.keep b o e n (fun z=>(List.mem_cons.mp (I.stkSub b z)).elim hL hb) hc) (fun b o _ _ hc e n=>u.any e n hc) (fun b o hc e n=>u.free b o e n hc) (fun b o hc e=>u.there b o e hc) u.tups u.frzs u.tbls (fun m' hm=>by
  obtain ⟨o',es',ep',ho',r'⟩:=hm
  rw [ho] at ho'; cases ho'
  exact ⟨_,es',ep',hL,r'⟩) hok hg
theorem Inv.turned {t' : Nat} {it : Addr} (I : Inv X pins σ H s) (k : ∀ b o,b ≠ it -> s.heap.get? b = some o -> h'.get? b = some o) (hn : H it = none) (hL : it ≠ X.env.locals)
  (h1 : it ∈ X.ex \/ X.s₀.heap.objs.size <= it) (h2 : ∀ x c,X.env.cells.lookup x = some c -> c ≠ it) (h3 : ∀ p ∈ X.pn ++ pins,p.1 ≠ it) : Inv X pins σ H { s with heap:=h',toks:=t' }:=by
 have nit : ∀ b u,H b = some u -> b ≠ it:=fun b u e z=>by rw [z,hn] at e; cases e
 refine I.step (g':=s.gens) (d':=s.drawn) (ch:=[it]) (fun b hb=>?_) (fun b o _ _ hc e _=>k b o (fun z=>hc (by simp [z])) e) (fun b o _ _ hc e _=>⟨o.slots,k b o (fun z=>hc (by simp [z])) e⟩) (fun _ _ _ _ n=>n)
  (fun b o hc e=>⟨o,k b o (fun z=>hc (by simp [z])) e⟩) (fun _ _ e=>e) (fun _ _ _ e=>e) (fun b ps e=>⟨#[],by rw [e]; simp⟩) (fun m hm=>?_) (fun b u e=>?_) I.bare
 ·have e : b = it:=by simpa using hb
  subst e
  exact ⟨h1,hL,h2,h3⟩
 ·obtain ⟨o,es,ep,ho,r⟩:=hm
  exact ⟨o,es,ep,k _ o (Ne.symm hL) ho,r⟩
 ·refine (I.hok b u e).stay (fun c v hc q=>k c v ?_ q) (fun _ q=>q) fun _ _ q=>q
  rcases hc with z | z
  ·rw [z]; exact nit b u e
  ·exact nit c _ z
theorem Inv.tok (I : Inv X pins σ H s) (t : Nat) : Inv X pins σ H { s with toks:=t }:=I.un (h':=s.heap) (t':=t) Un.refl I.hok
theorem Inv.kept {t' : Nat} (I : Inv X pins σ H s) (k : ∀ b u,s.heap.get? b = some u -> h'.get? b = some u) : Inv X pins σ H { s with heap:=h',toks:=t' }:=I.un (Un.kept k) (I.hok.kept k)
theorem Inv.laid {a : Addr} {o : HO} {t' : Nat} (I : Inv X pins σ H s) (k : ∀ b u,s.heap.get? b = some u -> h'.get? b = some u) (hp : s.heap.objs.size <= a) (new : zcx X.prog X.w (upd H a o) h' a o) :
  Inv X pins σ (upd H a o) { s with heap:=h',toks:=t' }:=I.un (Un.laid k hp (I.hok.fresh hp)) (I.hok.laid k hp new)
theorem Inv.write {x e : Addr} {o : HO} {t' : Nat} (I : Inv X pins σ H s) (mu : Mut (H x)) (he : e = x \/ H e = some (.own x)) (k : ∀ b u,b ≠ e -> s.heap.get? b = some u -> h'.get? b = some u) (heo : ∃ u,h'.get? e = some u)
  (new : zcx X.prog X.w (upd H x o) h' x o) : Inv X pins σ (upd H x o) { s with heap:=h',toks:=t' }:=I.un (Un.write mu he k heo) (I.hok.write mu he k heo new)
theorem Inv.pins_of {pins' : List (Addr × Obj)} (I : Inv X pins σ H s) (h : ∀ p ∈ pins',s.heap.get? p.1 = some p.2 /\ H p.1 = none /\ p.1 ≠ X.env.locals /\ p.1 ∉ X.fs /\ ∀ v,p.2.data ≠ .cell v) : Inv X pins' σ H s :=
 ⟨I.ok,I.os,I.bare,I.base,I.loc,I.cell,I.free,I.freeC,fun p hp=>(List.mem_append.mp hp).elim (fun z=>I.pin p (List.mem_append_left _ z)) (h p),I.hok,I.len⟩
theorem ztf {N : List Str} (hN : N.Nodup) {i j : Nat} {x : Str} (a : N[i]? = some x) (b : N[j]? = some x) : i = j:=by
 obtain ⟨h1,e1⟩:=List.getElem?_eq_some_iff.mp a
 obtain ⟨h2,e2⟩:=List.getElem?_eq_some_iff.mp b
 exact (List.getElem_inj hN).mp (e1.trans e2.symm)
theorem zs3 {M : Model} {A : Around} {E : Value -> Shared -> Prop} {i : Nat} {x : Str} {v : V} {u : Value} {Q : Unit -> Shared -> Prop} (I : Inv X pins σ H s) (hN : X.N.Nodup) (hi : X.N[i]? = some x) (hx : Loc X.env.scope x) (r : za6 v u)
  (h : ∀ s',Inv X pins (σ.set i (some v)) H s' -> (∃ a,Heap.SameBut a s.heap s'.heap /\ (a = X.env.locals \/ X.env.cells.lookup x = some a)) -> Q () s') (hf : X.fn x = true \/ X.env.scope.names.lookup x = some .local:=by first | exact .inl rfl | exact .inr rfl | assumption) : wpAny M A (storeName X.env x u) Q E s:=by
 obtain ⟨m,hn,hl⟩:=id I.loc
 have hcls : (X.env.scope.kind == .class || (X.env.scope.kind == .module && X.env.locals != X.env.globals)) = false:=by rw [I.ok.kind]; rfl
 have hiσ : i < σ.length:=by rw [I.len]; exact (List.getElem?_eq_some_iff.mp hi).1
 have cne:=I.cne
 have tracked : ∀ {a : Addr} {h' : Heap},(∃ o,s.heap.get? a = some o /\ H a = none) -> Heap.SameBut a s.heap h' -> HOk X.prog X.w H h':=fun {a h'} ha hs b ob e=>by
  obtain ⟨_,_,hfree⟩:=ha
  refine (I.hok b ob e).stay (fun c w' hc q=>(hs.2 c ?_).trans q) (fun _ q=>q) fun _ _ q=>q
  rintro rfl
  rcases hc with rfl | hc
  ·rw [hfree] at e; cases e
  ·rw [hfree] at hc; cases hc
 rcases hx with hk | hk
 ·refine wpAny_storeName_local hk hn (fun h' hn' hs=>?_) hcls
  obtain ⟨oL,_,_,hoL,_⟩:=id hn
  refine h _ ⟨I.ok,I.os,I.bare,⟨fun b o e n hb hx=>?_,fun b o e n hb hx=>?_,I.base.free,fun b o e hx=>?_,I.base.tups,I.base.frzs,I.base.tbls⟩,⟨_,hn',fun j y v' e1 e2 e3=>?_⟩,fun y c e=>?_,I.free,I.freeC,fun p hp=>?_,tracked ⟨oL,hoL,I.free⟩ hs,by simpa using I.len⟩ ⟨_,hs,.inl rfl⟩
  ·exact (hs.2 b (Nat.ne_of_lt (Nat.lt_of_lt_of_le (Heap.lt_size e) I.ok.above))).trans (I.base.keep b o e n hb hx)
  ·obtain ⟨sl,e1⟩:=I.base.slot b o e n hb hx
   exact ⟨sl,(hs.2 b (Nat.ne_of_lt (Nat.lt_of_lt_of_le (Heap.lt_size e) I.ok.above))).trans e1⟩
  ·obtain ⟨o',e1⟩:=I.base.there b o e hx
   exact ⟨o',(hs.2 b (Nat.ne_of_lt (Nat.lt_of_lt_of_le (Heap.lt_size e) I.ok.above))).trans e1⟩
  ·by_cases hj : j = i
   ·subst hj
    rw [hi] at e1; cases e1
    rw [List.getElem?_set_self hiσ] at e2
    cases e2
    exact ⟨u,r,.inl ⟨hk,by simp⟩⟩
   ·rw [List.getElem?_set_ne (Ne.symm hj)] at e2
    obtain ⟨u',r',q⟩:=hl j y v' e1 e2 e3
    refine ⟨u',r',?_⟩
    rcases q with ⟨k,e⟩ | ⟨k,c,e,z⟩
    ·refine .inl ⟨k,?_⟩
     have : y ≠ x:=fun e=>hj (ztf hN e1 (e ▸ hi))
     simp [this,e]
    ·exact .inr ⟨k,c,e,z.sameBut hs (cne y c e)⟩
  ·obtain ⟨w',z⟩:=I.cell y c e
   exact ⟨w',z.sameBut hs (cne y c e)⟩
  ·obtain ⟨e,n,ne,nf,d⟩:=I.pin p hp
   exact ⟨(hs.2 p.1 ne).trans e,n,ne,nf,d⟩
 ·have hfn : X.fn x = true:=by
   rcases hf with z | z
   ·exact z
   ·rw [z] at hk; cases hk
  obtain ⟨c,hc⟩:=I.ok.has x (.inl hk)
  obtain ⟨w',z⟩:=I.cell x c hc
  refine wpAny_storeName_cell I.ok.kind hk hc z (fun h' hc' hs=>?_)
  obtain ⟨oc,hoc,hocd⟩:=id z
  refine h { s with heap:=h' } ⟨I.ok,I.os,I.bare,⟨fun b o e n hb hx=>?_,fun b o e n hb hx=>?_,I.base.free,fun b o e hx=>?_,I.base.tups,I.base.frzs,I.base.tbls⟩,⟨m,hn.sameBut hs (Ne.symm (cne x c hc)),fun j y v' e1 e2 e3=>?_⟩,fun y c' e=>?_,I.free,I.freeC,fun p hp=>?_,tracked ⟨oc,hoc,I.freeC x c hc⟩ hs,by simpa using I.len⟩ ⟨c,hs,.inr hc⟩
  ·exact (hs.2 b (Nat.ne_of_lt (Nat.lt_of_lt_of_le (Heap.lt_size e) (I.ok.cab x c hfn hc)))).trans (I.base.keep b o e n hb hx)
  ·obtain ⟨sl,e1⟩:=I.base.slot b o e n hb hx
   exact ⟨sl,(hs.2 b (Nat.ne_of_lt (Nat.lt_of_lt_of_le (Heap.lt_size e) (I.ok.cab x c hfn hc)))).trans e1⟩
  ·obtain ⟨o',e1⟩:=I.base.there b o e hx
   exact ⟨o',(hs.2 b (Nat.ne_of_lt (Nat.lt_of_lt_of_le (Heap.lt_size e) (I.ok.cab x c hfn hc)))).trans e1⟩
  ·by_cases hj : j = i
   ·subst hj
    rw [hi] at e1; cases e1
    rw [List.getElem?_set_self hiσ] at e2
    cases e2
    exact ⟨u,r,.inr ⟨.inl hk,c,hc,hc'⟩⟩
   ·rw [List.getElem?_set_ne (Ne.symm hj)] at e2
    obtain ⟨u',r',q⟩:=hl j y v' e1 e2 e3
    refine ⟨u',r',?_⟩
    rcases q with q | ⟨k,c',e,z'⟩
    ·exact .inl q
    ·refine .inr ⟨k,c',e,z'.sameBut hs ?_⟩
     rintro rfl
     exact hj (ztf hN e1 (I.ok.inj _ _ _ e hc ▸ hi))
  ·by_cases hcc : c' = c
   ·subst hcc; exact ⟨_,hc'⟩
   ·obtain ⟨w2,z2⟩:=I.cell y c' e
    exact ⟨w2,z2.sameBut hs hcc⟩
  ·obtain ⟨e,n,ne,nf,d⟩:=I.pin p hp
   refine ⟨(hs.2 p.1 ?_).trans e,n,ne,nf,d⟩
   intro q
   rw [q,hoc] at e
   have q' : oc = p.2:=Option.some.inj e
   exact d w' (by rw [<- q']; exact hocd)
theorem zr3 {M : Model} {A : Around} {E : Value -> Shared -> Prop} {i : Nat} {x : Str} {v : V} {u : Value} {Q : Unit -> Shared -> Prop} (I : Inv X pins σ H s) (hN : X.N.Nodup) (hi : X.N[i]? = some x) (hx : Loc X.env.scope x) (r : za6 v u)
  (h : ∀ s',Inv X pins (σ.set i (some v)) H s' -> Q () s') (hf : X.fn x = true \/ X.env.scope.names.lookup x = some .local:=by first | exact .inl rfl | exact .inr rfl | assumption) : wpAny M A (storeName X.env x u) Q E s :=
 zs3 I hN hi hx r (fun s' I' _=>h s' I') hf
theorem Inv.call' {s' : Shared} {ch : List Addr} (I : Inv X pins σ H s) (ho : s'.os = s.os) (u : Un (frs X.stack) ch H H' s.heap s'.heap) (hok : HOk X.prog X.w H' s'.heap) (hg : AllBare s'.gens)
  (hch : ∀ b ∈ ch,(b ∈ X.ex \/ X.s₀.heap.objs.size <= b) /\ b ≠ X.env.locals /\ (∀ x c,X.env.cells.lookup x = some c -> c ≠ b) /\ ∀ p ∈ X.pn ++ pins,p.1 ≠ b) : Inv X pins σ H' s':=by
 obtain ⟨h',g',d',t',o'⟩:=s'
 have e : o' = s.os:=ho
 subst e
 exact I.call (g':=g') (t':=t') (d':=d') u hok hg hch
end
noncomputable abbrev XK:=Value -> Option Addr -> Hp -> Prop
noncomputable abbrev St:=List (Option V)
noncomputable abbrev VK:=V -> Hp -> Prop
noncomputable abbrev TE:=St -> Hp -> VK -> Prop
noncomputable abbrev TT:=St -> Hp -> (Bool -> Hp -> Prop) -> Prop
noncomputable abbrev TA:=St -> Hp -> (List V -> Hp -> Prop) -> Prop
structure zhz where
 nx : St -> Hp -> Prop
 rt : VK
 bk : St -> Hp -> Prop:=fun _ _=>False
 ct : St -> Hp -> Prop:=fun _ _=>False
noncomputable abbrev TS:=zhz -> St -> Hp -> Prop
noncomputable def EP (X : Cx) (pins : List (Addr × Obj)) (σ : St) (Q : VK) (u : Value) (s' : Shared) : Prop:=∃ v H',Inv X pins σ H' s' /\ za6 v u /\ Q v H'
noncomputable def TP (X : Cx) (pins : List (Addr × Obj)) (σ : St) (Q : Bool -> Hp -> Prop) (b : Bool) (s' : Shared) : Prop:=∃ H',Inv X pins σ H' s' /\ Q b H'
noncomputable def AP (X : Cx) (pins : List (Addr × Obj)) (σ : St) (Q : List V -> Hp -> Prop) (us : List Value) (s' : Shared) : Prop:=∃ vs H',Inv X pins σ H' s' /\ za8 vs us /\ Q vs H'
noncomputable def SP (X : Cx) (pins : List (Addr × Obj)) (D : zhz) (f : Flow) (s' : Shared) : Prop :=
 match f with
 | .next=>∃ σ' H',Inv X pins σ' H' s' /\ D.nx σ' H'
 | .brk=>∃ σ' H',Inv X pins σ' H' s' /\ D.bk σ' H'
 | .cont=>∃ σ' H',Inv X pins σ' H' s' /\ D.ct σ' H'
 | .ret u=>∃ v σ' H',Inv X pins σ' H' s' /\ za6 v u /\ D.rt v H'
noncomputable def PE (X : Cx) (e : Expr) (t : TE) : Prop :=
 ∀ (pins : List (Addr × Obj)) (s : Shared) (σ : St) (H : Hp) (Q : VK),Inv X pins σ H s -> t σ H Q -> wpAny (model X.prog X.w) X.A (eval e X.env) (EP X pins σ Q) X.xe s
noncomputable def PT (X : Cx) (e : Expr) (t : TT) : Prop :=
 ∀ (pins : List (Addr × Obj)) (s : Shared) (σ : St) (H : Hp) (Q : Bool -> Hp -> Prop),Inv X pins σ H s -> t σ H Q -> wpAny (model X.prog X.w) X.A (isTrue e X.env (eval e X.env)) (TP X pins σ Q) X.xe s
noncomputable def PW (X : Cx) (e : Expr) (t : TT) : Prop :=
 ∀ (whole : Sem Value) (pins : List (Addr × Obj)) (s : Shared) (σ : St) (H : Hp) (Q : Bool -> Hp -> Prop),Inv X pins σ H s -> t σ H Q -> wpAny (model X.prog X.w) X.A (isTrue e X.env whole) (TP X pins σ Q) X.xe s
theorem PW.pt {X : Cx} {e : Expr} {t : TT} (h : PW X e t) : PT X e t:=h _
noncomputable def PA (X : Cx) (es : List Expr) (t : TA) : Prop :=
 ∀ (pos : Pos) (pins : List (Addr × Obj)) (s : Shared) (σ : St) (H : Hp) (Q : List V -> Hp -> Prop),Inv X pins σ H s -> t σ H Q -> wpAny (model X.prog X.w) X.A (spliced (backTo pos (starEach es X.env))) (AP X pins σ Q) X.xe s
noncomputable def PS (X : Cx) (st : Stmt) (t : TS) : Prop :=
 ∀ (pins : List (Addr × Obj)) (s : Shared) (σ : St) (H : Hp) (D : zhz),Inv X pins σ H s -> t D σ H -> wpAny (model X.prog X.w) X.A (exec st X.env) (SP X pins D) X.xe s
noncomputable def PSs (X : Cx) (st : List Stmt) (t : TS) : Prop :=
 ∀ (pins : List (Addr × Obj)) (s : Shared) (σ : St) (H : Hp) (D : zhz),Inv X pins σ H s -> t D σ H -> wpAny (model X.prog X.w) X.A (execs st X.env) (SP X pins D) X.xe s
theorem thn {α : Type} {t : Sem α} {Q Q' : α -> Shared -> Prop} {M : Model} {A : Around} {E : Value -> Shared -> Prop} {s : Shared} (h : wpAny M A t Q E s) (hQ : ∀ a s,Q a s -> Q' a s) : wpAny M A t Q' E s:=wpAny_mono h hQ fun _ _ x=>x
section
variable {X : Cx}
noncomputable def zei (i : Nat) : TE:=fun σ H Q=>∃ v,σ[i]? = some (some v) /\ Q v H
noncomputable def tC (v : V) : TE:=fun _ H Q=>Q v H
theorem zgu {i : Nat} {x : Str} {pos : Pos} (hN : X.N[i]? = some x) (hv : Vis X.env.scope x) (hd : (x == ("__debug__" : Str)) = false:=by decide) (hcd : (x == ("__classdict__" : Str)) = false:=by decide) : PE X (.Name x pos) (zei i):=by
 intro pins s σ H Q I h
 obtain ⟨v,e,h⟩:=h
 obtain ⟨m,hn,hl⟩:=I.loc
 obtain ⟨u,r,l⟩:=hl i x v hN e hv
 have fin : EP X pins σ Q u s:=⟨v,H,I,r,h⟩
 rcases l with ⟨hk,hm⟩ | ⟨hk,c,hc,hcell⟩
 ·exact wpAny_Name (wpAny_loadName_local I.ok.kind hk hn hm fin) hd
 ·rcases hk with hk | hk
  ·exact wpAny_Name (wpAny_loadName_cell I.ok.kind hk hc hcell fin) hd
  ·exact wpAny_Name (wpAny_loadName_free I.ok.kind hk hc hcell fin hcd) hd
theorem z5w {i j pos} : PE X (.Constant (.int i) j pos) (tC (.int i)):=fun _ _ _ H _ I h=>wpAny_Constant_int ⟨.int i,H,I.tok _,⟨_,rfl⟩,h⟩
theorem zwz {b j pos} : PE X (.Constant (.bool b) j pos) (tC (.bl b)):=fun _ _ _ H _ I h=>Constant_bool ⟨.bl b,H,I,rfl,h⟩
theorem zy6 {j pos} : PE X (.Constant .none j pos) (tC .non):=fun _ _ _ H _ I h=>Constant_none ⟨.non,H,I,rfl,h⟩
theorem zmr {x j pos} : PE X (.Constant (.str x) j pos) (tC (.str x)):=fun _ _ _ H _ I h=>Calls.Constant_str ⟨.str x,H,I.tok _,⟨_,rfl⟩,h⟩
noncomputable def Gl (X : Cx) (x : Str) : Prop:=X.env.kindOf x = some .globalImplicit
theorem zuj {E : Value -> Shared -> Prop} {pins : List (Addr × Obj)} {s : Shared} {σ : St} {H : Hp} {x : Str} {u : Value} {pos : Pos} {Q : Value -> Shared -> Prop} (I : Inv X pins σ H s) (hg : Gl X x) (hm : X.mg x = some u) (h : Q u s)
  (hd : (x == ("__debug__" : Str)) = false:=by decide) : wpAny (model X.prog X.w) X.A (eval (.Name x pos) X.env) Q E s :=
 Calls.Name_function_global I.ok.kind hg (Calls.loadGlobal_global (by rw [I.ok.glob]; exact I.mod.glob.keeps I.bk) hm h) hd
theorem zg7 {E : Value -> Shared -> Prop} {pins : List (Addr × Obj)} {s : Shared} {σ : St} {H : Hp} {x : Str} {u : Value} {pos : Pos} {Q : Value -> Shared -> Prop} (I : Inv X pins σ H s) (hg : Gl X x) (hm : X.mg x = none) (hv : bootBuiltins x = some u) (h : Q u s)
  (hn : x ≠ "__name__":=by decide) (hd : (x == ("__debug__" : Str)) = false:=by decide) : wpAny (model X.prog X.w) X.A (eval (.Name x pos) X.env) Q E s:=by
 obtain ⟨mb,h1,h2⟩:=I.mod.blt
 exact Calls.Name_function_global I.ok.kind hg (Calls.loadGlobal_builtin (by rw [I.ok.glob]; exact I.mod.glob.keeps I.bk) hm (by rw [I.ok.blt]; exact h1.keeps I.bk) ((h2 x hn).trans hv) h) hd
theorem z5c {x : Str} {v : V} {u : Value} {pos : Pos} (hg : Gl X x) (hm : X.mg x = none) (hv : bootBuiltins x = some u) (r : za6 v u) (hn : x ≠ "__name__":=by decide) (hd : (x == ("__debug__" : Str)) = false:=by decide) : PE X (.Name x pos) (tC v) :=
 fun _ _ _ H _ I h=>zg7 I hg hm hv ⟨v,H,I,r,h⟩ hn hd
variable {a b : Expr} {ta tb : TE} {pos : Pos}
noncomputable def PC (X : Cx) (op : CmpOp) (a b : Expr) (t : TE) : Prop :=
 ∀ (pins : List (Addr × Obj)) (s : Shared) (σ : St) (H : Hp) (Q : VK),Inv X pins σ H s -> t σ H Q ->
  wpAny (model X.prog X.w) X.A (eval a X.env) (fun v s₁=>wpAny (model X.prog X.w) X.A (eval b X.env) (fun u s₂=>wpAny (model X.prog X.w) X.A (compareOp op v u) (EP X pins σ Q) X.xe s₂) X.xe s₁) X.xe s
theorem z21 {op : CmpOp} {t : TE} (h : PC X op a b t) (h1 : behindInMarks op b = false:=by first | exact nobehind _ (by decide) (by decide) | rfl) : PE X (.Compare a [op] [b] pos) t:=fun pins s σ H Q I hw=>wpAny_Compare1 (h pins s σ H Q I hw) h1
variable {tA tB' : TT} {zco : List Expr}
noncomputable def z8c (t u : TT) : TT:=fun σ H Q=>t σ H fun c H1=>if c = true then u σ H1 Q else Q false H1
noncomputable def tOr (t u : TT) : TT:=fun σ H Q=>t σ H fun c H1=>if c = true then Q true H1 else u σ H1 Q
noncomputable def zxd (t : TT) : TT:=fun σ H Q=>t σ H fun c H1=>Q (!c) H1
theorem z0m (ha : PT X a tA) : PW X (.BoolOp .And [a] pos) tA:=by
 intro wh pins s σ H Q I h
 refine isTrue_and (thn (ha pins s σ H Q I h) fun c s1 e=>?_)
 cases c with
 | true=>exact isTrue_and_nil e
 | false=>exact e
theorem z3u (ha : PT X a tA) : PW X (.BoolOp .Or [a] pos) tA:=by
 intro wh pins s σ H Q I h
 refine isTrue_or (thn (ha pins s σ H Q I h) fun c s1 e=>?_)
 cases c with
 | false=>exact isTrue_or_nil e
 | true=>exact e
theorem zw5 (ha : PT X a tA) (hb : PW X (.BoolOp .And (b :: zco) pos) tB') : PW X (.BoolOp .And (a :: b :: zco) pos) (z8c tA tB'):=by
 intro wh pins s σ H Q I h
 refine isTrue_and (thn (ha pins s σ H _ I h) fun c s1 ⟨H1,I1,q1⟩=>?_)
 cases c with
 | true=>exact hb wh pins s1 σ H1 Q I1 q1
 | false=>exact ⟨H1,I1,q1⟩
theorem z2h (ha : PT X a tA) (hb : PW X (.BoolOp .Or (b :: zco) pos) tB') : PW X (.BoolOp .Or (a :: b :: zco) pos) (tOr tA tB'):=by
 intro wh pins s σ H Q I h
 refine isTrue_or (thn (ha pins s σ H _ I h) fun c s1 ⟨H1,I1,q1⟩=>?_)
 cases c with
 | true=>exact ⟨H1,I1,q1⟩
 | false=>exact hb wh pins s1 σ H1 Q I1 q1
theorem zye (ha : PT X a tA) : PT X (.UnaryOp .Not a pos) (zxd tA):=by
 intro pins s σ H Q I h
 exact isTrue_not (ha pins s σ H (fun c H1=>Q (!c) H1) I h)
noncomputable def z8f (ta tb : TE) : TE:=fun σ H Q=>ta σ H fun x H1=>∃ c,x = .bl c /\ if c = true then tb σ H1 Q else Q (.bl false) H1
noncomputable def zxq (ta tb : TE) : TE:=fun σ H Q=>ta σ H fun x H1=>∃ c,x = .bl c /\ if c = true then Q (.bl true) H1 else tb σ H1 Q
noncomputable def z8r (ta : TE) : TE:=fun σ H Q=>ta σ H fun x H1=>∃ c,x = .bl c /\ Q (.bl (!c)) H1
theorem z6b {op} {t : TE} (h : PE X a t) : PE X (.BoolOp op [a] pos) t:=fun pins s σ H Q I hw=>BoolOp_one (h pins s σ H Q I hw)
theorem z4v (ha : PE X a ta) (hb : PE X (.BoolOp .And (b :: zco) pos) tb) : PE X (.BoolOp .And (a :: b :: zco) pos) (z8f ta tb):=by
 intro pins s σ H Q I h
 refine BoolOp_and (thn (ha pins s σ H _ I h) fun v s1 ⟨x,H1,I1,r1,q1⟩=>?_)
 obtain ⟨c,rfl,q1⟩:=q1
 cases r1
 refine wpAny_truthy_bool ?_
 cases c with
 | true=>exact hb pins s1 σ H1 Q I1 q1
 | false=>exact ⟨.bl false,H1,I1,rfl,q1⟩
theorem z0l (ha : PE X a ta) (hb : PE X (.BoolOp .Or (b :: zco) pos) tb) : PE X (.BoolOp .Or (a :: b :: zco) pos) (zxq ta tb):=by
 intro pins s σ H Q I h
 refine BoolOp_or (thn (ha pins s σ H _ I h) fun v s1 ⟨x,H1,I1,r1,q1⟩=>?_)
 obtain ⟨c,rfl,q1⟩:=q1
 cases r1
 refine wpAny_truthy_bool ?_
 cases c with
 | false=>exact hb pins s1 σ H1 Q I1 q1
 | true=>exact ⟨.bl true,H1,I1,rfl,q1⟩
theorem z37 (ha : PE X a ta) : PE X (.UnaryOp .Not a pos) (z8r ta):=by
 intro pins s σ H Q I h
 refine UnaryOp_ (thn (ha pins s σ H _ I h) fun v s1 ⟨x,H1,I1,r1,q1⟩=>?_)
 obtain ⟨c,rfl,q1⟩:=q1
 cases r1
 exact not_of (wpAny_truthy_bool ⟨.bl (!c),H1,I1,rfl,q1⟩)
end
noncomputable def SqL (K : PySem.W.Frag) (H : Hp) (a : Addr) (xs : List V) : Prop :=
 Rd H a (.lst xs) \/
  ∃ (o : Obj) (its : Array Value) (n : Nat),K.lookup a = some o /\ o.cls = .type "list" /\ o.dict = none /\ o.data = .seq its n /\ its.size <= sizeLine /\ za8 xs its.toList
noncomputable def SqT (K : PySem.W.Frag) (H : Hp) (a : Addr) (xs : List V) : Prop :=
 Rd H a (.tup xs) \/
  ∃ (o : Obj) (its : Array Value) (n : Nat),K.lookup a = some o /\ o.cls = .type "tuple" /\ o.data = .seq its n /\ its.size <= sizeLine /\ za8 xs its.toList
noncomputable def zx6 : Value -> Option V
 | .none=>some .non
 | .bool b=>some (.bl b)
 | .int i _=>some (.int i)
 | .str x _=>some (.str x)
 | .bytes b _=>some (.byt b)
 | .float b _=>some (.flt b)
 | .ref a=>some (.ref a)
 | .type n=>some (.ty n)
 | _=>none
theorem za6.abs {x : V} {u : Value} (r : za6 x u) : zx6 u = some x:=by
 cases x with
 | non=>cases r; rfl
 | bl _=>cases r; rfl
 | int _=>obtain ⟨t,rfl⟩:=r; rfl
 | str _=>obtain ⟨t,rfl⟩:=r; rfl
 | byt _=>obtain ⟨t,rfl⟩:=r; rfl
 | flt _=>obtain ⟨t,rfl⟩:=r; rfl
 | ref _=>cases r; rfl
 | ty _=>cases r; rfl
theorem za6.inj {x y : V} {u : Value} (r : za6 x u) (q : za6 y u) : x = y:=Option.some.inj (r.abs.symm.trans q.abs)
theorem za8.inj : ∀ {xs ys : List V} {us : List Value},za8 xs us -> za8 ys us -> xs = ys
 | _,_,_,.nil,.nil=>rfl
 | _,_,_,.cons r t,.cons r' t'=>by rw [r.inj r',za8.inj t t']
section
variable {X : Cx} {pins : List (Addr × Obj)} {σ : St} {H : Hp} {s : Shared} {a : Addr} {xs ys : List V}
theorem SqL.of {K : PySem.W.Frag} (h : H a = some (.lst xs)) : SqL K H a xs:=.inl (.inl h)
theorem SqT.of {K : PySem.W.Frag} (h : H a = some (.tup xs)) : SqT K H a xs:=.inl (.inl h)
theorem Inv.list (I : Inv X pins σ H s) (h : SqL X.K H a xs) : ∃ its : List Value,za8 xs its /\ PlainL s.heap a its.toArray /\ xs.length <= sizeLine:=by
 rcases h with h | ⟨o,its,n,hk,hc,hd,hs,hz,r⟩
 ·obtain ⟨z,its,n,r,e⟩:=h.ok I.hok
  exact ⟨its,r,⟨_,n,e,rfl,rfl,rfl⟩,z⟩
 ·refine ⟨its.toList,r,⟨o,n,I.kIn a o hk,hc,hd,by simpa using hs⟩,?_⟩
  have e:=r.length
  simp only [Array.length_toList] at e
  omega
theorem Inv.tuple (I : Inv X pins σ H s) (h : SqT X.K H a xs) : ∃ its : List Value,za8 xs its /\ IsTup s.heap a its.toArray /\ xs.length <= sizeLine:=by
 rcases h with h | ⟨o,its,n,hk,hc,hs,hz,r⟩
 ·obtain ⟨z,its,r,p⟩:=h.ok I.hok
  exact ⟨its,r,p,z⟩
 ·refine ⟨its.toList,r,⟨o,I.kIn a o hk,hc,n,by simpa using hs⟩,?_⟩
  have e:=r.length
  simp only [Array.length_toList] at e
  omega
theorem Inv.list_inj (I : Inv X pins σ H s) (h : SqL X.K H a xs) (h' : SqL X.K H a ys) : xs = ys:=by
 obtain ⟨its,r,⟨o,n,e,_,_,d⟩,_⟩:=I.list h
 obtain ⟨its',r',⟨o',n',e',_,_,d'⟩,_⟩:=I.list h'
 rw [e] at e'; cases e'
 rw [d] at d'
 injection d' with d1 _
 have : its = its':=by simpa using congrArg Array.toList d1
 subst this
 exact r.inj r'
theorem Inv.tuple_inj (I : Inv X pins σ H s) (h : SqT X.K H a xs) (h' : SqT X.K H a ys) : xs = ys:=by
 obtain ⟨its,r,⟨o,e,_,n,d⟩,_⟩:=I.tuple h
 obtain ⟨its',r',⟨o',e',_,n',d'⟩,_⟩:=I.tuple h'
 rw [e] at e'; cases e'
 rw [d] at d'
 injection d' with d1 _
 have : its = its':=by simpa using congrArg Array.toList d1
 subst this
 exact r.inj r'
end
noncomputable abbrev Cx.wish (X : Cx) (E : Value -> Shared -> Prop) : Cx:={ X with xe:=E }
noncomputable abbrev Cx.nox (X : Cx) : Cx:=X.wish fun _ _=>False
theorem Cx.Ok.wish {X : Cx} (ok : X.Ok) (E : Value -> Shared -> Prop) : (X.wish E).Ok :=
 ⟨ok.mod,ok.kind,ok.glob,ok.blt,ok.above,ok.inj,ok.has,ok.cab,ok.hd,ok.frames,ok.stk,ok.exf,ok.bs,ok.bsz,ok.noex,ok.exfs,ok.funs,ok.frf⟩
theorem Cx.Ok.unwish {X : Cx} {E : Value -> Shared -> Prop} (ok : (X.wish E).Ok) : X.Ok :=
 ⟨ok.mod,ok.kind,ok.glob,ok.blt,ok.above,ok.inj,ok.has,ok.cab,ok.hd,ok.frames,ok.stk,ok.exf,ok.bs,ok.bsz,ok.noex,ok.exfs,ok.funs,ok.frf⟩
section
variable {X : Cx} {pins : List (Addr × Obj)} {σ : St} {H : Hp} {s : Shared} {E : Value -> Shared -> Prop}
theorem Inv.wish (I : Inv X pins σ H s) (E : Value -> Shared -> Prop) : Inv (X.wish E) pins σ H s:=⟨I.ok.wish E,I.os,I.bare,I.base,I.loc,I.cell,I.free,I.freeC,I.pin,I.hok,I.len⟩
theorem Inv.unwish (I : Inv (X.wish E) pins σ H s) : Inv X pins σ H s:=⟨I.ok.unwish,I.os,I.bare,I.base,I.loc,I.cell,I.free,I.freeC,I.pin,I.hok,I.len⟩
theorem SP.unwish {D : zhz} {f : Flow} {s' : Shared} (h : SP (X.wish E) pins D f s') : SP X pins D f s':=by
 cases f with
 | next=>obtain ⟨σ',H',I,q⟩:=h; exact ⟨σ',H',I.unwish,q⟩
 | brk=>obtain ⟨σ',H',I,q⟩:=h; exact ⟨σ',H',I.unwish,q⟩
 | cont=>obtain ⟨σ',H',I,q⟩:=h; exact ⟨σ',H',I.unwish,q⟩
 | ret u=>obtain ⟨v,σ',H',I,r,q⟩:=h; exact ⟨v,σ',H',I.unwish,r,q⟩
theorem PSs.nox {st : List Stmt} {t : TS} (h : PSs X.nox st t) : PSs X st t:=fun pins s σ H D I hw =>
 wpAny_mono (h pins s σ H D (I.wish _) hw) (fun _ _ q=>q.unwish) fun _ _ z=>False.elim z
end
section
variable {X : Cx} {st : Stmt} {zco : List Stmt} {t u : TS} {e : Expr} {te : TE} {pos : Pos}
noncomputable def z2y : TS:=fun D σ H=>D.nx σ H
noncomputable def z80 (t u : TS) : TS:=fun D σ H=>t { D with nx:=u D } σ H
theorem zsd : PSs X [] z2y:=fun _ _ σ H _ I h=>wpAny_execs_nil ⟨σ,H,I,h⟩
theorem ztq (h1 : PS X st t) (h2 : PSs X zco u) : PSs X (st :: zco) (z80 t u):=by
 intro pins s σ H D I h
 refine wpAny_execs_cons (thn (h1 pins s σ H { D with nx:=u D } I h) fun f s1 q=>?_)
 cases f with
 | next =>
  obtain ⟨σ',H',I',q⟩:=q
  exact h2 pins s1 σ' H' D I' q
 | ret v=>exact q
 | brk=>exact q
 | cont=>exact q
theorem zw8 (h1 : PS X st t) : PSs X [st] t:=by
 intro pins s σ H D I h
 refine wpAny_execs_cons (thn (h1 pins s σ H D I h) fun f s1 q=>?_)
 cases f with
 | next=>exact wpAny_execs_nil q
 | ret v=>exact q
 | brk=>exact q
 | cont=>exact q
theorem Inv.quiet {pins : List (Addr × Obj)} {σ : St} {H : Hp} {s : Shared} (I : Inv X pins σ H s) : interactive X.env = false:=by simp [interactive,I.ok.kind]
noncomputable def zm3 (te : TE) : TS:=fun D σ H=>te σ H fun _ H1=>D.nx σ H1
theorem ze7 (he : PE X e te) (hs : swapsWith e none pos.line X.env = pure false:=by rfl) : PS X (.Expr e pos) (zm3 te):=by
 intro pins s σ H D I h
 exact wpAny_Expr_any (thn (he pins s σ H _ I h) fun v s1 ⟨x,H1,I1,r1,q1⟩=>⟨σ,H1,I1,q1⟩) I.quiet hs
noncomputable def z2c (te : TE) : TS:=fun D σ H=>te σ H D.rt
theorem zn6 (he : PE X e te) : PS X (.Return (some e) pos) (z2c te):=by
 intro pins s σ H D I h
 exact wpAny_Return_some (thn (he pins s σ H _ I h) fun v s1 ⟨x,H1,I1,r1,q1⟩=>⟨x,σ,H1,I1,r1,q1⟩)
noncomputable def z5y (c : TT) (t u : TS) : TS:=fun D σ H=>c σ H fun b H1=>if b = true then t D σ H1 else u D σ H1
theorem zzo {c : Expr} {a b : List Stmt} {tc : TT} (hc : PT X c tc) (ha : PSs X a t) (hb : PSs X b u) : PS X (.If c a b pos) (z5y tc t u):=by
 intro pins s σ H D I h
 refine wpAny_If (thn (hc pins s σ H _ I h) fun d s1 ⟨H1,I1,q1⟩=>?_)
 cases d with
 | true=>exact ha pins s1 σ H1 D I1 q1
 | false=>exact hb pins s1 σ H1 D I1 q1
end
noncomputable abbrev TG:=V -> St -> Hp -> (St -> Hp -> Prop) -> Prop
noncomputable abbrev TGs:=List V -> St -> Hp -> (St -> Hp -> Prop) -> Prop
noncomputable def PG (X : Cx) (target : Expr) (t : TG) : Prop :=
 ∀ (pins : List (Addr × Obj)) (s : Shared) (σ : St) (H : Hp) (v : V) (u : Value) (Q : St -> Hp -> Prop),Inv X pins σ H s -> za6 v u -> t v σ H Q ->
  wpAny (model X.prog X.w) X.A (assign target X.env u) (fun _ s'=>∃ σ' H',Inv X pins σ' H' s' /\ Q σ' H') X.xe s
noncomputable def PGs (X : Cx) (ts : List Expr) (t : TGs) : Prop :=
 ∀ (pins : List (Addr × Obj)) (s : Shared) (σ : St) (H : Hp) (vs : List V) (us : List Value) (Q : St -> Hp -> Prop),Inv X pins σ H s -> za8 vs us -> t vs σ H Q ->
  wpAny (model X.prog X.w) X.A (assignInOrder ((assignEach ts X.env).map (·.2)) us) (fun _ s'=>∃ σ' H',Inv X pins σ' H' s' /\ Q σ' H') X.xe s
noncomputable abbrev zox:=V -> V -> V -> Hp -> (Hp -> Prop) -> Prop
noncomputable def ztt (X : Cx) (t : zox) : Prop :=
 ∀ (pins : List (Addr × Obj)) (s : Shared) (σ : St) (H : Hp) (o i v : V) (ov iv u : Value) (Q : Hp -> Prop),Inv X pins σ H s -> za6 o ov -> za6 i iv -> za6 v u -> t o i v H Q ->
  wpAny (model X.prog X.w) X.A (setItem ov iv u) (fun _ s'=>∃ H',Inv X pins σ H' s' /\ Q H') X.xe s
section
variable {X : Cx} {pos : Pos}
noncomputable def zhi (i : Nat) : TG:=fun v σ H Q=>Q (σ.set i (some v)) H
theorem zr0 {i : Nat} {x : Str} (hN : X.N.Nodup) (hi : X.N[i]? = some x) (hx : Loc X.env.scope x) (hf : X.fn x = true \/ X.env.scope.names.lookup x = some .local:=by first | exact .inl rfl | exact .inr rfl | assumption) : PG X (.Name x pos) (zhi i):=by
 intro pins s σ H v u Q I r h
 exact wpAny_assign_Name (zr3 I hN hi hx r (fun s' I'=>⟨_,H,I',h⟩) hf)
noncomputable def z0v : TGs:=fun vs σ H Q=>vs = [] /\ Q σ H
noncomputable def zyr (t : TG) (u : TGs) : TGs:=fun vs σ H Q=>∃ v r,vs = v :: r /\ t v σ H fun σ' H'=>u r σ' H' Q
theorem z08 : PGs X [] z0v:=by
 intro pins s σ H vs us Q I r h
 obtain ⟨e,h⟩:=h
 subst e
 cases r
 exact assignInOrder_nil ⟨σ,H,I,h⟩
theorem z3w {e : Expr} {es : List Expr} {t : TG} {u : TGs} (h1 : PG X e t) (h2 : PGs X es u)
  (hs : (assignEach (e :: es) X.env).map (·.2) = assign e X.env :: (assignEach es X.env).map (·.2):=by rfl) : PGs X (e :: es) (zyr t u):=by
 intro pins s σ H vs us Q I r h
 obtain ⟨v,vr,e1,h⟩:=h
 subst e1
 cases r with
 | cons r rr =>
  rw [hs]
  refine assignInOrder_cons (thn (h1 pins s σ H _ _ _ I r h) fun _ s1 ⟨σ1,H1,I1,q1⟩=>?_)
  exact h2 pins s1 σ1 H1 _ _ Q I1 rr q1
noncomputable def z33 (K : PySem.W.Frag) (n : Nat) (t : TGs) : TG:=fun v σ H Q=>∃ a xs,v = .ref a /\ SqT K H a xs /\ xs.length = n /\ t xs σ H Q
theorem zzv {es : List Expr} {k : Nat} {t : TGs} {n : Nat} (hc : X.calm = true) (h : PGs X es t)
  (hn : (assignEach es X.env).length = n:=by rfl) (hst : (assignEach es X.env).findIdx? (·.1) = none:=by rfl) : PG X (.Tuple es k pos) (z33 X.K n t):=by
 intro pins s σ H v u Q I r hw
 obtain ⟨a,xs,e1,hq,hl,hw⟩:=hw
 subst e1
 cases r
 obtain ⟨its,rv,ht,hz⟩:=I.tuple hq
 refine assign_Tuple_tuple (I.ok.hd hc) ht (by simp [hn,<- hl,rv.length]) hst fun h' hx=>?_
 have I1 : Inv X pins σ H { s with heap:=h' }:=I.kept (t':=s.toks) fun b o e=>hx b o (Nat.ne_of_lt (Heap.lt_size e)) e
 exact h pins _ σ H xs _ Q I1 (by simpa using rv) hw
noncomputable def zss (to ti : TE) (t : zox) : TG:=fun v σ H Q=>to σ H fun o H1=>ti σ H1 fun i H2=>t o i v H2 fun H3=>Q σ H3
theorem z7d {o i : Expr} {to ti : TE} {t : zox} (ho : PE X o to) (hi : PE X i ti) (hs : ztt X t)
  (ha : ∀ v,assign (.Subscript o i pos) X.env v = (do
   let ov <- holding [v] (eval o X.env)
   let iv <- holding [v,ov] (eval i X.env)
   standAt pos
   holding [v,ov,iv] (setItem ov iv v)
   release [v,ov,iv] []):=by intro _; rfl) : PG X (.Subscript o i pos) (zss to ti t):=by
 intro pins s σ H v u Q I r h
 rw [ha]
 refine wpAny_bind (wpAny_holding (thn (ho pins s σ H _ I h) fun ov s1 ⟨x,H1,I1,r1,q1⟩=>?_))
 refine wpAny_bind (wpAny_holding (thn (hi pins s1 σ H1 _ I1 q1) fun iv s2 ⟨y,H2,I2,r2,q2⟩=>?_))
 refine wpAny_bind (wpAny_standAt (wpAny_bind (wpAny_holding (thn (hs pins s2 σ H2 x y v ov iv u _ I2 r1 r2 r q2) fun _ s3 ⟨H3,I3,q3⟩=>?_))))
 exact wpAny_release ⟨σ,H3,I3,q3⟩
noncomputable def zig (te : TE) (g : TG) : TS:=fun D σ H=>te σ H fun x H1=>g x σ H1 D.nx
theorem zv2 {tg e : Expr} {te : TE} {g : TG} (he : PE X e te) (hg : PG X tg g) (hs : swapsWithSole [tg] e pos.line X.env = pure false:=by rfl) (hw : swappedStores [tg] e X.env = pure none:=by rfl)
  (h1 : (assignEach [tg] X.env).map (·.2) = [assign tg X.env]:=by rfl) : PS X (.Assign [tg] e pos) (zig te g):=by
 intro pins s σ H D I h
 refine wpAny_Assign_stores (thn (he pins s σ H _ I h) fun v s1 ⟨x,H1,I1,r1,q1⟩=>?_) hs hw
 rw [h1]
 exact thn (hg pins s1 σ H1 x v _ I1 r1 q1) fun _ s2 q=>q
theorem znb {i : Nat} {x : Str} {e : Expr} {te : TE} {pos' : Pos} (hN : X.N.Nodup) (hi : X.N[i]? = some x) (hx : Loc X.env.scope x) (he : PE X e te) (hs : swapsWith e (some (.Name x pos')) pos.line X.env = pure false:=by rfl) (hf : X.fn x = true \/ X.env.scope.names.lookup x = some .local:=by first | exact .inl rfl | exact .inr rfl | assumption) :
  PS X (.Assign [.Name x pos'] e pos) (zig te (zhi i)):=by
 intro pins s σ H D I h
 refine wpAny_Assign_Name (thn (he pins s σ H _ I h) fun v s1 ⟨y,H1,I1,r1,q1⟩=>?_) hs
 exact zr3 I1 hN hi hx r1 (fun s2 I2=>⟨_,H1,I2,q1⟩) hf
end
section
variable {X : Cx} {pos : Pos}
noncomputable def zyp (c : TT) (tb : TS) : TS:=fun D σ H=>∃ W : Nat -> St -> Hp -> Prop,(∃ m,W m σ H) /\ ∀ m σ H,W m σ H ->
 c σ H fun b H1=>if b = true then ∃ N : St -> Hp -> Prop,(∀ σ' H',N σ' H' -> ∃ m',m' < m /\ W m' σ' H') /\ tb { D with nx:=N,ct:=N,bk:=D.nx } σ H1 else D.nx σ H1
theorem zyd {c : Expr} {body : List Stmt} {tc : TT} {tb : TS} (hp : PassesOwn (model X.prog X.w) X.A X.env X.xe) (hc : PT X c tc) (hb : PSs X body tb) : PS X (.While c body [] pos) (zyp tc tb):=by
 intro pins s σ H D I h
 obtain ⟨W,⟨m0,w0⟩,turn⟩:=h
 refine wpAny_While (codeAny_whileLoop (fun n s'=>∃ σ' H',Inv X pins σ' H' s' /\ W n σ' H') ?_ m0 ⟨σ,H,I,w0⟩)
 rintro n s1 ⟨σ1,H1,I1,w1⟩
 refine wpAny_passesOwn hp (thn (hc pins s1 σ1 H1 _ I1 (turn n σ1 H1 w1)) fun b s2 ⟨H2,I2,q2⟩=>?_)
 cases b with
 | true =>
  obtain ⟨N,hN,q2⟩:=q2
  rw [if_pos rfl]
  refine wpAny_passesOwn hp (thn (hb pins s2 σ1 H2 _ I2 q2) fun f s3 q3=>?_)
  cases f with
  | next =>
   obtain ⟨σ3,H3,I3,n3⟩:=q3
   obtain ⟨m',hm,w3⟩:=hN σ3 H3 n3
   exact ⟨m',hm,σ3,H3,I3,w3⟩
  | cont =>
   obtain ⟨σ3,H3,I3,n3⟩:=q3
   obtain ⟨m',hm,w3⟩:=hN σ3 H3 n3
   exact ⟨m',hm,σ3,H3,I3,w3⟩
  | brk=>exact q3
  | ret v=>exact q3
 | false =>
  rw [if_neg Bool.false_ne_true]
  exact wpAny_execs_nil ⟨σ1,H2,I2,q2⟩
end
structure It where
 go : Nat -> Hp -> Prop
 yld : Nat -> Hp -> V -> Hp -> Prop
 stop : Nat -> Hp -> Prop
noncomputable def zft (X : Cx) (pins : List (Addr × Obj)) (H : Hp) (b : Addr) : Prop :=
 H b = none /\ b ≠ X.env.locals /\ b ∉ X.fs /\ (b ∈ X.ex \/ X.s₀.heap.objs.size <= b) /\ (∀ x c,X.env.cells.lookup x = some c -> c ≠ b) /\ ∀ p ∈ X.pn ++ pins,p.1 ≠ b
theorem Inv.fpOk {X : Cx} {pins : List (Addr × Obj)} {σ : St} {H H' : Hp} {s : Shared} {b : Addr} (I : Inv X pins σ H s) (hb : s.heap.objs.size <= b) (hn : H' b = none) : zft X pins H' b:=by
 refine ⟨hn,Nat.ne_of_gt (Nat.lt_of_lt_of_le I.lt hb),I.nofs hb,.inr (Nat.le_trans I.sz hb),fun x c e z=>?_,fun p hp z=>?_⟩
 ·obtain ⟨v,q⟩:=I.cell x c e
  exact absurd (Nat.lt_of_lt_of_le q.lt (by rw [z]; exact hb)) (Nat.lt_irrefl _)
 ·exact absurd (Nat.lt_of_lt_of_le (Heap.lt_size (I.pin p hp).1) (by rw [z]; exact hb)) (Nat.lt_irrefl _)
structure zh0 (P : Program) (w : World) (K : PySem.W.Frag) (tg : Expr) (J : It) (fp : List Addr) (it : Addr) (tn : Nat -> Heap -> Prop) : Prop where
 mem : it ∈ fp
 obj : ∀ i h,tn i h -> ∀ b ∈ fp,∃ o,h.get? b = some o /\ ∀ v,o.data ≠ .cell v
 keep : ∀ i h h',tn i h -> (∀ b ∈ fp,∀ o,h.get? b = some o -> h'.get? b = some o) -> tn i h'
 item : ∀ (X : Cx),X.prog = P -> X.w = w -> X.K = K -> X.calm = true -> ∀ (i : Nat) (pins : List (Addr × Obj)) (s : Shared) (σ : St) (H : Hp) (E : Value -> Shared -> Prop),Inv X pins σ H s -> (∀ b ∈ fp,zft X pins H b) -> tn i s.heap -> J.go i H ->
  wpAny (model P w) X.A (pyNext (.ref it)) (fun r s1=>∃ u,r = some u /\
   wpAny (model P w) X.A (letOwnedTupleGo tg (.ref it) u) (fun _ s2=>∃ x H',Inv X pins σ H' s2 /\ za6 x u /\ J.yld i H x H' /\ tn (i + 1) s2.heap /\ ∀ b ∈ fp,H' b = none) E s1) E s
 done : ∀ (X : Cx),X.prog = P -> X.w = w -> X.K = K -> X.calm = true -> ∀ (i : Nat) (pins : List (Addr × Obj)) (s : Shared) (σ : St) (H : Hp) (E : Value -> Shared -> Prop),Inv X pins σ H s -> (∀ b ∈ fp,zft X pins H b) -> tn i s.heap -> J.stop i H ->
  wpAny (model P w) X.A (pyNext (.ref it)) (fun r s1=>r = none /\ Inv X pins σ H s1) E s
 self : ∀ (A : Around) (i : Nat) (s : Shared) (Q : Value -> Shared -> Prop) (E : Value -> Shared -> Prop),tn i s.heap -> Q (.ref it) s -> wpAny (model P w) A (pyIter (.ref it)) Q E s
noncomputable abbrev TI:=St -> Hp -> (It -> Hp -> Prop) -> Prop
noncomputable def PIE (X : Cx) (pins : List (Addr × Obj)) (σ : St) (tg : Expr) (R : It -> Hp -> Prop) (itv : Value) (s2 : Shared) : Prop :=
 ∃ (it : Addr) (fp : List Addr) (tn : Nat -> Heap -> Prop) (J : It) (H' : Hp),itv = .ref it /\ Inv X pins σ H' s2 /\ zh0 X.prog X.w X.K tg J fp it tn /\ tn 0 s2.heap /\ (∀ b ∈ fp,zft X pins H' b) /\ R J H'
noncomputable def PI (X : Cx) (tg iter : Expr) (wi : TI) : Prop :=
 ∀ (pins : List (Addr × Obj)) (s : Shared) (σ : St) (H : Hp) (R : It -> Hp -> Prop),Inv X pins σ H s -> wi σ H R ->
  wpAny (model X.prog X.w) X.A (eval iter X.env) (fun v s1=>wpAny (model X.prog X.w) X.A (pyIter v) (PIE X pins σ tg R) X.xe s1) X.xe s
theorem zpt {M : Model} {A : Around} {E : Value -> Shared -> Prop} {s : Shared} {tg : Expr} {it : Addr} {u : Value} {o : Obj} {n : String} {vs : Array Value} {Q : Unit -> Shared -> Prop} (ho : s.heap.get? it = some o) (hc : o.cls = .type n) (hd : o.data = .fields vs)
    (hn : ["enumerate", "zip", "dict_itemiterator", "dict_reverseitemiterator", "odict_iterator", "itertools.zip_longest", "itertools.pairwise"].contains n = false) (hQ : Q () s) : wpAny M A (letOwnedTupleGo tg (.ref it) u) Q E s := by
  unfold letOwnedTupleGo
  cases tg <;> first
    | exact wpAny_pure hQ
    | (cases u <;> first
        | exact wpAny_pure hQ
        | (refine wpAny_bind (wpAny_load ho ?_)
           rw [hc, hd]
           show wpAny M A (if (["enumerate", "zip", "dict_itemiterator", "dict_reverseitemiterator", "odict_iterator", "itertools.zip_longest", "itertools.pairwise"].contains n && vs[0]? == some (rawInt _)) = true then _ else _) Q E s
           rw [if_neg (by intro h; rw [hn, Bool.false_and] at h; cases h)]
           exact wpAny_pure hQ))
noncomputable def Itl (K : PySem.W.Frag) (a : Addr) : It :=
 ⟨fun i H=>∃ xs x,SqL K H a xs /\ xs[i]? = some x,fun i H x H'=>H' = H /\ ∀ xs,SqL K H a xs -> xs[i]? = some x,fun i H=>∃ xs,SqL K H a xs /\ xs.length <= i⟩
noncomputable def Itt (K : PySem.W.Frag) (a : Addr) : It :=
 ⟨fun i H=>∃ xs x,SqT K H a xs /\ xs[i]? = some x,fun i H x H'=>H' = H /\ ∀ xs,SqT K H a xs -> xs[i]? = some x,fun i H=>∃ xs,SqT K H a xs /\ xs.length <= i⟩
noncomputable def Itr (lo : Int) (n : Nat) : It:=⟨fun i _=>i < n,fun i H x H'=>H' = H /\ x = .int (lo + i),fun i _=>n <= i⟩
theorem zw2 {P : Program} {w : World} {K : PySem.W.Frag} {tg : Expr} (a it : Addr) : zh0 P w K tg (Itl K a) [it] it (fun i h=>h.IsListIter it a i) where
 mem:=by simp
 obj:=fun i h st b hb=>by
  have e : b = it:=by simpa using hb
  subst e
  obtain ⟨o,e,c,d⟩:=st
  exact ⟨o,e,fun v z=>by rw [d] at z; cases z⟩
 keep:=fun i h h' st k=>st.at fun o e=>k it (by simp) o e
 item:=by
  intro X hP hw hK hc i pins s σ H E I hf st hg
  subst hP hw hK
  obtain ⟨xs,x,hq,hx⟩:=hg
  obtain ⟨its,rv,p,hz⟩:=I.list hq
  obtain ⟨u,hu,ru⟩:=rv.get hx
  obtain ⟨f0,f1,f2,f3,f4,f5⟩:=hf it (by simp)
  refine wpAny_pyNext_list_item st p.isList (x:=u) (by simpa using hu) fun h' st' sb=>?_
  have I1 : Inv X pins σ H { s with heap:=h' }:=I.turned (t':=s.toks) (fun b o hb e=>(sb.2 b hb).trans e) f0 f1 f3 f4 f5
  obtain ⟨o,e,c,d⟩:=id st'
  exact ⟨u,rfl,zpt (s:={ s with heap:=h' }) e c d (by decide) ⟨x,H,I1,ru,⟨rfl,fun ys hy=>by rw [I.list_inj hy hq]; exact hx⟩,st',fun b hb=>(hf b hb).1⟩⟩
 done:=by
  intro X hP hw hK hc i pins s σ H E I hf st hg
  subst hP hw hK
  obtain ⟨xs,hq,hx⟩:=hg
  obtain ⟨its,rv,p,hz⟩:=I.list hq
  obtain ⟨f0,f1,f2,f3,f4,f5⟩:=hf it (by simp)
  have hl:=rv.length
  exact wpAny_pyNext_list_end (I.ok.hd hc) st p.isList (by simp; omega) fun h' eb=>⟨rfl,I.turned (t':=s.toks) (fun b o hb e=>eb b o hb e) f0 f1 f3 f4 f5⟩
 self:=fun _ _ _ _ _ st h=>wpAny_pyIter_listiter st h
theorem z6x {P : Program} {w : World} {K : PySem.W.Frag} {tg : Expr} (a it : Addr) : zh0 P w K tg (Itt K a) [it] it (fun i h=>h.IsTupleIter it a i) where
 mem:=by simp
 obj:=fun i h st b hb=>by
  have e : b = it:=by simpa using hb
  subst e
  obtain ⟨o,e,c,d⟩:=st
  exact ⟨o,e,fun v z=>by rw [d] at z; cases z⟩
 keep:=fun i h h' st k=>st.at fun o e=>k it (by simp) o e
 item:=by
  intro X hP hw hK hc i pins s σ H E I hf st hg
  subst hP hw hK
  obtain ⟨xs,x,hq,hx⟩:=hg
  obtain ⟨its,rv,p,hz⟩:=I.tuple hq
  obtain ⟨u,hu,ru⟩:=rv.get hx
  obtain ⟨f0,f1,f2,f3,f4,f5⟩:=hf it (by simp)
  refine wpAny_pyNext_tuple_item st (show s.heap.IsTuple a its.toArray from p) (x:=u) (by simpa using hu) fun h' st' sb=>?_
  have I1 : Inv X pins σ H { s with heap:=h' }:=I.turned (t':=s.toks) (fun b o hb e=>(sb.2 b hb).trans e) f0 f1 f3 f4 f5
  obtain ⟨o,e,c,d⟩:=id st'
  exact ⟨u,rfl,zpt (s:={ s with heap:=h' }) e c d (by decide) ⟨x,H,I1,ru,⟨rfl,fun ys hy=>by rw [I.tuple_inj hy hq]; exact hx⟩,st',fun b hb=>(hf b hb).1⟩⟩
 done:=by
  intro X hP hw hK hc i pins s σ H E I hf st hg
  subst hP hw hK
  obtain ⟨xs,hq,hx⟩:=hg
  obtain ⟨its,rv,p,hz⟩:=I.tuple hq
  obtain ⟨f0,f1,f2,f3,f4,f5⟩:=hf it (by simp)
  have hl:=rv.length
  exact wpAny_pyNext_tuple_end (I.ok.hd hc) st (show s.heap.IsTuple a its.toArray from p) (by simp; omega) fun h' eb=>⟨rfl,I.turned (t':=s.toks) (fun b o hb e=>eb b o hb e) f0 f1 f3 f4 f5⟩
 self:=fun _ _ _ _ _ st h=>wpAny_pyIter_tupleiter st h
theorem zx0 {P : Program} {w : World} {K : PySem.W.Frag} {tg : Expr} (it : Addr) (lo : Int) (n : Nat) : zh0 P w K tg (Itr lo n) [it] it (fun i h=>IsRangeIter h it (lo + (i : Nat) * 1) ((n : Int) - (i : Nat)) 1) where
 mem:=by simp
 obj:=fun i h st b hb=>by
  have e : b = it:=by simpa using hb
  subst e
  exact ⟨_,st,fun v z=>by
   have z' : Data.fields _ = Data.cell v:=z
   cases z'⟩
 keep:=fun i h h' st k=>k it (by simp) _ st
 item:=by
  intro X hP hw hK hc i pins s σ H E I hf st hg
  subst hP hw hK
  obtain ⟨f0,f1,f2,f3,f4,f5⟩:=hf it (by simp)
  have W:=Walks.range (prog:=X.prog) (w:=X.w) (I.ok.hd hc) it lo 1 n
  refine W.item i s _ _ hg st fun v h' tk hv st' kk=>?_
  obtain ⟨t,rfl⟩:=hv
  have I1 : Inv X pins σ H { s with heap:=h',toks:=tk }:=I.turned (fun b o hb e=>kk b o (by simpa using hb) e) f0 f1 f3 f4 f5
  refine ⟨_,rfl,zpt (s:={ s with heap:=h',toks:=tk }) (n:="range_iterator") st' rfl rfl (by decide) ⟨.int (lo + i),H,I1,⟨t,?_⟩,⟨rfl,rfl⟩,st',fun b hb=>(hf b hb).1⟩⟩
  rw [Int.mul_one]
 done:=by
  intro X hP hw hK hc i pins s σ H E I hf st hg
  subst hP hw hK
  obtain ⟨f0,f1,f2,f3,f4,f5⟩:=hf it (by simp)
  exact wpAny_pyNext_range_end (I.ok.hd hc) st (by have : n <= i:=hg; omega) fun h' eb=>⟨rfl,I.turned (t':=s.toks) (fun b o hb e=>eb b o hb e) f0 f1 f3 f4 f5⟩
 self:=fun _ _ _ _ _ st h=>wpAny_pyIter_rangeiter st h
section
variable {X : Cx} {tg : Expr}
noncomputable def z5j (K : PySem.W.Frag) (tl : TE) : TI:=fun σ H R=>tl σ H fun x H1=>∃ a,x = .ref a /\ (∃ xs,SqL K H1 a xs) /\ R (Itl K a) H1
noncomputable def zzj (K : PySem.W.Frag) (tl : TE) : TI:=fun σ H R=>tl σ H fun x H1=>∃ a,x = .ref a /\ (∃ xs,SqT K H1 a xs) /\ R (Itt K a) H1
theorem zth {l : Expr} {tl : TE} (hl : PE X l tl) : PI X tg l (z5j X.K tl):=by
 intro pins s σ H R I h
 refine thn (hl pins s σ H _ I h) fun v s1 ⟨x,H1,I1,r1,q1⟩=>?_
 obtain ⟨a,e,⟨xs,hq⟩,q⟩:=q1
 subst e
 cases r1
 obtain ⟨its,rv,p,hz⟩:=I1.list hq
 refine wpAny_pyIter_list p.isList ?_
 refine ⟨s1.heap.objs.size,[s1.heap.objs.size],_,_,H1,rfl,I1.kept (t':=s1.toks) fun b o e=>Heap.get?_push_of_some _ e,zw2 a _,⟨_,Heap.get?_push_size _ rfl,rfl,rfl⟩,fun b hb=>?_,q⟩
 have e : b = s1.heap.objs.size:=by simpa using hb
 subst e
 exact I1.fpOk (Nat.le_refl _) (I1.hok.fresh (Nat.le_refl _))
theorem zyc {l : Expr} {tl : TE} (hl : PE X l tl) : PI X tg l (zzj X.K tl):=by
 intro pins s σ H R I h
 refine thn (hl pins s σ H _ I h) fun v s1 ⟨x,H1,I1,r1,q1⟩=>?_
 obtain ⟨a,e,⟨xs,hq⟩,q⟩:=q1
 subst e
 cases r1
 obtain ⟨its,rv,p,hz⟩:=I1.tuple hq
 refine wpAny_pyIter_tuple (show s1.heap.IsTuple a its.toArray from p) ?_
 refine ⟨s1.heap.objs.size,[s1.heap.objs.size],_,_,H1,rfl,I1.kept (t':=s1.toks) fun b o e=>Heap.get?_push_of_some _ e,z6x a _,⟨_,Heap.get?_push_size _ rfl,rfl,rfl⟩,fun b hb=>?_,q⟩
 have e : b = s1.heap.objs.size:=by simpa using hb
 subst e
 exact I1.fpOk (Nat.le_refl _) (I1.hok.fresh (Nat.le_refl _))
theorem z8e {pins : List (Addr × Obj)} {σ : St} {H : Hp} {s : Shared} {R : It -> Hp -> Prop} {E : Value -> Shared -> Prop} {lo hi : Int} {t u v : Tok} {tk : Nat} (I : Inv X pins σ H s) (h1 : -(2 ^ 62) <= lo) (h2 : lo < 2 ^ 62) (h3 : -(2 ^ 62) <= hi) (h4 : hi < 2 ^ 62)
  (q : R (Itr lo (hi - lo).toNat) H) : wpAny (model X.prog X.w) X.A (pyIter (.ref s.heap.objs.size)) (PIE X pins σ tg R) E { s with heap:=s.heap.push { cls:=.type "range",data:=.fields #[.int lo t,.int hi u,.int 1 v] },toks:=tk }:=by
 refine wpAny_pyIter_range (IsRange.new ..) (small_one h1 h2 h3 h4) ?_
 have I1 : Inv X pins σ H { s with heap:=s.heap.push { cls:=.type "range",data:=.fields #[.int lo t,.int hi u,.int 1 v] },toks:=tk }:=I.kept fun b o e=>Heap.get?_push_of_some _ e
 refine ⟨(s.heap.push { cls:=.type "range",data:=.fields #[.int lo t,.int hi u,.int 1 v] }).objs.size,[(s.heap.push { cls:=.type "range",data:=.fields #[.int lo t,.int hi u,.int 1 v] }).objs.size],_,_,H,rfl,
  I1.kept (t':=tk) fun b o e=>Heap.get?_push_of_some _ e,zx0 _ lo (hi - lo).toNat,?_,fun b hb=>?_,q⟩
 ·have e1 : lo + ((0 : Nat) : Int) * 1 = lo:=by simp
  have e2 : (((hi - lo).toNat : Nat) : Int) - ((0 : Nat) : Int) = Builtin.Range.rangeSize lo hi 1:=by rw [rangeSize_one]; split <;> omega
  show IsRangeIter _ _ (lo + ((0 : Nat) : Int) * 1) ((((hi - lo).toNat : Nat) : Int) - ((0 : Nat) : Int)) 1
  rw [e1,e2]
  exact Heap.get?_push_size _ rfl
 ·have e : b = (s.heap.push { cls:=.type "range",data:=.fields #[.int lo t,.int hi u,.int 1 v] }).objs.size:=by simpa using hb
  subst e
  exact I1.fpOk (Nat.le_refl _) (I1.hok.fresh (Nat.le_refl _))
noncomputable def z04 (ta : TA) : TI:=fun σ H R=>ta σ H fun vs H1=>∃ j : Int,vs = [.int j] /\ -(2 ^ 62) <= j /\ j < 2 ^ 62 /\ R (Itr 0 j.toNat) H1
theorem z6g {a : Expr} {ta : TA} {p pos : Pos} (hg : Gl X "range") (hm : X.mg "range" = none) (ha : PA X [a] ta) (hs : starEach [a] X.env = [(false,eval a X.env)]:=by rfl) : PI X tg (.Call (.Name "range" p) [a] [] pos) (z04 ta):=by
 intro pins s σ H R I h
 refine Call_ (zg7 I hg hm boot_range (PyProof.Rows.callWith_type1 (thn (ha pos pins s σ H _ I h) fun us s1 ⟨vs,H1,I1,r1,q1⟩=>?_) hs rfl))
 obtain ⟨j,e,q1,q2,q⟩:=q1
 subst e
 cases r1 with
 | cons r rr =>
  cases rr
  obtain ⟨t,rfl⟩:=r
  exact call_range_1 (z8e I1 (by omega) (by omega) q1 q2 (by simpa using q))
noncomputable def z9b (wi : TI) (g : TG) (tb : TS) : TS:=fun D σ H=>wi σ H fun J H1=>∃ W : Nat -> Nat -> St -> Hp -> Prop,(∃ m,W 0 m σ H1) /\ ∀ i m σ H,W i m σ H ->
 (J.stop i H /\ D.nx σ H) \/ (J.go i H /\ ∃ N : St -> Hp -> Prop,(∀ σ' H',N σ' H' -> ∃ m',m' < m /\ W (i + 1) m' σ' H') /\ ∀ x H',J.yld i H x H' -> g x σ H' fun σ2 H2=>tb { D with nx:=N,ct:=N,bk:=D.nx } σ2 H2)
noncomputable def zlk (fp : List Addr) (h : Heap) : List (Addr × Obj):=fp.filterMap fun b=>(h.get? b).map fun o=>(b,o)
theorem zmz {fp : List Addr} {h : Heap} {b : Addr} {o : Obj} (hb : b ∈ fp) (e : h.get? b = some o) : (b,o) ∈ zlk fp h:=List.mem_filterMap.mpr ⟨b,hb,by rw [e]; rfl⟩
theorem z32 {fp : List Addr} {h : Heap} {p : Addr × Obj} (hp : p ∈ zlk fp h) : p.1 ∈ fp /\ h.get? p.1 = some p.2:=by
 obtain ⟨b,hb,e⟩:=List.mem_filterMap.mp hp
 cases q : h.get? b with
 | none=>rw [q] at e; cases e
 | some o =>
  rw [q] at e
  have e' : (b,o) = p:=Option.some.inj e
  subst e'
  exact ⟨hb,q⟩
theorem Inv.pinned {pins : List (Addr × Obj)} {σ : St} {H : Hp} {s : Shared} {fp : List Addr} (I : Inv X pins σ H s) (hf : ∀ b ∈ fp,zft X pins H b) (ho : ∀ b ∈ fp,∃ o,s.heap.get? b = some o /\ ∀ v,o.data ≠ .cell v) : Inv X (pins ++ zlk fp s.heap) σ H s :=
 I.pins_of fun p hp=>(List.mem_append.mp hp).elim (fun z=>I.pin p (List.mem_append_right _ z)) fun z=>by
  obtain ⟨hb,e⟩:=z32 z
  obtain ⟨f0,f1,f2,_⟩:=hf p.1 hb
  obtain ⟨o,e',d⟩:=ho p.1 hb
  rw [e] at e'; cases e'
  exact ⟨e,f0,f1,f2,d⟩
theorem Inv.unpinned {pins pl : List (Addr × Obj)} {σ : St} {H : Hp} {s : Shared} (I : Inv X (pins ++ pl) σ H s) : Inv X pins σ H s:=I.pins_of fun p hp=>I.pin p (List.mem_append_right _ (List.mem_append_left _ hp))
theorem zyy {iter : Expr} {body : List Stmt} {wi : TI} {g : TG} {tb : TS} {pos : Pos} (hp : PassesOwn (model X.prog X.w) X.A X.env X.xe) (hc : X.calm = true) (hi : PI X tg iter wi) (hg : PG X tg g) (hb : PSs X body tb)
  (hs : ∀ x,foldedSetIterable iter X.env x = pure x:=by intro _; rfl) : PS X (.For tg iter body [] pos) (z9b wi g tb):=by
 intro pins s σ H D I h
 refine wpAny_For (thn (hi pins s σ H _ I h) fun v s1 h1=>thn h1 fun itv s2 h2=>?_) hs
 obtain ⟨it,fp,tn,J,H2,e,I2,T,st2,f2,W,⟨m0,w0⟩,turn⟩:=h2
 subst e
 have stat : ∀ {H' : Hp},(∀ b ∈ fp,H' b = none) -> ∀ b ∈ fp,zft X pins H' b:=fun hn b hb=>⟨hn b hb,(f2 b hb).2⟩
 refine codeAny_forLoop_any (fun n s'=>∃ i σ' H',Inv X pins σ' H' s' /\ tn i s'.heap /\ (∀ b ∈ fp,H' b = none) /\ W i n σ' H') ?_ m0 ⟨0,σ,H2,I2,st2,fun b hb=>(f2 b hb).1,w0⟩
 rintro n s3 ⟨i,σ3,H3,I3,st3,fr3,w3⟩
 rcases turn i n σ3 H3 w3 with ⟨stop,qn⟩ | ⟨go,N,hN,step⟩
 ·refine wpAny_passesOwn hp (thn (T.done X rfl rfl rfl hc i pins s3 σ3 H3 X.xe I3 (stat fr3) st3 stop) fun r s4 ⟨hr,I4⟩=>?_)
  subst hr
  exact wpAny_execs_nil ⟨σ3,H3,I4,qn⟩
 ·refine wpAny_passesOwn hp (thn (T.item X rfl rfl rfl hc i pins s3 σ3 H3 X.xe I3 (stat fr3) st3 go) fun r s4 ⟨u,hr,h4⟩=>?_)
  subst hr
  refine wpAny_passesOwn hp (thn h4 fun _ s5 ⟨x,H5,I5,r5,y5,st5,fr5⟩=>?_)
  have I5':=I5.pinned (stat fr5) (T.obj _ _ st5)
  refine wpAny_passesOwn hp (thn (hg _ s5 σ3 H5 x u _ I5' r5 (step x H5 y5)) fun _ s6 ⟨σ6,H6,I6,q6⟩=>?_)
  refine wpAny_passesOwn hp (thn (hb _ s6 σ6 H6 _ I6 q6) fun f s7 q7=>?_)
  have again : ∀ {σ7 : St} {H7 : Hp},Inv X (pins ++ zlk fp s5.heap) σ7 H7 s7 -> N σ7 H7 -> ∃ m,m < n /\ ∃ i σ' H',Inv X pins σ' H' s7 /\ tn i s7.heap /\ (∀ b ∈ fp,H' b = none) /\ W i m σ' H':=fun {σ7 H7} I7 n7=>by
   obtain ⟨m',hm,w7⟩:=hN σ7 H7 n7
   refine ⟨m',hm,i + 1,σ7,H7,I7.unpinned,T.keep _ _ _ st5 fun b hb o e=>(I7.pin (b,o) (List.mem_append_right _ (List.mem_append_right _ (zmz hb e)))).1,fun b hb=>?_,w7⟩
   obtain ⟨o,e,d⟩:=T.obj _ _ st5 b hb
   exact (I7.pin (b,o) (List.mem_append_right _ (List.mem_append_right _ (zmz hb e)))).2.1
  cases f with
  | next=>obtain ⟨σ7,H7,I7,n7⟩:=q7; exact again I7 n7
  | cont=>obtain ⟨σ7,H7,I7,n7⟩:=q7; exact again I7 n7
  | brk=>obtain ⟨σ7,H7,I7,q7⟩:=q7; exact ⟨σ7,H7,I7.unpinned,q7⟩
  | ret v=>obtain ⟨x7,σ7,H7,I7,r7,q7⟩:=q7; exact ⟨x7,σ7,H7,I7.unpinned,r7,q7⟩
end
noncomputable abbrev R2:=V -> V -> Hp -> VK -> Prop
noncomputable def OpR (X : Cx) (f : Value -> Value -> Sem Value) (r : R2) : Prop :=
 ∀ (pins : List (Addr × Obj)) (s : Shared) (σ : St) (H : Hp) (x y : V) (v u : Value) (Q : VK),Inv X pins σ H s -> za6 x v -> za6 y u -> r x y H Q ->
  wpAny (model X.prog X.w) X.A (f v u) (EP X pins σ Q) X.xe s
noncomputable def UnR (X : Cx) (f : Value -> Sem Value) (r : V -> Hp -> VK -> Prop) : Prop :=
 ∀ (pins : List (Addr × Obj)) (s : Shared) (σ : St) (H : Hp) (x : V) (v : Value) (Q : VK),Inv X pins σ H s -> za6 x v -> r x H Q ->
  wpAny (model X.prog X.w) X.A (f v) (EP X pins σ Q) X.xe s
noncomputable def zf6 (X : Cx) (f : Value) (r : List V -> Hp -> VK -> Prop) : Prop :=
 ∀ (pins : List (Addr × Obj)) (s : Shared) (σ : St) (H : Hp) (xs : List V) (us : List Value) (Q : VK),Inv X pins σ H s -> za8 xs us -> r xs H Q ->
  wpAny (model X.prog X.w) X.A (call f us) (EP X pins σ Q) X.xe s
noncomputable def zx1 (X : Cx) (r : V -> Hp -> (Bool -> Hp -> Prop) -> Prop) : Prop :=
 ∀ (pins : List (Addr × Obj)) (s : Shared) (σ : St) (H : Hp) (x : V) (v : Value) (Q : Bool -> Hp -> Prop),Inv X pins σ H s -> za6 x v -> r x H Q ->
  wpAny (model X.prog X.w) X.A (truthy v) (TP X pins σ Q) X.xe s
noncomputable def tOp (r : R2) (ta tb : TE) : TE:=fun σ H Q=>ta σ H fun x H1=>tb σ H1 fun y H2=>r x y H2 Q
noncomputable def tUn (r : V -> Hp -> VK -> Prop) (ta : TE) : TE:=fun σ H Q=>ta σ H fun x H1=>r x H1 Q
noncomputable def rI (C : Int -> Int -> Prop) (g : Int -> Int -> V) : R2:=fun x y H Q=>∃ i j,x = .int i /\ y = .int j /\ C i j /\ Q (g i j) H
noncomputable def rI0 (g : Int -> Int -> V) : R2:=fun x y H Q=>∃ i j,x = .int i /\ y = .int j /\ Q (g i j) H
noncomputable def rU (g : Int -> V) : V -> Hp -> VK -> Prop:=fun x H Q=>∃ i,x = .int i /\ Q (g i) H
section
variable {X : Cx} {a b c : Expr} {ta tb tc : TE} {pos : Pos}
theorem zpy (ha : PE X a ta) (hb : PE X b tb) {pins : List (Addr × Obj)} {s : Shared} {σ : St} {H : Hp} {R : V -> V -> Hp -> Prop} (I : Inv X pins σ H s)
  (h : ta σ H fun x H1=>tb σ H1 fun y H2=>R x y H2) {Q : Value -> Shared -> Prop} {f : Value -> Value -> Sem Value}
  (hf : ∀ v u s2 x y H2,Inv X pins σ H2 s2 -> za6 x v -> za6 y u -> R x y H2 -> wpAny (model X.prog X.w) X.A (f v u) Q X.xe s2) :
  wpAny (model X.prog X.w) X.A (eval a X.env) (fun v s₁=>wpAny (model X.prog X.w) X.A (eval b X.env) (fun u s₂=>wpAny (model X.prog X.w) X.A (f v u) Q X.xe s₂) X.xe s₁) X.xe s:=by
 refine thn (ha pins s σ H _ I h) fun v s1 ⟨x,H1,I1,r1,q1⟩=>?_
 refine thn (hb pins s1 σ H1 _ I1 q1) fun u s2 ⟨y,H2,I2,r2,q2⟩=>?_
 exact hf v u s2 x y H2 I2 r1 r2 q2
theorem zsj {op : Operator} {r : R2} (ho : OpR X (binaryOp op) r) (ha : PE X a ta) (hb : PE X b tb) : PE X (.BinOp a op b pos) (tOp r ta tb):=by
 intro pins s σ H Q I h
 exact wpAny_BinOp (zpy ha hb I h fun v u s2 x y H2 I2 rx ry q=>ho pins s2 σ H2 x y v u Q I2 rx ry q)
theorem z1r {op : UnaryOp} {r : V -> Hp -> VK -> Prop} (ho : UnR X (unaryOp op) r) (ha : PE X a ta) : PE X (.UnaryOp op a pos) (tUn r ta):=by
 intro pins s σ H Q I h
 exact UnaryOp_ (thn (ha pins s σ H _ I h) fun v s1 ⟨x,H1,I1,r1,q1⟩=>ho pins s1 σ H1 x v Q I1 r1 q1)
theorem opI {f : Value -> Value -> Sem Value} {C : Int -> Int -> Prop} {g : Int -> Int -> Int}
  (rule : ∀ (i j : Int) (t u : Tok) (s : Shared) (Q : Value -> Shared -> Prop) (E : Value -> Shared -> Prop),C i j -> Q (.int (g i j) s.toks) { s with toks:=s.toks + 1 } -> wpAny (model X.prog X.w) X.A (f (.int i t) (.int j u)) Q E s) :
  OpR X f (rI C fun i j=>.int (g i j)):=by
 intro pins s σ H x y v u Q I rx ry h
 obtain ⟨i,j,rfl,rfl,hc,q⟩:=h
 obtain ⟨t,rfl⟩:=rx
 obtain ⟨t',rfl⟩:=ry
 exact rule i j t t' s _ _ hc ⟨.int (g i j),H,I.tok _,⟨_,rfl⟩,q⟩
theorem zsk {f : Value -> Value -> Sem Value} {g : Int -> Int -> Int}
  (rule : ∀ (i j : Int) (t u : Tok) (s : Shared) (Q : Value -> Shared -> Prop) (E : Value -> Shared -> Prop),Q (.int (g i j) s.toks) { s with toks:=s.toks + 1 } -> wpAny (model X.prog X.w) X.A (f (.int i t) (.int j u)) Q E s) :
  OpR X f (rI0 fun i j=>.int (g i j)):=by
 intro pins s σ H x y v u Q I rx ry h
 obtain ⟨i,j,rfl,rfl,q⟩:=h
 obtain ⟨t,rfl⟩:=rx
 obtain ⟨t',rfl⟩:=ry
 exact rule i j t t' s _ _ ⟨.int (g i j),H,I.tok _,⟨_,rfl⟩,q⟩
theorem znv {f : Value -> Value -> Sem Value} {g : Int -> Int -> Bool}
  (rule : ∀ (i j : Int) (t u : Tok) (s : Shared) (Q : Value -> Shared -> Prop) (E : Value -> Shared -> Prop),Q (.bool (g i j)) s -> wpAny (model X.prog X.w) X.A (f (.int i t) (.int j u)) Q E s) :
  OpR X f (rI0 fun i j=>.bl (g i j)):=by
 intro pins s σ H x y v u Q I rx ry h
 obtain ⟨i,j,rfl,rfl,q⟩:=h
 obtain ⟨t,rfl⟩:=rx
 obtain ⟨t',rfl⟩:=ry
 exact rule i j t t' s _ _ ⟨.bl (g i j),H,I,rfl,q⟩
noncomputable def zlz (i j : Int) : Prop:=0 < j /\ j < 1073741824
noncomputable def zjd (i j : Int) : Prop:=0 <= j /\ j <= 1000000 /\ i.natAbs < 2 ^ 64
noncomputable def zmf (i j : Int) : Prop:=(-(2 ^ 64) < i /\ i < 2 ^ 64) \/ (-(2 ^ 64) < j /\ j < 2 ^ 64)
theorem zmf.ok {i j : Int} (h : zmf i j) : IntMulOk i j:=by
 rcases h with ⟨h1,h2⟩ | ⟨h1,h2⟩
 ·exact .of_left (intBits_le_64 h1 h2)
 ·exact .of_right (intBits_le_64 h1 h2)
theorem z5a : OpR X (binaryOp .Add) (rI0 fun i j=>.int (i + j)):=zsk fun _ _ _ _ _ _ _ q=>add_int q
theorem z89 : OpR X (binaryOp .Sub) (rI0 fun i j=>.int (i - j)):=zsk fun _ _ _ _ _ _ _ q=>sub_int q
theorem z18 : OpR X (binaryOp .FloorDiv) (rI zlz fun i j=>.int (i / j)):=opI fun i j _ _ _ _ _ hc q=>by
 have h1 : (0 : Int) < j:=hc.1
 have h2 : j < 1073741824:=hc.2
 exact floordiv_int (by omega) (by rw [Int.fdiv_eq_ediv_of_nonneg i (by omega)]; exact q) (.inl (PyProof.noPylong_small (by omega)))
theorem zxa : OpR X (binaryOp .Mod) (rI (fun _ j=>0 < j) fun i j=>.int (i % j)):=opI fun i j _ _ _ _ _ hc q=>by
 have h1 : (0 : Int) < j:=hc
 exact mod_int' (by omega) (by rw [Int.fmod_eq_emod_of_nonneg i (by omega)]; exact q)
theorem z34 : OpR X (binaryOp .Pow) (rI zjd fun i j=>.int (i ^ j.toNat)):=opI fun _ _ _ _ _ _ _ hc q=>pow_int_small hc.1 hc.2.1 hc.2.2 q
theorem unI {f : Value -> Sem Value} {g : Int -> Int}
  (rule : ∀ (i : Int) (t : Tok) (s : Shared) (Q : Value -> Shared -> Prop) (E : Value -> Shared -> Prop),Q (.int (g i) s.toks) { s with toks:=s.toks + 1 } -> wpAny (model X.prog X.w) X.A (f (.int i t)) Q E s) :
  UnR X f (rU fun i=>.int (g i)):=by
 intro pins s σ H x v Q I rx h
 obtain ⟨i,rfl,q⟩:=h
 obtain ⟨t,rfl⟩:=rx
 exact rule i t s _ _ ⟨.int (g i),H,I.tok _,⟨_,rfl⟩,q⟩
theorem z45 : UnR X (unaryOp .USub) (rU fun i=>.int (-i)):=unI fun _ _ _ _ _ q=>neg_int q
end
noncomputable def zpe : V -> V -> Bool
 | .non,.non=>true | .non,.int _=>true | .int _,.non=>true | .non,.bl _=>true | .bl _,.non=>true | .non,.str _=>true | .str _,.non=>true
 | .int _,.int _=>true | .bl _,.bl _=>true | .str _,.str _=>true | .byt _,.byt _=>true
 | .int _,.str _=>true | .str _,.int _=>true | .bl _,.str _=>true | .str _,.bl _=>true
 | _,_=>false
noncomputable def rEq : R2:=fun x y H Q=>zpe x y = true /\ Q (.bl (decide (x = y))) H
noncomputable def rNe : R2:=fun x y H Q=>zpe x y = true /\ Q (.bl (!decide (x = y))) H
theorem zoi {i j : Int} : decide (V.int i = V.int j) = (i == j):=by
 rw [Bool.eq_iff_iff]
 simp
theorem zld {i j : Bool} : decide (V.bl i = V.bl j) = (i == j):=by
 rw [Bool.eq_iff_iff]
 simp
theorem zqq {i j : Str} : decide (V.str i = V.str j) = (i == j):=by
 rw [Bool.eq_iff_iff]
 simp
theorem zr1 {i j : Array UInt8} : decide (V.byt i = V.byt j) = (i.toList == j.toList):=by
 rw [Bool.eq_iff_iff]
 cases i
 cases j
 simp
section
variable {X : Cx} {a b c : Expr} {ta tb tc : TE} {pos : Pos}
theorem zch {pins : List (Addr × Obj)} {σ : St} {H : Hp} {s : Shared} {Q : VK} {k k' : Bool} (I : Inv X pins σ H s) (q : Q (.bl k) H) (e : k = k') : EP X pins σ Q (.bool k') s:=by
 subst e
 exact ⟨.bl k,H,I,rfl,q⟩
theorem zx3 : OpR X (compareOp .Eq) rEq:=by
 intro pins s σ H x y v u Q I rx ry h
 obtain ⟨hs,q⟩:=h
 cases x with
 | non =>
  cases rx
  cases y with
  | non=>cases ry; exact PySem.EqNone.eq_none_none (zch I q (by simp))
  | bl j=>cases ry; exact PySem.EqNone.eq_none_bool (zch I q (by simp))
  | int j=>obtain ⟨t',rfl⟩:=ry; exact PySem.EqNone.eq_none_int (zch I q (by simp))
  | str j=>obtain ⟨t',rfl⟩:=ry; exact PySem.EqNone.eq_none_str (zch I q (by simp))
  | _=>exact absurd (show false = true from hs) Bool.false_ne_true
 | bl i =>
  cases rx
  cases y with
  | non=>cases ry; exact PySem.EqNone.eq_bool_none (zch I q (by simp))
  | bl j=>cases ry; exact eq_bool (zch I q zld)
  | str j=>obtain ⟨t',rfl⟩:=ry; exact PySem.EqMixed.eq_bool_str (zch I q (by simp))
  | _=>exact absurd (show false = true from hs) Bool.false_ne_true
 | int i =>
  obtain ⟨t,rfl⟩:=rx
  cases y with
  | non=>cases ry; exact PySem.EqNone.eq_int_none (zch I q (by simp))
  | int j=>obtain ⟨t',rfl⟩:=ry; exact eq_int (zch I q zoi)
  | str j=>obtain ⟨t',rfl⟩:=ry; exact PySem.EqMixed.eq_int_str (zch I q (by simp))
  | _=>exact absurd (show false = true from hs) Bool.false_ne_true
 | str i =>
  obtain ⟨t,rfl⟩:=rx
  cases y with
  | non=>cases ry; exact PySem.EqNone.eq_str_none (zch I q (by simp))
  | bl j=>cases ry; exact PySem.EqMixed.eq_str_bool (zch I q (by simp))
  | int j=>obtain ⟨t',rfl⟩:=ry; exact PySem.EqMixed.eq_str_int (zch I q (by simp))
  | str j=>obtain ⟨t',rfl⟩:=ry; exact eq_str (zch I q zqq)
  | _=>exact absurd (show false = true from hs) Bool.false_ne_true
 | byt i =>
  obtain ⟨t,rfl⟩:=rx
  cases y with
  | byt j=>obtain ⟨t',rfl⟩:=ry; exact PySem.W.eq_bytes (zch I q zr1)
  | _=>exact absurd (show false = true from hs) Bool.false_ne_true
 | _=>cases y <;> exact absurd (show false = true from hs) Bool.false_ne_true
theorem zze : OpR X (compareOp .NotEq) rNe:=by
 intro pins s σ H x y v u Q I rx ry h
 obtain ⟨hs,q⟩:=h
 cases x with
 | non =>
  cases rx
  cases y with
  | non=>cases ry; exact PySem.EqNone.ne_none_none (zch I q (by simp))
  | bl j=>cases ry; exact PySem.EqNone.ne_none_bool (zch I q (by simp))
  | int j=>obtain ⟨t',rfl⟩:=ry; exact PySem.EqNone.ne_none_int (zch I q (by simp))
  | str j=>obtain ⟨t',rfl⟩:=ry; exact PySem.EqNone.ne_none_str (zch I q (by simp))
  | _=>exact absurd (show false = true from hs) Bool.false_ne_true
 | bl i =>
  cases rx
  cases y with
  | non=>cases ry; exact PySem.EqNone.ne_bool_none (zch I q (by simp))
  | bl j=>cases ry; exact ne_bool (zch I q (congrArg not zld))
  | str j=>obtain ⟨t',rfl⟩:=ry; exact PySem.EqMixed.ne_bool_str (zch I q (by simp))
  | _=>exact absurd (show false = true from hs) Bool.false_ne_true
 | int i =>
  obtain ⟨t,rfl⟩:=rx
  cases y with
  | non=>cases ry; exact PySem.EqNone.ne_int_none (zch I q (by simp))
  | int j=>obtain ⟨t',rfl⟩:=ry; exact ne_int (zch I q (congrArg not zoi))
  | str j=>obtain ⟨t',rfl⟩:=ry; exact PySem.EqMixed.ne_int_str (zch I q (by simp))
  | _=>exact absurd (show false = true from hs) Bool.false_ne_true
 | str i =>
  obtain ⟨t,rfl⟩:=rx
  cases y with
  | non=>cases ry; exact PySem.EqNone.ne_str_none (zch I q (by simp))
  | bl j=>cases ry; exact PySem.EqMixed.ne_str_bool (zch I q (by simp))
  | int j=>obtain ⟨t',rfl⟩:=ry; exact PySem.EqMixed.ne_str_int (zch I q (by simp))
  | str j=>obtain ⟨t',rfl⟩:=ry; exact ne_str (zch I q (congrArg not zqq))
  | _=>exact absurd (show false = true from hs) Bool.false_ne_true
 | byt i =>
  obtain ⟨t,rfl⟩:=rx
  cases y with
  | byt j=>obtain ⟨t',rfl⟩:=ry; exact PySem.W.ne_bytes (zch I q (congrArg not zr1))
  | _=>exact absurd (show false = true from hs) Bool.false_ne_true
 | _=>cases y <;> exact absurd (show false = true from hs) Bool.false_ne_true
theorem z30 : OpR X (compareOp .Lt) (rI0 fun i j=>.bl (decide (i < j))):=znv fun _ _ _ _ _ _ _ q=>lt_int q
theorem z4k : OpR X (compareOp .LtE) (rI0 fun i j=>.bl (decide (i <= j))):=znv fun _ _ _ _ _ _ _ q=>le_int q
theorem z9e : OpR X (compareOp .Gt) (rI0 fun i j=>.bl (decide (j < i))):=znv fun _ _ _ _ _ _ _ q=>gt_int q
theorem z50 : OpR X (compareOp .GtE) (rI0 fun i j=>.bl (decide (j <= i))):=znv fun _ _ _ _ _ _ _ q=>ge_int q
theorem zz8 : OpR X (compareOp .Is) (fun x y H Q=>y = .non /\ Q (.bl (decide (x = .non))) H):=by
 intro pins s σ H x y v u Q I rx ry h
 obtain ⟨rfl,q⟩:=h
 cases ry
 refine is_none_gen (zch I q ?_)
 cases x <;> first
  | (cases rx; rfl)
  | (obtain ⟨t,rfl⟩:=rx; rfl)
theorem z6j : OpR X (compareOp .IsNot) (fun x y H Q=>y = .non /\ Q (.bl (!decide (x = .non))) H):=by
 intro pins s σ H x y v u Q I rx ry h
 obtain ⟨rfl,q⟩:=h
 cases ry
 refine isnot_none_gen (zch I q ?_)
 cases x <;> first
  | (cases rx; rfl)
  | (obtain ⟨t,rfl⟩:=rx; rfl)
theorem zte (b : Expr) {op : CmpOp} (h : op ≠ .In:=by decide) (h2 : op ≠ .NotIn:=by decide) : behindInMarks op b = false:=by
 have e1 : (op == CmpOp.In) = false:=by cases op <;> first | rfl | exact absurd rfl h
 have e2 : (op == CmpOp.NotIn) = false:=by cases op <;> first | rfl | exact absurd rfl h2
 cases b <;> simp [behindInMarks,e1,e2]
theorem z4d {op : CmpOp} {r : R2} (ho : OpR X (compareOp op) r) (ha : PE X a ta) (hb : PE X b tb) (hm : behindInMarks op b = false) : PE X (.Compare a [op] [b] pos) (tOp r ta tb):=by
 intro pins s σ H Q I h
 exact wpAny_Compare1 (zpy ha hb I h fun v u s2 x y H2 I2 rx ry q=>ho pins s2 σ H2 x y v u Q I2 rx ry q) hm
noncomputable def zyh (t : TE) : TT:=fun σ H Q=>t σ H fun x H'=>∃ k,x = .bl k /\ Q k H'
theorem z0w {op : CmpOp} {r : R2} (ho : OpR X (compareOp op) r) (ha : PE X a ta) (hb : PE X b tb) (hm : behindInMarks op b = false) : PT X (.Compare a [op] [b] pos) (zyh (tOp r ta tb)):=by
 intro pins s σ H Q I h
 refine wpAny_isTrue_Compare1 (thn (ha pins s σ H _ I h) fun v s1 ⟨x,H1,I1,r1,q1⟩=>thn (hb pins s1 σ H1 _ I1 q1) fun u s2 ⟨y,H2,I2,r2,q2⟩ =>
  thn (ho pins s2 σ H2 x y v u _ I2 r1 r2 q2) fun c s3 ⟨z,H3,I3,r3,k,e,q3⟩=>?_) hm
 subst e
 cases r3
 exact wpAny_truthy_bool ⟨H3,I3,q3⟩
noncomputable def zwp (r r' : R2) (ta tb tc : TE) : TE:=fun σ H Q=>ta σ H fun x H1=>tb σ H1 fun y H2=>r x y H2 fun z H3=>∃ k,z = .bl k /\
 (if k = true then tc σ H3 fun w' H4=>r' y w' H4 Q else Q (.bl false) H3)
theorem z7p {op op' : CmpOp} {r r' : R2} (ho : OpR X (compareOp op) r) (ho' : OpR X (compareOp op') r') (ha : PE X a ta) (hb : PE X b tb) (hc : PE X c tc)
  (hm : lastMarks [op,op'] [b,c] = false:=by with_unfolding_all rfl) : PE X (.Compare a [op,op'] [b,c] pos) (zwp r r' ta tb tc):=by
 intro pins s σ H Q I h
 refine Compare_chain (thn (ha pins s σ H _ I h) fun v s1 ⟨x,H1,I1,r1,q1⟩=>chain_link (thn (hb pins s1 σ H1 _ I1 q1) fun u s2 ⟨y,H2,I2,r2,q2⟩ =>
  thn (ho pins s2 σ H2 x y v u _ I2 r1 r2 q2) fun d s3 ⟨z,H3,I3,r3,k,e,q3⟩=>?_)) hm
 subst e
 cases r3
 refine wpAny_truthy_bool ?_
 cases k with
 | false=>exact ite_ff ⟨.bl false,H3,I3,rfl,q3⟩
 | true=>exact ite_tt (chain_last (thn (hc pins s3 σ H3 _ I3 q3) fun w' s4 ⟨z',H4,I4,r4,q4⟩=>ho' pins s4 σ H4 y z' u w' Q I4 r2 r4 q4))
noncomputable def zpx (K : PySem.W.Frag) (x : V) (H : Hp) (k : Bool) : Prop :=
 match x with
 | .non=>k = false
 | .bl b=>k = b
 | .int i=>k = (i != 0)
 | .str y=>y.length <= sizeLine /\ k = ((y.length : Int) != 0)
 | .byt y=>y.size <= sizeLine /\ k = ((y.size : Int) != 0)
 | .ref p=>(∃ xs,SqL K H p xs /\ k = !xs.isEmpty) \/ (∃ xs,SqT K H p xs /\ k = !xs.isEmpty) \/ ∃ kvs,H p = some (.dK kvs) /\ k = !kvs.isEmpty
 | _=>False
theorem z22 {κ : Type} {kvs : List (κ × V)} {vs : List (κ × Value)} (r : KV kvs vs) : (!vs.isEmpty) = !kvs.isEmpty:=by
 cases r <;> rfl
theorem zum {xs : List V} {its : List Value} (r : za8 xs its) : (!its.toArray.isEmpty) = !xs.isEmpty:=by
 cases r <;> simp
theorem zke : (sizeLine : Nat) < 2 ^ 63:=by rw [sizeLine_eq]; decide
theorem z4x : zx1 X (fun x H Q=>∃ k,zpx X.K x H k /\ Q k H):=by
 intro pins s σ H x v Q I rx h
 obtain ⟨k,e,q⟩:=h
 have hl:=zke
 have hs : sizeLine = 16777216:=sizeLine_eq
 cases x with
 | non =>
  cases rx
  have e' : k = false:=e
  subst e'
  exact truthy_none ⟨H,I,q⟩
 | bl b =>
  cases rx
  have e' : k = b:=e
  subst e'
  exact wpAny_truthy_bool ⟨H,I,q⟩
 | int i =>
  obtain ⟨t,rfl⟩:=rx
  have e' : k = (i != 0):=e
  subst e'
  exact PySem.P.truthy_int ⟨H,I,q⟩
 | str y =>
  obtain ⟨t,rfl⟩:=rx
  obtain ⟨hy,e'⟩ : y.length <= sizeLine /\ k = ((y.length : Int) != 0):=e
  subst e'
  exact PySem.P.truthy_str (by omega) ⟨H,I.tok _,q⟩
 | byt y =>
  obtain ⟨t,rfl⟩:=rx
  obtain ⟨hy,e'⟩ : y.size <= sizeLine /\ k = ((y.size : Int) != 0):=e
  subst e'
  exact PySem.W.truthy_bytes (by omega) ⟨H,I.tok _,q⟩
 | ref p =>
  cases rx
  have e' : (∃ xs,SqL X.K H p xs /\ k = !xs.isEmpty) \/ (∃ xs,SqT X.K H p xs /\ k = !xs.isEmpty) \/ ∃ kvs,H p = some (.dK kvs) /\ k = !kvs.isEmpty:=e
  rcases e' with ⟨xs,hx,e'⟩ | ⟨xs,hx,e'⟩ | ⟨kvs,hx,e'⟩
  ·subst e'
   obtain ⟨its,r,pl,hz⟩:=I.list hx
   have hlen:=r.length
   exact wpAny_truthy_list pl.isList (by simp only [List.size_toArray]; omega) ⟨H,I.tok _,by rw [zum r]; exact q⟩
  ·subst e'
   obtain ⟨its,r,pl,hz⟩:=I.tuple hx
   have hlen:=r.length
   exact truthy_tuple pl (by simp only [List.size_toArray]; omega) ⟨H,I.tok _,by rw [zum r]; exact q⟩
  ·subst e'
   obtain ⟨hz,hS,vs,r,m⟩ : kvs.length <= sizeLine /\ (p == sysModules) = false /\ ∃ vs,KV kvs vs /\ s.heap.DictOf (zej X.prog X.w) p vs:=I.hok p _ hx
   have hlen : kvs.length = vs.length:=Paired.length r
   exact wpAny_truthy_dict hS m (by omega) ⟨H,I.tok _,by rw [z22 r]; exact q⟩
 | _=>exact (show False from e).elim
theorem z3i (ha : PE X a ta) (he : ∀ whole,isTrue a X.env whole = (do let v <- whole; standAt a.pos; holding [v] (truthy v))) :
  PT X a (fun σ H Q=>ta σ H fun x H'=>∃ k,zpx X.K x H' k /\ Q k H'):=by
 intro pins s σ H Q I h
 exact isTrue_plain (thn (ha pins s σ H _ I h) fun v s1 ⟨x,H1,I1,r1,q1⟩=>z4x pins s1 σ H1 x v Q I1 r1 q1) (he _)
theorem z4o : OpR X (binaryOp .Add) (fun x y H Q=>∃ i j,x = .str i /\ y = .str j /\ i.length + j.length <= sizeLine /\ Q (.str (i ++ j)) H):=by
 intro pins s σ H x y v u Q I rx ry h
 obtain ⟨i,j,rfl,rfl,hz,q⟩:=h
 obtain ⟨t,rfl⟩:=rx
 obtain ⟨t',rfl⟩:=ry
 exact add_str (fun t' tk=>⟨.str (i ++ j),H,I.tok _,⟨_,rfl⟩,q⟩) hz
theorem zh6 {x : V} {us : List Value} (r : za8 [x] us) : ∃ u,us = [u] /\ za6 x u:=by
 cases r with
 | cons r1 r2=>cases r2; exact ⟨_,rfl,r1⟩
theorem zwn {x y : V} {us : List Value} (r : za8 [x,y] us) : ∃ u w',us = [u,w'] /\ za6 x u /\ za6 y w':=by
 cases r with
 | cons r1 r2 =>
  cases r2 with
  | cons r3 r4=>cases r4; exact ⟨_,_,rfl,r1,r3⟩
end
structure zid (h : Heap) (x dx C : Addr) (mA : Str -> Option Value) : Prop where
 obj : h.get? x = some (PySem.W.instObj C dx)
 ns : h.Ns1 dx mA
 ne : dx ≠ x
theorem z3n {h : Heap} {dx : Addr} {mA : Str -> Option Value} (n : h.Ns1 dx mA) : ∃ od,h.get? dx = some od /\ ∀ name,PySem.W.lookIn name od = some (mA name):=by
 obtain ⟨o,es,ep,ho,hd,hk,_,hm⟩:=n
 refine ⟨o,ho,fun name=>?_⟩
 have e:=hm name
 unfold nsFind findBy at e
 rw [<- Array.find?_toList] at e
 unfold PySem.W.lookIn
 rw [hd]
 dsimp only
 split
 ·rename_i y q
  rw [q] at e
  exact congrArg some e
 ·rename_i q
  rw [q] at e
  have a : es.toList.any (·.refKey) = false:=by
   rw [List.any_eq_false]
   intro y hy
   obtain ⟨z,t,hkey⟩:=hk y (Array.mem_toList_iff.mp hy)
   simp [DictEntry.refKey,hkey]
  have a' : ¬ es.toList.any (·.refKey) = true:=by rw [a]; exact Bool.false_ne_true
  rw [if_neg a']
  exact congrArg some e
theorem zid.look {h : Heap} {x dx C : Addr} {mA : Str -> Option Value} (I : zid h x dx C mA) : ∃ od,PySem.W.InstAt h x (PySem.W.instObj C dx) C (some od) /\ ∀ name,PySem.W.lookIn name od = some (mA name) :=
 let ⟨od,ho,hl⟩:=z3n I.ns
 ⟨od,⟨I.obj,rfl,rfl,ho⟩,hl⟩
section
variable {prog : Program} {w : World} {A : Around} {E : Value -> Shared -> Prop} {s : Shared} {K : PySem.W.Frag} {x dx C f : Addr} {mA : Str -> Option Value} {name : Str} {v : Value}
theorem z3q {expr : Bool} {Q : Value -> Shared -> Prop} (X : K.In s.heap) (I : zid s.heap x dx C mA) (hg : PySem.W.plainGet K C name = true) (hh : PySem.W.hasDictIn K C = true)
  (ha : PySem.W.findIn K (.ref C) name = some none) (hv : mA name = some v) (hv' : PySem.W.handedIn v = true) (h : Q v { s with toks:=s.toks + 1 }) :
  wpAny (model prog w) A (getAttr (.ref x) name expr) Q E s:=by
 obtain ⟨od,J,hl⟩:=I.look
 exact PySem.W.get_value X J (PySem.W.plainGet_of hg).1 (PySem.W.findObj_own hh ha rfl (by rw [hl,hv])) hv' h
theorem z6e {pl : Sem Bool} {Q : Value × List Value -> Shared -> Prop} (X : K.In s.heap) (I : zid s.heap x dx C mA) (hg : PySem.W.plainGet K C name = true)
  (hf : PySem.W.findIn K (.ref C) name = some (some (.ref f))) (ht : PySem.W.isFn K (.ref f) = true) (hv : mA name = none) (h : Q (.ref f,[.ref x]) s) :
  wpAny (model prog w) A (getMethod (.ref x) name pl) Q E s:=by
 obtain ⟨od,J,hl⟩:=I.look
 exact PySem.W.method_fn X J (PySem.W.plainGet_of hg).1 (PySem.W.plainGet_of hg).2 hf (beq_iff_eq.mp ht) (by show (PySem.W.lookIn name od).map (·.isSome) = some false; rw [hl,hv]; rfl) h
theorem z7v {ns : List Str} {Q : Unit -> Shared -> Prop} (X : K.In s.heap) (I : zid s.heap x dx C mA)
  (hs : PySem.W.findIn K (.ref C) "__setattr__" = some (some (.builtin "object.__setattr__"))) (hp : PySem.W.plainOver K C = true) (ht : PySem.W.takerIn K C name = some none) (hh : PySem.W.hasDictIn K C = true)
  (hw : PySem.Within mA ns) (hsz : ns.length <= sizeLine)
  (h : ∀ h',zid h' x dx C (fun y=>if y = name then some v else mA y) -> Heap.SameBut dx s.heap h' -> Q () { s with heap:=h',toks:=s.toks + 2 }) :
  wpAny (model prog w) A (setAttr (.ref x) name v) Q E s:=by
 obtain ⟨od,J,hl⟩:=I.look
 refine PySem.W.set_plain X J hs (PySem.W.osa_open (s:={ s with toks:=s.toks + 1 }) (r:=none) X J hp ht fun b=>?_)
 obtain ⟨cd,hc,hd'⟩:=PySem.W.any_some hh
 have hx : s.heap.get? x = some ⟨.ref C,some dx,.plain,#[]⟩:=I.obj
 refine wpAny_bind (wpAny_pure (wpAny_bind (wpAny_bind (wpAny_loadPart hx (wpAny_bind (PySem.W.Looks.here (s:={ s with toks:=s.toks + 1 }) (PySem.W.looks_clsIn X hc) ?_))))))
 rw [hd']
 refine wpAny_pure (a:=some dx) (wpAny_bind (wpAny_pure (wpAny_bind ?_)))
 refine wpAny_nsSet1 (s:={ s with toks:=s.toks + 1 }) I.ns fun h' hn2 hs2=>?_
 obtain ⟨oD,esD,epD,hoD,hdD,hcD⟩:=hn2.count (PySem.Within.cons name v hw)
 refine wpAny_bind (wpAny_lookBehind hoD (by rw [hdD]; exact pastItsLine_dict (Nat.le_trans hcD (by rw [List.length_cons]; omega))) ?_)
 exact wpAny_pure (h _ ⟨(hs2.2 _ (Ne.symm I.ne)).trans I.obj,hn2,I.ne⟩ hs2)
theorem zww {R : Result -> Shared -> Prop} {vs : List Value} {kw : List (Str × Value)} (X : K.In s.heap) (hm : PySem.W.makesIn K C = true)
  (hi : PySem.W.findIn K (.ref C) "__init__" = some (some (.ref f))) (hf : PySem.W.typeIn K (.ref f) = some (.type "function"))
  (h : codeAny (model prog w) (A.under (.builtin "type.__call__" ⟨.ref C :: vs,kw⟩)) (.call (.ref f) ⟨.ref (s.heap.objs.size + 1) :: vs,kw⟩) (PySem.W.InitBack (s.heap.objs.size + 1) R)
   { s with heap:=(s.heap.push PySem.W.emptyDict).push (PySem.W.instObj C s.heap.objs.size) }) :
  codeAny (model prog w) A (.call (.ref C) ⟨vs,kw⟩) R s:=by
 obtain ⟨hh,g,d,t,os⟩:=s
 exact PySem.W.make_core (PySem.W.makes_of X hm) (PySem.W.looks_findIn X hi) (fun self=>PySem.W.bind_fn X self hf) (.inl rfl) h
end
noncomputable def zd0 (f : Str) (v : V) : List (Str × V) -> List (Str × V)
 | []=>[(f,v)]
 | (g,x) :: r=>if g = f then (g,v) :: r else (g,x) :: zd0 f v r
theorem zsx (f g : Str) (v : V) : ∀ fs : List (Str × V),(zd0 f v fs).lookup g = if g = f then some v else fs.lookup g
 | []=>by
  show List.lookup g [(f,v)] = _
  by_cases h : g = f
  ·have hb : (g == f) = true:=beq_iff_eq.mpr h
   simp only [List.lookup,hb,if_pos h]
  ·have hb : (g == f) = false:=beq_eq_false_iff_ne.mpr h
   simp only [List.lookup,hb,if_neg h]
 | (k,x) :: r=>by
  have ih:=zsx f g v r
  rw [show zd0 f v ((k,x) :: r) = (if k = f then (k,v) :: r else (k,x) :: zd0 f v r) from rfl]
  by_cases hk : k = f
  ·rw [if_pos hk]
   by_cases h : g = k
   ·have hb : (g == k) = true:=beq_iff_eq.mpr h
    simp only [List.lookup,hb,if_pos (h.trans hk)]
   ·have hb : (g == k) = false:=beq_eq_false_iff_ne.mpr h
    simp only [List.lookup,hb,if_neg (fun e : g = f=>h (e.trans hk.symm))]
  ·rw [if_neg hk]
   by_cases h : g = k
   ·have hb : (g == k) = true:=beq_iff_eq.mpr h
    simp only [List.lookup,hb,if_neg (fun e : g = f=>hk (h.symm.trans e))]
   ·have hb : (g == k) = false:=beq_eq_false_iff_ne.mpr h
    simp only [List.lookup,hb]
    exact ih
theorem zqg (f : Str) (v : V) : ∀ fs : List (Str × V),f ∈ (zd0 f v fs).map (·.1) /\ ∀ g,g ∈ fs.map (·.1) -> g ∈ (zd0 f v fs).map (·.1)
 | []=>⟨by simp [zd0],fun g h=>by simp at h⟩
 | (k,x) :: r=>by
  obtain ⟨i1,i2⟩:=zqg f v r
  rw [show zd0 f v ((k,x) :: r) = (if k = f then (k,v) :: r else (k,x) :: zd0 f v r) from rfl]
  by_cases hk : k = f
  ·rw [if_pos hk]
   subst hk
   exact ⟨by simp,fun g h=>by simpa using h⟩
  ·rw [if_neg hk]
   refine ⟨?_,fun g h=>?_⟩
   ·rw [List.map_cons]
    exact List.mem_cons_of_mem _ i1
   ·rw [List.map_cons] at h ⊢
    rcases List.mem_cons.mp h with e | e
    ·exact List.mem_cons.mpr (.inl e)
    ·exact List.mem_cons_of_mem _ (i2 g e)
theorem zux (f : Str) (v : V) : ∀ fs : List (Str × V),(zd0 f v fs).length <= fs.length + 1
 | []=>by simp [zd0]
 | (k,x) :: r=>by
  have ih:=zux f v r
  rw [show zd0 f v ((k,x) :: r) = (if k = f then (k,v) :: r else (k,x) :: zd0 f v r) from rfl]
  by_cases hk : k = f
  ·rw [if_pos hk,List.length_cons,List.length_cons]; omega
  ·rw [if_neg hk,List.length_cons,List.length_cons]; omega
theorem zeg.some_of {v : V} {o : Option Value} (r : zeg (some v) o) : ∃ u,o = some u /\ za6 v u:=by
 cases o with
 | none=>exact (show False from r).elim
 | some u=>exact ⟨u,rfl,r⟩
theorem zeg.none_of {o : Option Value} (r : zeg none o) : o = none:=by
 cases o with
 | none=>rfl
 | some u=>exact (show False from r).elim
theorem z4i {v : V} {u : Value} (r : za6 v u) : PySem.W.handedIn u = true:=by
 cases v with
 | non=>cases (show u = Value.none from r); rfl
 | bl b=>cases (show u = Value.bool b from r); rfl
 | int i=>obtain ⟨t,e⟩:=(show ∃ t,u = Value.int i t from r); cases e; rfl
 | str x=>obtain ⟨t,e⟩:=(show ∃ t,u = Value.str x t from r); cases e; rfl
 | byt b=>obtain ⟨t,e⟩:=(show ∃ t,u = Value.bytes b t from r); cases e; rfl
 | flt b=>obtain ⟨t,e⟩:=(show ∃ t,u = Value.float b t from r); cases e; rfl
 | ref a=>cases (show u = Value.ref a from r); rfl
 | ty n=>cases (show u = Value.type n from r); rfl
section
variable {P : Program} {w : World} {H H' : Hp} {h h' : Heap} {a C dx : Addr} {fs fs' : List (Str × V)}
theorem znn (hok : HOk P w H h) (e : H a = some (.ins C dx fs)) : ∃ mA,zid h a dx C mA /\ (∀ f,zeg (fs.lookup f) (mA f)) /\ PySem.Within mA (fs.map (·.1)) /\ fs.length <= 1000 /\ H dx = some (.own a):=by
 obtain ⟨d,z,ne,ob,mA,n,r,q⟩:=(show zcx P w H h a (.ins C dx fs) from hok a _ e)
 exact ⟨mA,⟨ob,n,ne⟩,r,q,z,d⟩
end
structure Cls (K : PySem.W.Frag) (C : Addr) : Prop where
 pg : PySem.W.plainGet K C Str.empty = true
 hd : PySem.W.hasDictIn K C = true
 po : PySem.W.plainOver K C = true
 sa : PySem.W.findIn K (.ref C) "__setattr__" = some (some (.builtin "object.__setattr__"))
theorem Cls.get {K : PySem.W.Frag} {C : Addr} (c : Cls K C) (f : Str) : PySem.W.plainGet K C f = true:=c.pg
noncomputable def zdn (K : PySem.W.Frag) (C : Addr) (f : Str) : Prop:=PySem.W.findIn K (.ref C) f = some none
theorem zdn.taker {K : PySem.W.Frag} {C : Addr} {f : Str} (n : zdn K C f) : PySem.W.takerIn K C f = some none:=by
 unfold PySem.W.takerIn
 rw [show PySem.W.findIn K (.ref C) f = some none from n]
 rfl
structure zdv (K : PySem.W.Frag) (C : Addr) (m : Str) (f : Addr) : Prop where
 at_ : PySem.W.findIn K (.ref C) m = some (some (.ref f))
 fn : PySem.W.isFn K (.ref f) = true
 kp : PySem.W.keepIn K (.ref f) = true
section
variable {X : Cx} {pins : List (Addr × Obj)} {σ : St} {H : Hp} {s : Shared} {a C dx : Addr} {fs : List (Str × V)} {f : Str} {v : V} {A : Around} {E : Value -> Shared -> Prop}
theorem z2g {b : Bool} {Q : Value -> Shared -> Prop} (I : Inv X pins σ H s) (e : H a = some (.ins C dx fs)) (c : Cls X.K C) (n : zdn X.K C f) (l : fs.lookup f = some v)
  (h : ∀ u s',Inv X pins σ H s' -> za6 v u -> Q u s') : wpAny (model X.prog X.w) A (getAttr (.ref a) f b) Q E s:=by
 obtain ⟨mA,O,r,_,_,_⟩:=znn I.hok e
 obtain ⟨u,hu,ru⟩:=zeg.some_of (v:=v) (o:=mA f) (by rw [<- l]; exact r f)
 exact z3q I.kIn O (c.get f) c.hd n hu (z4i ru) (h u _ (I.tok _) ru)
theorem zwm {m : Str} {g : Addr} {pl : Sem Bool} {Q : Value × List Value -> Shared -> Prop} (I : Inv X pins σ H s) (e : H a = some (.ins C dx fs)) (c : Cls X.K C) (k : zdv X.K C m g) (l : fs.lookup m = none)
  (h : Q (.ref g,[.ref a]) s) : wpAny (model X.prog X.w) A (getMethod (.ref a) m pl) Q E s:=by
 obtain ⟨mA,O,r,_,_,_⟩:=znn I.hok e
 have hn : mA m = none:=zeg.none_of (by rw [<- l]; exact r m)
 exact z6e I.kIn O (c.get m) k.at_ k.fn hn h
theorem z5i {y : V} {u : Value} {Q : Unit -> Shared -> Prop} (I : Inv X pins σ H s) (e : H a = some (.ins C dx fs)) (c : Cls X.K C) (n : zdn X.K C f) (hl : fs.length < 1000) (ry : za6 y u)
  (h : ∀ s',Inv X pins σ (upd H a (.ins C dx (zd0 f y fs))) s' -> Q () s') : wpAny (model X.prog X.w) A (setAttr (.ref a) f u) Q E s:=by
 obtain ⟨mA,O,r,wi,_,ho⟩:=znn I.hok e
 have hz : (fs.map (·.1)).length <= sizeLine:=by rw [List.length_map,sizeLine_eq]; omega
 refine z7v I.kIn O c.sa c.po n.taker c.hd wi hz fun h' O' sb=>h _ ?_
 have hd : ∃ o,h'.get? dx = some o:=let ⟨o,_,_,e',_⟩:=O'.ns; ⟨o,e'⟩
 refine I.write (x:=a) (e:=dx) (by rw [e]; exact True.intro) (.inr ho) (fun b q hb z=>(sb.2 b hb).trans z) hd ?_
 refine ⟨by rw [zb0 O.ne]; exact ho,?_,O.ne,O'.obj,_,O'.ns,fun g=>?_,fun g hg=>?_⟩
 ·have:=zux f y fs; omega
 ·show zeg ((zd0 f y fs).lookup g) (if g = f then some u else mA g)
  rw [zsx]
  by_cases q : g = f
  ·rw [if_pos q,if_pos q]; exact ry
  ·rw [if_neg q,if_neg q]; exact r g
 ·by_cases q : g = f
  ·rw [q]; exact (zqg f y fs).1
  ·refine (zqg f y fs).2 g (wi g fun z=>hg ?_)
   show (if g = f then some u else mA g) = none
   rw [if_neg q]; exact z
theorem Inv.made (I : Inv X pins σ H s) : Inv X pins σ (upd (upd H s.heap.objs.size (.own (s.heap.objs.size + 1))) (s.heap.objs.size + 1) (.ins C s.heap.objs.size []))
  { s with heap:=(s.heap.push PySem.W.emptyDict).push (PySem.W.instObj C s.heap.objs.size) }:=by
 have e1 : (s.heap.push PySem.W.emptyDict).get? s.heap.objs.size = some PySem.W.emptyDict:=Heap.get?_push_size s.heap rfl
 have e2 : ((s.heap.push PySem.W.emptyDict).push (PySem.W.instObj C s.heap.objs.size)).get? (s.heap.objs.size + 1) = some (PySem.W.instObj C s.heap.objs.size):=by
  have:=Heap.get?_push_size (s.heap.push PySem.W.emptyDict) (o:=PySem.W.instObj C s.heap.objs.size) rfl
  rwa [Heap.size_push] at this
 have e3 : (s.heap.push PySem.W.emptyDict).Ns s.heap.objs.size (fun _=>none):=⟨PySem.W.emptyDict,#[],_,e1,rfl,(fun e he=>absurd he (by simp)),fun _=>rfl⟩
 have I1:=I.laid (a:=s.heap.objs.size) (o:=.own (s.heap.objs.size + 1)) (h':=s.heap.push PySem.W.emptyDict) (t':=s.toks) (fun b u q=>Heap.get?_push_of_some _ q) (Nat.le_refl _) ⟨_,e1⟩
 refine I1.laid (a:=s.heap.objs.size + 1) (o:=.ins C s.heap.objs.size []) (t':=s.toks) (fun b u q=>Heap.get?_push_of_some _ q) (Nat.le_of_eq (Heap.size_push _ _)) ?_
 have ne : s.heap.objs.size ≠ s.heap.objs.size + 1:=Nat.ne_of_lt (Nat.lt_succ_self _)
 refine ⟨by rw [zb0 ne,zcg],Nat.zero_le _,ne,e2,fun _=>none,(Heap.Ns1.of_empty e3).at fun o q=>Heap.get?_push_of_some _ q,fun _=>True.intro,fun y hy=>absurd rfl hy⟩
theorem zyi {prog : Program} {w : World} {env : Env} {e : Expr} {f : Str} {pos : Pos} {s : Shared} {Q : Value -> Shared -> Prop} (hb : attributeBase e f env (eval e env) = eval e env)
  (h : wpAny (model prog w) A (eval e env) (fun o s₁=>wpAny (model prog w) A (getAttr o f true) Q E s₁) E s) : wpAny (model prog w) A (eval (.Attribute e f pos) env) Q E s :=
 Attribute_any_ h (by rw [arm_eval_Attribute,hb])
end
noncomputable def z8y (K : PySem.W.Frag) (ta : TE) (f : Str) : TE:=fun σ H Q=>ta σ H fun x H1=>∃ a C dx fs v,x = .ref a /\ H1 a = some (.ins C dx fs) /\ Cls K C /\ zdn K C f /\ fs.lookup f = some v /\ Q v H1
noncomputable def z6w (K : PySem.W.Frag) (ta tv : TE) (f : Str) : TS:=fun D σ H=>tv σ H fun y H1=>ta σ H1 fun x H2=>∃ a C dx fs,x = .ref a /\ H2 a = some (.ins C dx fs) /\ Cls K C /\ zdn K C f /\ fs.length < 1000 /\
 D.nx σ (upd H2 a (.ins C dx (zd0 f y fs)))
section
variable {X : Cx} {o e value : Expr} {f : Str} {pos pos' tpos : Pos} {ta tv : TE}
theorem z0t (he : PE X e ta) (hb : attributeBase e f X.env (eval e X.env) = eval e X.env) : PE X (.Attribute e f pos) (z8y X.K ta f):=by
 intro pins s σ H Q I h
 refine zyi hb (thn (he pins s σ H _ I h) fun u s1 ⟨x,H1,I1,rx,a,C,dx,fs,v,ex,ea,c,n,l,q⟩=>?_)
 subst ex
 obtain rfl : u = Value.ref a:=rx
 exact z2g I1 ea c n l fun u' s2 I2 ru=>⟨v,H1,I2,ru,q⟩
theorem zyq (ha : PE X o ta) (hv : PE X value tv) (hs : swapsWith value (some (.Attribute o f pos')) pos.line X.env = pure false) : PS X (.Assign [.Attribute o f pos'] value pos) (z6w X.K ta tv f):=by
 intro pins s σ H D I h
 refine plainObj_wpAny_Assign_Attribute (thn (hv pins s σ H _ I h) fun u s1 ⟨y,H1,I1,ry,q⟩=>thn (ha pins s1 σ H1 _ I1 q) fun ov s2 ⟨x,H2,I2,rx,a,C,dx,fs,ex,ea,c,n,l,q2⟩=>?_) hs
 subst ex
 obtain rfl : ov = Value.ref a:=rx
 exact z5i I2 ea c n l ry fun s3 I3=>⟨σ,_,I3,q2⟩
end
section
variable {X : Cx} {pins : List (Addr × Obj)} {σ : St} {H : Hp} {s : Shared} {A : Around} {E : Value -> Shared -> Prop} {Q : Value -> Shared -> Prop} {c : Value} {b : Bool}
inductive ze0 (K : PySem.W.Frag) (H : Hp) : V -> Value -> Prop where
 | non : ze0 K H .non (.type "NoneType")
 | bl (x : Bool) : ze0 K H (.bl x) (.type "bool")
 | int (i : Int) : ze0 K H (.int i) (.type "int")
 | str (x : Str) : ze0 K H (.str x) (.type "str")
 | flt (x : UInt64) : ze0 K H (.flt x) (.type "float")
 | lst {a : Addr} {xs : List V} (e : H a = some (.lst xs)) : ze0 K H (.ref a) (.type "list")
 | frz {a : Addr} {o : Obj} {xs : List V} (e : H a = some (.frz o (.lst xs))) : ze0 K H (.ref a) (.type "list")
 | tup {a : Addr} {xs : List V} (e : H a = some (.tup xs)) : ze0 K H (.ref a) (.type "tuple")
 | dK {a : Addr} {kvs : List (Key × V)} (e : H a = some (.dK kvs)) : ze0 K H (.ref a) (.type "dict")
 | dT {a : Addr} {kvs : List (List Key × V)} (e : H a = some (.dT kvs)) : ze0 K H (.ref a) (.type "dict")
 | ins {a C dx : Addr} {fs : List (Str × V)} (e : H a = some (.ins C dx fs)) (cl : Cls K C) (ha : PySem.W.findIn K (.ref C) "__class__" = some (some (.builtin "object.__class__")))
   (hn : PySem.W.specialIn K (.builtin "object.__class__") "__get__" = some (some (.builtin "getset_descriptor.__get__"))) (htk : PySem.W.takesIn K (.builtin "object.__class__") = some true)
   (hm : PySem.W.mroIn K C (.type "object") = some true) : ze0 K H (.ref a) (.ref C)
theorem z1v {x : V} {u t : Value} (I : Inv X pins σ H s) (rx : za6 x u) (ty : ze0 X.K H x t) (e : PySem.W.kitOne X.K t c = some b) (h : ∀ tk,Q (.bool b) { s with toks:=tk }) :
  wpAny (model X.prog X.w) A (call (.builtin "isinstance") [u,c]) Q E s:=by
 cases ty with
 | non=>cases (show u = Value.none from rx); exact PySem.W.kia_one PySem.W.kitx_none I.kIn True.intro e (fun z=>nomatch z) h
 | bl y=>cases (show u = Value.bool y from rx); exact PySem.W.kia_one PySem.W.kitx_bool I.kIn True.intro e (fun z=>nomatch z) h
 | int i=>obtain ⟨t,q⟩:=(show ∃ t,u = Value.int i t from rx); cases q; exact PySem.W.kia_one PySem.W.kitx_int I.kIn True.intro e (fun z=>nomatch z) h
 | str y=>obtain ⟨t,q⟩:=(show ∃ t,u = Value.str y t from rx); cases q; exact PySem.W.kia_one PySem.W.kitx_str I.kIn True.intro e (fun z=>nomatch z) h
 | flt y=>obtain ⟨t,q⟩:=(show ∃ t,u = Value.float y t from rx); cases q; exact PySem.W.kia_one PySem.W.kitx_float I.kIn True.intro e (fun z=>nomatch z) h
 | @lst a xs ea =>
  cases (show u = Value.ref a from rx)
  obtain ⟨_,_,n,_,h1⟩:=(show zcx X.prog X.w H s.heap a (.lst xs) from I.hok a _ ea)
  exact PySem.W.kia_one PySem.W.kitx_list I.kIn ⟨_,h1,rfl⟩ e (fun z=>nomatch z) h
 | @frz a ob xs ea =>
  cases (show u = Value.ref a from rx)
  obtain ⟨_,_,_,n,_,h1⟩:=(show zcx X.prog X.w H s.heap a (.frz ob (.lst xs)) from I.hok a _ ea)
  exact PySem.W.kia_one PySem.W.kitx_list I.kIn ⟨_,h1,rfl⟩ e (fun z=>nomatch z) h
 | @tup a xs ea =>
  cases (show u = Value.ref a from rx)
  obtain ⟨_,_,_,p⟩:=(show zcx X.prog X.w H s.heap a (.tup xs) from I.hok a _ ea)
  obtain ⟨o,h1,h2,_⟩:=p
  exact PySem.W.kia_one PySem.W.kitx_tuple I.kIn ⟨o,h1,h2⟩ e (fun z=>nomatch z) h
 | @dK a kvs ea =>
  cases (show u = Value.ref a from rx)
  obtain ⟨_,_,vs,_,p⟩:=(show zcx X.prog X.w H s.heap a (.dK kvs) from I.hok a _ ea)
  obtain ⟨o,es,ep,h1,h2,_⟩:=p
  exact PySem.W.kia_one PySem.W.kitx_dict I.kIn ⟨o,h1,h2.1⟩ e (fun z=>nomatch z) h
 | @dT a kvs ea =>
  cases (show u = Value.ref a from rx)
  obtain ⟨_,_,xs,_,o,es,ep,h1,h2,_⟩:=(show zcx X.prog X.w H s.heap a (.dT kvs) from I.hok a _ ea)
  exact PySem.W.kia_one PySem.W.kitx_dict I.kIn ⟨o,h1,h2.1⟩ e (fun z=>nomatch z) h
 | @ins a C dx fs ea cl ha hn htk hm =>
  cases (show u = Value.ref a from rx)
  obtain ⟨mA,O,_⟩:=znn I.hok ea
  obtain ⟨od,J,_⟩:=O.look
  exact PySem.W.kia_one (PySem.W.kitx_own (cl.get _) cl.hd ha hn htk hm) I.kIn J e (fun z=>nomatch z) h
end
structure zce (k : Nat) (A : Around) : Prop where
 hd : A.handled = none
 dp : A.depth + 3 * k + 5 < recursionLimit
 un : A.units + 16 * k + 200 < cLine
theorem zce.mono {j k : Nat} {A : Around} (r : zce k A) (h : j <= k) : zce j A:=⟨r.hd,by have:=r.dp; omega,by have:=r.un; omega⟩
theorem zce.deeper {k : Nat} {A : Around} (r : zce (k + 1) A) (env : Env) : zce k (A.deeper env) :=
 ⟨r.hd,by have:=r.dp; show A.depth + 1 + 3 * k + 5 < _; omega,by have:=r.un; show A.units + 3 + 16 * k + 200 < _; omega⟩
theorem z0q {A : Around} {C : Addr} {us : List Value} {kw : List (Str × Value)} : (A.under (.builtin "type.__call__" ⟨.ref C :: us,kw⟩)).depth = A.depth + 1:=by
 first | rfl | simp [Around.under,Code.weight,Code.isCreation,Code.isGuard,Code.isCaller,Code.frames,Code.isFrame,guardIds]
theorem z0y {A : Around} {C : Addr} {us : List Value} {kw : List (Str × Value)} : (A.under (.builtin "type.__call__" ⟨.ref C :: us,kw⟩)).units = A.units + 1:=by
 first | rfl | simp [Around.under,Code.cUnits,Code.frames,Code.isFrame]
theorem zce.make {k : Nat} {A : Around} (r : zce (k + 1) A) (C : Addr) (us : List Value) (kw : List (Str × Value)) : zce k (A.under (.builtin "type.__call__" ⟨.ref C :: us,kw⟩)) :=
 ⟨r.hd,by have:=r.dp; rw [z0q]; omega,by have:=r.un; rw [z0y]; omega⟩
theorem zce.depth {k : Nat} {A : Around} (r : zce k A) : A.depth < recursionLimit:=by have:=r.dp; omega
theorem zce.units {k : Nat} {A : Around} (r : zce k A) : A.units + 64 < cLine:=by have:=r.un; omega
noncomputable def zn7 : TA:=fun _ H Q=>Q [] H
noncomputable def znp (ta : TE) (tr : TA) : TA:=fun σ H Q=>ta σ H fun x H1=>tr σ H1 fun xs H2=>Q (x :: xs) H2
section
variable {X : Cx} {e : Expr} {es : List Expr} {te : TE} {t : TA} {pos : Pos}
theorem zee : PA X [] zn7:=fun _ _ _ _ H Q I h=>Calls.spliced_nil ⟨[],H,I,.nil,h⟩
theorem zdr (ha : PE X e te) (hr : PA X es t) (hs : starEach (e :: es) X.env = (false,eval e X.env) :: starEach es X.env:=by rfl) : PA X (e :: es) (znp te t):=by
 intro pos pins s σ H Q I h
 rw [hs]
 show wpAny _ _ (spliced ((false,eval e X.env) :: backTo pos (starEach es X.env))) _ _ s
 refine Calls.spliced_cons (thn (ha pins s σ H _ I h) fun u s1 ⟨x,H1,I1,r1,q1⟩=>?_)
 exact thn (hr pos pins s1 σ H1 _ I1 q1) fun us s2 ⟨xs,H2,I2,r2,q2⟩=>⟨x :: xs,H2,I2,.cons r1 r2,q2⟩
noncomputable def z6q (t : TA) : TE:=fun σ H Q=>t σ H fun xs H1=>xs.length <= sizeLine /\ ∀ p,H1 p = none -> Q (.ref p) (upd H1 p (.tup xs))
noncomputable def z4y (t : TA) : TE:=fun σ H Q=>t σ H fun xs H1=>xs.length <= sizeLine /\ ∀ p,H1 p = none -> Q (.ref p) (upd H1 p (.lst xs))
theorem zzb {x1} (h : PA X es t) : PE X (.Tuple es x1 pos) (z6q t):=by
 intro pins s σ H Q I hq
 refine wpAny_Tuple_spliced (thn (h pos pins s σ H _ I hq) fun us s1 ⟨xs,H1,I1,r,z,q⟩=>⟨by rw [<- r.length]; exact z,?_⟩)
 have hf : H1 s1.heap.objs.size = none:=I1.hok.fresh (Nat.le_refl _)
 refine ⟨.ref s1.heap.objs.size,upd H1 s1.heap.objs.size (.tup xs),I1.laid (t':=s1.toks) (fun b u e=>Heap.get?_push_of_some _ e) (Nat.le_refl _) ?_,rfl,q _ hf⟩
 exact ⟨z,us,r,⟨_,Heap.get?_push_size _ rfl,rfl,_,rfl⟩⟩
theorem zsu (h : PA X es t) : PE X (.List es pos) (z4y t):=by
 intro pins s σ H Q I hq
 refine wpAny_List_spliced (thn (h pos pins s σ H _ I hq) fun us s1 ⟨xs,H1,I1,r,z,q⟩=>⟨by rw [<- r.length]; exact z,?_⟩)
 have hf : H1 s1.heap.objs.size = none:=I1.hok.fresh (Nat.le_refl _)
 refine ⟨.ref s1.heap.objs.size,upd H1 s1.heap.objs.size (.lst xs),I1.laid (t':=s1.toks) (fun b u e=>Heap.get?_push_of_some _ e) (Nat.le_refl _) ?_,rfl,q _ hf⟩
 exact ⟨z,us,0,r,Heap.get?_push_size _ rfl⟩
end
noncomputable abbrev Sp:=List V -> Hp -> VK -> XK -> Prop
noncomputable abbrev CXT:=List Env -> Hp -> Shared -> XK -> Value -> Shared -> Prop
structure zir (P : Program) (w : World) (K : PySem.W.Frag) (mg : Str -> Option Value) (base : Heap) (A : Around) (outer : List Env) (s : Shared) (H : Hp) : Prop where
 frames : A.frames = some outer
 mod : Mod K mg base
 bs : ∀ b o,base.get? b = some o -> s.heap.get? b = some o /\ H b = none
 bsz : base.objs.size <= s.heap.objs.size
 funs : s.heap.FunFrames base outer
 frf : ∀ b ∈ frs outer,H b = none
 hok : HOk P w H s.heap
 bare : AllBare s.gens
noncomputable def CE (outer : List Env) (P : Program) (w : World) (H : Hp) (s : Shared) (Q : VK) (u : Value) (s' : Shared) : Prop :=
 ∃ v H',s'.os = s.os /\ AllBare s'.gens /\ Un (frs outer) [] H H' s.heap s'.heap /\ HOk P w H' s'.heap /\ za6 v u /\ Q v H'
noncomputable def CR (CX : CXT) (outer : List Env) (P : Program) (w : World) (H : Hp) (s : Shared) (Q : VK) (E : XK) (r : Result) (s' : Shared) : Prop :=
 match r with
 | .ok (.ret u)=>CE outer P w H s Q u s'
 | .ok _=>False
 | .error e=>CX outer H s E e s'
structure zax (P : Program) (w : World) (K : PySem.W.Frag) (mg : Str -> Option Value) (base : Heap) (CX : CXT) (k : Nat) (f : Addr) (fd : FuncData) (ps : List Str) (sp : Sp) : Prop where
 len : ∀ vs H Q E,sp vs H Q E -> vs.length = ps.length
 run : ∀ (A : Around) (outer : List Env) (s : Shared) (H : Hp) (args : Args) (us : List Value) (vs : List V) (Q : VK) (E : XK),zce k A -> zir P w K mg base A outer s H -> BindsTo s fd args (ps.zip us) -> za8 vs us -> sp vs H Q E ->
  codeAny (model P w) A (.call (.ref f) args) (CR CX outer P w H s Q E) s
theorem zax.imp {P : Program} {w : World} {K : PySem.W.Frag} {mg : Str -> Option Value} {base : Heap} {CX : CXT} {k : Nat} {f : Addr} {fd : FuncData} {ps : List Str} {sp sp' : Sp} (F : zax P w K mg base CX k f fd ps sp)
  (h : ∀ vs H Q E,sp' vs H Q E -> sp vs H Q E) : zax P w K mg base CX k f fd ps sp' :=
 ⟨fun vs H Q E q=>F.len vs H Q E (h _ _ _ _ q),fun A outer s H args us vs Q E hr he hb hv hs=>F.run A outer s H args us vs Q E hr he hb hv (h _ _ _ _ hs)⟩
theorem zir.make {P : Program} {w : World} {K : PySem.W.Frag} {mg : Str -> Option Value} {base : Heap} {A : Around} {outer : List Env} {s : Shared} {H : Hp} (e : zir P w K mg base A outer s H) (C : Addr) (us : List Value) (kw : List (Str × Value)) :
  zir P w K mg base (A.under (.builtin "type.__call__" ⟨.ref C :: us,kw⟩)) outer s H:=⟨by first | exact e.frames | (simpa [Around.under,Code.envs,Code.isFrame,pushEnvs] using e.frames),e.mod,e.bs,e.bsz,e.funs,e.frf,e.hok,e.bare⟩
section
variable {X : Cx} {pins : List (Addr × Obj)} {σ : St} {H : Hp} {s s' : Shared}
theorem Inv.env0 (I : Inv X pins σ H s) : zir X.prog X.w X.K X.mg X.base X.A X.stack s H :=
 ⟨I.ok.frames,I.ok.mod,I.bs,Nat.le_trans I.ok.bsz I.sz,I.stack,I.stkFree,I.hok,I.bare⟩
theorem Inv.after {Q : VK} {u : Value} (I : Inv X pins σ H s) (h : CE X.stack X.prog X.w H s Q u s') : EP X pins σ Q u s':=by
 obtain ⟨v,H',os,bare,un,hok,r,q⟩:=h
 obtain ⟨hh,g,d,t,os'⟩:=s'
 obtain rfl : os' = s.os:=os
 exact ⟨v,H',I.call (h':=hh) (g':=g) (d':=d) (t':=t) (ch:=[]) un hok bare (fun b z=>absurd z (by simp)),r,q⟩
end
noncomputable def z2r (sp : Sp) (dvs : List V) (E : XK) (t : TA) : TE:=fun σ H Q=>t σ H fun vs H1=>sp (vs ++ dvs) H1 Q E
noncomputable def zyg (C : Addr) (m : Str) (sp : Sp) (dvs : List V) (E : XK) (ta : TE) (t : TA) : TE:=fun σ H Q=>ta σ H fun x H1=>∃ a dx fs,x = .ref a /\ H1 a = some (.ins C dx fs) /\ fs.lookup m = none /\
 t σ H1 fun vs H2=>sp (x :: (vs ++ dvs)) H2 Q E
noncomputable def z8m (C : Addr) (sp : Sp) (dvs : List V) (E : XK) (t : TA) : TE:=fun σ H Q=>t σ H fun vs H1=>∀ x dx,H1 x = none -> H1 dx = none -> dx ≠ x ->
 sp (.ref x :: (vs ++ dvs)) (upd (upd H1 dx (.own x)) x (.ins C dx [])) (fun v H2=>v = .non /\ Q (.ref x) H2) E
noncomputable def za2 (K : PySem.W.Frag) (fd : FuncData) (ps : List Str) (ds : List Value) : Prop :=
 ∀ (s : Shared) (us : List Value),K.In s.heap -> (us ++ ds).length = ps.length -> BindsTo s fd ⟨us,[]⟩ (ps.zip (us ++ ds))
theorem za2.all {K : PySem.W.Frag} {fd : FuncData} {ps : List Str} (h : ∀ us : List Value,us.length = ps.length -> bindArgs fd ⟨us,[]⟩ = pure (ps.zip us)) : za2 K fd ps []:=fun s us _ hl=>by
 rw [List.append_nil] at hl ⊢
 exact .of_eq (h us hl)
noncomputable def zi6 (CX : CXT) (X : Cx) (E : XK) : Prop:=∀ (pins : List (Addr × Obj)) (σ : St) (H : Hp) (s : Shared) (e : Value) (s' : Shared),Inv X pins σ H s -> CX X.stack H s E e s' -> X.xe e s'
section
variable {X : Cx} {CX : CXT} {k : Nat} {f C : Addr} {fd : FuncData} {ps : List Str} {sp : Sp} {dvs : List V} {ds : List Value} {E : XK} {x m : Str} {p pos apos : Pos} {e o : Expr} {es : List Expr} {ta : TE} {t : TA}
theorem zvx {pins : List (Addr × Obj)} {σ : St} {H : Hp} {s : Shared} {Q : VK} {us : List Value} {vs : List V} (F : zax X.prog X.w X.K X.mg X.base CX k f fd ps sp) (hr : zce k X.A) (hb : za2 X.K fd ps ds) (hd : za8 dvs ds) (hx : zi6 CX X E)
  (I : Inv X pins σ H s) (r : za8 vs us) (h : sp (vs ++ dvs) H Q E) : wpAny (model X.prog X.w) X.A (call (.ref f) us) (EP X pins σ Q) X.xe s:=by
 have r2 : za8 (vs ++ dvs) (us ++ ds):=r.append hd
 have hl : (us ++ ds).length = ps.length:=by rw [<- r2.length]; exact F.len _ _ _ _ h
 refine wpAny_call (codeAny_mono (F.run X.A X.stack s H ⟨us,[]⟩ (us ++ ds) (vs ++ dvs) Q E hr I.env0 (hb s us I.kIn hl) r2 h) fun r s' hq=>?_)
 cases r with
 | error e=>exact hx pins σ H s e s' I hq
 | ok fl =>
  cases fl with
  | ret u=>exact I.after hq
  | next=>exact False.elim hq
  | brk=>exact False.elim hq
  | cont=>exact False.elim hq
theorem zik (F : zax X.prog X.w X.K X.mg X.base CX k f fd ps sp) (hr : zce k X.A) (hg : Gl X x) (hm : X.mg x = some (.ref f)) (hk : PySem.W.keepIn X.K (.ref f) = true) (hb : za2 X.K fd ps ds) (hd : za8 dvs ds) (hx : zi6 CX X E)
  (ha : PA X (e :: es) t) (hdb : (x == ("__debug__" : Str)) = false:=by decide) (he : starEach (e :: es) X.env = (false,eval e X.env) :: starEach es X.env:=by rfl) (hpl : (backTo pos (starEach es X.env)).any (·.1) = false:=by rfl) :
  PE X (.Call (.Name x p) (e :: es) [] pos) (z2r sp dvs E t):=by
 intro pins s σ H Q I h
 refine wpAny_Call_Name_kw (zuj I hg hm ?_ hdb)
 refine PySem.W.callWith_K (h₀:=X.base) I.ok.mod.kin hk (thn (ha pos pins s σ H _ I h) fun us s1 ⟨vs,H1,I1,r,q⟩=>⟨I1.kIn,?_⟩) he hpl
 exact zvx F hr hb hd hx I1 r q
theorem z5t {pl : Sem Bool} (he : PE X o ta) (c : Cls X.K C) (hm : zdv X.K C m f) (F : zax X.prog X.w X.K X.mg X.base CX k f fd ps sp) (hr : zce k X.A) (hb : za2 X.K fd ps ds) (hd : za8 dvs ds) (hx : zi6 CX X E) (ha : PA X (e :: es) t)
  (hst : starEach (e :: es) X.env = (false,eval e X.env) :: starEach es X.env:=by rfl) (hpl : (backTo pos (starEach es X.env)).any (·.1) = false:=by rfl)
  (ht : eval (.Call (.Attribute o m apos) (e :: es) [] pos) X.env = (do
   let ov <- eval o X.env
   standAt apos.atName
   let (f,first) <- holding [ov] (getMethod ov m pl)
   callWith pos f first (backTo pos (starEach (e :: es) X.env)) (backToKw pos (keywordEach [] X.env))):=by rfl) :
  PE X (.Call (.Attribute o m apos) (e :: es) [] pos) (zyg C m sp dvs E ta t):=by
 intro pins s σ H Q I h
 refine PySem.W.methodCall_KW (pl:=pl) (thn (he pins s σ H _ I h) fun u s1 ⟨x,H1,I1,rx,a,dx,fs,ex,ea,l,q⟩=>?_) ht
 subst ex
 obtain rfl : u = Value.ref a:=rx
 refine zwm I1 ea c hm l ?_
 refine PySem.W.callWith_K (first:=[.ref a]) (h₀:=X.base) I.ok.mod.kin hm.kp (thn (ha pos pins s1 σ H1 _ I1 q) fun us s2 ⟨vs,H2,I2,r,q2⟩=>⟨I2.kIn,?_⟩) hst hpl
 exact zvx (us:=.ref a :: us) (vs:=.ref a :: vs) F hr hb hd hx I2 (.cons rfl r) q2
structure Mk (K : PySem.W.Frag) (C f : Addr) : Prop where
 makes : PySem.W.makesIn K C = true
 init : PySem.W.findIn K (.ref C) "__init__" = some (some (.ref f))
 fn : PySem.W.isFn K (.ref f) = true
 kp : PySem.W.keepIn K (.ref C) = true
theorem z0k {pins : List (Addr × Obj)} {σ : St} {H : Hp} {s : Shared} {Q : VK} {us : List Value} {vs : List V} (M : Mk X.K C f) (F : zax X.prog X.w X.K X.mg X.base CX k f fd ps sp) (hr : zce (k + 1) X.A) (hb : za2 X.K fd ps ds) (hd : za8 dvs ds)
  (hx : zi6 CX X E) (I : Inv X pins σ H s) (r : za8 vs us)
  (h : ∀ x dx,H x = none -> H dx = none -> dx ≠ x -> sp (.ref x :: (vs ++ dvs)) (upd (upd H dx (.own x)) x (.ins C dx [])) (fun v H2=>v = .non /\ Q (.ref x) H2) E) :
  wpAny (model X.prog X.w) X.A (call (.ref C) us) (EP X pins σ Q) X.xe s:=by
 have hq:=h (s.heap.objs.size + 1) s.heap.objs.size (I.hok.fresh (Nat.le_succ _)) (I.hok.fresh (Nat.le_refl _)) (Nat.ne_of_lt (Nat.lt_succ_self _))
 have I2:=Inv.made (C:=C) I
 have r2 : za8 (V.ref (s.heap.objs.size + 1) :: (vs ++ dvs)) (Value.ref (s.heap.objs.size + 1) :: (us ++ ds)):=.cons rfl (r.append hd)
 have hl : (Value.ref (s.heap.objs.size + 1) :: us ++ ds).length = ps.length:=by
  have e:=r2.length
  rw [F.len _ _ _ _ hq] at e
  exact e.symm
 refine wpAny_call (zww (f:=f) I.kIn M.makes M.init (beq_iff_eq.mp M.fn) (codeAny_mono (F.run _ X.stack _ _ ⟨Value.ref (s.heap.objs.size + 1) :: us,[]⟩ (Value.ref (s.heap.objs.size + 1) :: (us ++ ds)) _ _ E (hr.make C us [])
  (I2.env0.make C us []) (hb _ (Value.ref (s.heap.objs.size + 1) :: us) I2.kIn hl) r2 hq) fun r s' hq'=>?_))
 cases r with
 | error e=>exact hx pins σ _ _ e s' I2 hq'
 | ok fl =>
  cases fl with
  | ret u =>
   obtain ⟨v,H',I3,rv,ev,q3⟩:=I2.after hq'
   subst ev
   exact ⟨rv,⟨V.ref (s.heap.objs.size + 1),H',I3,rfl,q3⟩⟩
  | next=>exact False.elim hq'
  | brk=>exact False.elim hq'
  | cont=>exact False.elim hq'
theorem z81 (M : Mk X.K C f) (F : zax X.prog X.w X.K X.mg X.base CX k f fd ps sp) (hr : zce (k + 1) X.A) (hg : Gl X x) (hm : X.mg x = some (.ref C)) (hb : za2 X.K fd ps ds) (hd : za8 dvs ds) (hx : zi6 CX X E)
  (ha : PA X (e :: es) t) (hdb : (x == ("__debug__" : Str)) = false:=by decide) (he : starEach (e :: es) X.env = (false,eval e X.env) :: starEach es X.env:=by rfl) (hpl : (backTo pos (starEach es X.env)).any (·.1) = false:=by rfl) :
  PE X (.Call (.Name x p) (e :: es) [] pos) (z8m C sp dvs E t):=by
 intro pins s σ H Q I h
 refine wpAny_Call_Name_kw (zuj I hg hm ?_ hdb)
 refine PySem.W.callWith_K (h₀:=X.base) I.ok.mod.kin M.kp (thn (ha pos pins s σ H _ I h) fun us s1 ⟨vs,H1,I1,r,q⟩=>⟨I1.kIn,?_⟩) he hpl
 exact z0k M F hr hb hd hx I1 r q
end
section
variable {X : Cx} {CX : CXT} {k : Nat} {f C : Addr} {fd : FuncData} {ps ks : List Str} {sp : Sp} {E : XK} {x m : Str} {p pos apos kpos : Pos} {e o : Expr} {es : List Expr} {kws : List Keyword} {te ta : TE} {t tk : TA} {nm : Option Str}
variable {g : List Value -> List Value -> List Value} {gV : List V -> List V -> List V}
end
structure zba (N P : List Str) (sc : Scope) : Prop where
 kind : sc.kind = .function
 co : sc.isCoroutine = false
 gen : sc.isGenerator = false
 nd : N.Nodup
 pre : N.take P.length = P
 par : ∀ x ∈ P,sc.names.lookup x = some .local \/ sc.names.lookup x = some .cell
 nofree : ∀ y ∈ sc.names,y.2 ≠ .free
theorem zva {kindOf : Str -> Option NameKind} {x : Str} : ∀ {binds : List (Str × Value)} {m : Str -> Option Value},(∀ v,(x,v) ∉ binds) -> bindL kindOf binds m x = m x
 | [],_,_=>rfl
 | (n,v) :: r,m,h=>by
  unfold bindL
  rw [zva fun w hw=>h w (List.mem_cons_of_mem _ hw)]
  split
  ·have : x ≠ n:=by rintro rfl; exact h v List.mem_cons_self
   simp [this]
  ·rfl
theorem zue {kindOf : Str -> Option NameKind} {x : Str} : ∀ {binds : List (Str × Value)} {m : Str -> Option Value},(∀ v,(x,v) ∉ binds) -> bindC kindOf binds m x = m x
 | [],_,_=>rfl
 | (n,v) :: r,m,h=>by
  unfold bindC
  rw [zue fun w hw=>h w (List.mem_cons_of_mem _ hw)]
  split
  ·rfl
  ·have : x ≠ n:=by rintro rfl; exact h v List.mem_cons_self
   simp [this]
theorem zv9 {kindOf : Str -> Option NameKind} {x : Str} {v : Value} : ∀ {P : List Str} {vs : List Value} {i : Nat} {m : Str -> Option Value},P.Nodup -> P[i]? = some x -> vs[i]? = some v -> kindOf x = some .local ->
  bindL kindOf (P.zip vs) m x = some v
 | [],_,_,_,_,h,_,_=>by simp at h
 | _ :: _,[],_,_,_,_,h,_=>by simp at h
 | p :: P,w :: vs,0,m,nd,h1,h2,hk=>by
  simp at h1 h2; subst h1; subst h2
  show bindL kindOf ((p,w) :: P.zip vs) m p = _
  unfold bindL
  rw [zva fun v hv=>(List.nodup_cons.mp nd).1 (List.of_mem_zip hv).1,if_pos hk]
  simp
 | p :: P,w :: vs,i + 1,m,nd,h1,h2,hk=>by
  show bindL kindOf ((p,w) :: P.zip vs) m x = _
  unfold bindL
  exact zv9 (i:=i) (List.nodup_cons.mp nd).2 (by simpa using h1) (by simpa using h2) hk
theorem ztw {kindOf : Str -> Option NameKind} {x : Str} {v : Value} : ∀ {P : List Str} {vs : List Value} {i : Nat} {m : Str -> Option Value},P.Nodup -> P[i]? = some x -> vs[i]? = some v -> kindOf x ≠ some .local ->
  bindC kindOf (P.zip vs) m x = some v
 | [],_,_,_,_,h,_,_=>by simp at h
 | _ :: _,[],_,_,_,_,h,_=>by simp at h
 | p :: P,w :: vs,0,m,nd,h1,h2,hk=>by
  simp at h1 h2; subst h1; subst h2
  show bindC kindOf ((p,w) :: P.zip vs) m p = _
  unfold bindC
  rw [zue fun v hv=>(List.nodup_cons.mp nd).1 (List.of_mem_zip hv).1,if_neg hk]
  simp
 | p :: P,w :: vs,i + 1,m,nd,h1,h2,hk=>by
  show bindC kindOf ((p,w) :: P.zip vs) m x = _
  unfold bindC
  exact ztw (i:=i) (List.nodup_cons.mp nd).2 (by simpa using h1) (by simpa using h2) hk
noncomputable def start (N : List Str) (vs : List V) : St:=vs.map some ++ List.replicate (N.length - vs.length) none
noncomputable def zgb (CX : CXT) (P : Program) (w : World) (K : PySem.W.Frag) (mg : Str -> Option Value) (base : Heap) (N : List Str) (qual : Str) (scope : Scope) (f : Addr) (cd : Value) (A : Around) (outer : List Env) (s : Shared) (H : Hp) (E : XK) : Cx where
 prog:=P
 w:=w
 K:=K
 mg:=mg
 base:=base
 A:=A.deeper (envOfC qual scope s.heap.objs.size f cd)
 N:=N
 s₀:=s
 H₀:=H
 env:=envOfC qual scope s.heap.objs.size f cd
 outer:=outer
 stack:=envOfC qual scope s.heap.objs.size f cd :: outer
 ex:=[]
 calm:=true
 fn:=fun _=>true
 pn:=[]
 xe:=fun e s'=>wpAny (model P w) (A.deeper (envOfC qual scope s.heap.objs.size f cd)) (leaving (envOfC qual scope s.heap.objs.size f cd) e) (fun _ s''=>CX outer H s E e s'') (fun e' s''=>CX outer H s E e' s'') s'
theorem zto {sc : Scope} {n : Nat} {x : Str} (h : sc.names.lookup x = some .cell) : ∃ c,(cellsFrom n sc.names []).lookup x = some c:=by
 have q:=PySem.W.cellsFrom_some sc.names n [] (.inl h)
 exact Option.isSome_iff_exists.mp q
theorem z25 {CX : CXT} {P : Program} {w : World} {K : PySem.W.Frag} {mg : Str -> Option Value} {base : Heap} {N ps : List Str} {qual : Str} {scope : Scope} {f : Addr} {cd : Value} {A : Around} {outer : List Env} {s s1 : Shared} {H : Hp} {E : XK} {us : List Value} {vs : List V}
  (S : zba N ps scope) (hd : A.handled = none) (e0 : zir P w K mg base A outer s H) (hl : vs.length = ps.length) (r : za8 vs us)
  (x : InCallC s s.heap.objs.size (bindL (envOfC qual scope s.heap.objs.size f cd).kindOf (ps.zip us) fun _=>none) (cellsFrom (s.heap.objs.size + 1) scope.names []) (bindC (envOfC qual scope s.heap.objs.size f cd).kindOf (ps.zip us) fun _=>none) s1) :
  Inv (zgb CX P w K mg base N qual scope f cd A outer s H E) [] (start N vs) H s1:=by
 have hpl : ps.length <= N.length:=by have:=congrArg List.length S.pre; rw [List.length_take] at this; omega
 obtain ⟨h1,tk,rfl,hk⟩:=x.done
 have noA : ∀ b : Addr,b ∉ (zgb CX P w K mg base N qual scope f cd A outer s H E).ex:=fun b z=>absurd (show b ∈ ([] : List Addr) from z) (by simp)
 refine ⟨⟨e0.mod,S.kind,rfl,rfl,Nat.le_refl _,fun y z c h1 h2=>?_,fun y hy=>?_,fun y c _ h=>?_,fun _=>hd,Around.frames_deeper e0.frames,.inr ⟨rfl,rfl⟩,fun b z=>absurd z (noA b),e0.bs,e0.bsz,fun b _ _=>noA b,fun b z=>absurd z (noA b),e0.funs,e0.frf⟩,
  rfl,e0.bare,Un.kept hk,⟨_,x.toInCall.ns,fun i y v h1 h2 h3=>?_⟩,fun y c h=>⟨_,x.cell y c h⟩,e0.hok.fresh (Nat.le_refl _),fun y c h=>?_,fun p hp=>absurd (show p ∈ ([] : List (Addr × Obj)) from hp) (by simp),e0.hok.kept hk,?_⟩
 ·exact name_of_addr x.apart (PySem.mem_of_lookup h1) (PySem.mem_of_lookup h2)
 ·have hy : scope.names.lookup y = some .cell \/ scope.names.lookup y = some .free:=hy
  rcases hy with hy | hy
  ·exact zto hy
  ·exact absurd rfl (S.nofree _ (PySem.mem_of_lookup hy))
 ·exact Nat.le_of_lt (x.above y c (PySem.mem_of_lookup h))
 ·have hi : i < vs.length:=by
   unfold start at h2
   by_cases hi : i < vs.length
   ·exact hi
   ·rw [List.getElem?_append_right (by simpa using hi)] at h2
    rw [List.getElem?_replicate] at h2
    split at h2 <;> cases h2
  have ha : vs[i]? = some v:=by
   unfold start at h2
   rw [List.getElem?_append_left (by simpa using hi),List.getElem?_map] at h2
   cases e : vs[i]? with
   | none=>rw [e] at h2; cases h2
   | some a=>rw [e] at h2; cases h2; rfl
  obtain ⟨u,hu,rv⟩:=r.get ha
  have hp : ps[i]? = some y:=by
   rw [<- S.pre,List.getElem?_take_of_lt (by omega)]; exact h1
  have ndP : ps.Nodup:=by rw [<- S.pre]; exact S.nd.sublist (List.take_sublist _ _)
  refine ⟨u,rv,?_⟩
  rcases S.par y (List.mem_of_getElem? hp) with k | k
  ·exact .inl ⟨k,zv9 ndP hp hu k⟩
  ·obtain ⟨c,e⟩:=zto (n:=s.heap.objs.size + 1) k
   refine .inr ⟨.inl k,c,e,?_⟩
   have q:=x.cell y c e
   rw [ztw ndP hp hu (by show scope.names.lookup y ≠ _; rw [k]; decide)] at q
   exact q
 ·exact e0.hok.fresh (Nat.le_of_lt (x.above y c (PySem.mem_of_lookup h)))
 ·unfold start
  show _ = N.length
  rw [List.length_append,List.length_map,List.length_replicate]
  omega
theorem z5p {CX : CXT} {P : Program} {w : World} {K : PySem.W.Frag} {mg : Str -> Option Value} {base : Heap} {k : Nat} {f : Addr} {name qual : Str} {params : Arguments} {body : List Stmt} {scope : Scope} {dV kV doc pm cdv ct oc : Value} {an od : Option Addr}
  {osl : Array (Option Value)} {N ps : List Str} {sp : Sp} (lk : K.lookup f = some ⟨oc,od,.func (PySem.W.fnOf name qual params body scope dV kV doc pm an cdv ct),osl⟩) (hcd : PySem.W.codeIn K cdv qual = true) (S : zba N ps scope)
  (len : ∀ vs H Q E,sp vs H Q E -> vs.length = ps.length)
  (hbody : ∀ (A : Around) (outer : List Env) (s : Shared) (H : Hp) (vs : List V) (Q : VK) (E : XK),zce k (A.deeper (envOfC qual scope s.heap.objs.size f cdv)) -> sp vs H Q E ->
   ∃ t,PSs (zgb CX P w K mg base N qual scope f cdv A outer s H E) body t /\ t { nx:=fun _ H'=>Q .non H',rt:=Q } (start N vs) H) :
  zax P w K mg base CX (k + 1) f (PySem.W.fnOf name qual params body scope dV kV doc pm an cdv ct) ps sp:=by
 refine ⟨len,fun A outer s H args us vs Q E hr e0 hb r hsp=>?_⟩
 have hl:=len _ _ _ _ hsp
 have KX : K.In s.heap:=e0.mod.kin.keeps fun b o e=>(e0.bs b o e).1
 have lim : s.heap.NoLimit:=e0.mod.nolimit.keeps fun b o e=>(e0.bs b o e).1
 have hkind : ∀ y ∈ ps.zip us,scope.names.lookup y.1 = some .local \/ (scope.names.lookup y.1 = some .cell /\ ((cellsFrom (s.heap.objs.size + 1) scope.names []).lookup y.1).isSome = true):=fun ⟨n,v⟩ hy=>by
  rcases S.par n (List.of_mem_zip hy).1 with q | q
  ·exact .inl q
  ·exact .inr ⟨q,PySem.W.cellsFrom_some _ _ _ (.inl q)⟩
 refine codeAny_call_function hr.depth (KX _ _ lk) rfl S.co S.gen rfl (PySem.W.codeRec_of KX hcd) (hb _ _ _ _ ?_)
 refine wpAny_newFunctionEnv_cells S.kind hkind fun env he s1 x=>?_
 subst he
 refine ⟨lim.keeps x.toInCall.keep,codeAny_func ?_⟩
 obtain ⟨t,ht,hq⟩:=hbody A outer s H vs Q E (hr.deeper _) hsp
 have I : Inv (zgb CX P w K mg base N qual scope f cdv A outer s H E) [] (start N vs) H s1:=z25 S hr.hd e0 hl r x
 refine wpAny_mono (ht [] s1 (start N vs) H _ I hq) (fun fl s' hs=>?_) fun e s' hs=>hs
 have fin : ∀ {σ' : St} {H' : Hp} {v : V} {u : Value},Inv (zgb CX P w K mg base N qual scope f cdv A outer s H E) [] σ' H' s' -> za6 v u -> Q v H' -> CE outer P w H s Q u s' :=
  fun {σ' H' v u} J rv q=>⟨v,H',J.os,J.bare,J.base,J.hok,rv,q⟩
 cases fl with
 | ret u =>
  obtain ⟨v,σ',H',J,rv,q⟩:=hs
  exact fin J rv q
 | next =>
  obtain ⟨σ',H',J,q⟩:=hs
  exact fin (v:=V.non) (u:=Value.none) J rfl q
 | brk =>
  obtain ⟨_,_,_,q⟩:=hs
  exact False.elim q
 | cont =>
  obtain ⟨_,_,_,q⟩:=hs
  exact False.elim q
section
variable {X : Cx} {x : Str} {p pos : Pos} {e : Expr} {es : List Expr} {t : TA} {id T : String} {r : List V -> Hp -> VK -> Prop}
noncomputable def tCB (r : List V -> Hp -> VK -> Prop) (t : TA) : TE:=fun σ H Q=>t σ H fun vs H1=>r vs H1 Q
theorem zv0 (hc : zf6 X (.builtin id) r) (hg : Gl X x) (hm : X.mg x = none) (hv : bootBuiltins x = some (.builtin id)) (ha : PA X (e :: es) t) (hn : x ≠ "__name__":=by decide) (hdb : (x == ("__debug__" : Str)) = false:=by decide)
  (he : starEach (e :: es) X.env = (false,eval e X.env) :: starEach es X.env:=by rfl) (hpl : (backTo pos (starEach es X.env)).any (·.1) = false:=by rfl) : PE X (.Call (.Name x p) (e :: es) [] pos) (tCB r t):=by
 intro pins s σ H Q I h
 refine wpAny_Call_Name_kw (zg7 I hg hm hv ?_ hn hdb)
 exact PyProof.Rows.callWith_builtin1 (thn (ha pos pins s σ H _ I h) fun us s1 ⟨vs,H1,I1,r1,q1⟩=>hc pins s1 σ H1 vs us Q I1 r1 q1) he hpl
theorem z1q (hc : zf6 X (.type T) r) (hg : Gl X x) (hm : X.mg x = none) (hv : bootBuiltins x = some (.type T)) (ha : PA X (e :: es) t) (hn : x ≠ "__name__":=by decide) (hdb : (x == ("__debug__" : Str)) = false:=by decide)
  (he : starEach (e :: es) X.env = (false,eval e X.env) :: starEach es X.env:=by rfl) (hpl : (backTo pos (starEach es X.env)).any (·.1) = false:=by rfl) : PE X (.Call (.Name x p) (e :: es) [] pos) (tCB r t):=by
 intro pins s σ H Q I h
 refine wpAny_Call_Name_kw (zg7 I hg hm hv ?_ hn hdb)
 exact PyProof.Rows.callWith_type1 (thn (ha pos pins s σ H _ I h) fun us s1 ⟨vs,H1,I1,r1,q1⟩=>hc pins s1 σ H1 vs us Q I1 r1 q1) he hpl
end
end L2
namespace HT
open PySem PyProof.Rows
section
open PySem.SeqAt
open PySem.AutoSeq1 (wpAny_loadPart')
open PySem.MeetsSeq PySem.MeetsSeq2 PySem.MeetsSeq3
end
section
variable {prog : Program} {w : World} {A : Around} {E : Value -> Shared -> Prop} {s : Shared}
noncomputable def sIx (n d : Nat) : Option Int -> Nat
 | none=>d
 | some v=>if v < 0 then (v + (n : Int)).toNat else min v.toNat n
theorem sIx_nat (n d k : Nat) : sIx n d (some (k : Int)) = min k n:=by
 show (if (k : Int) < 0 then ((k : Int) + (n : Int)).toNat else min (k : Int).toNat n) = min k n
 rw [if_neg (by omega),Int.toNat_natCast]
end
end HT
namespace L2
open PySem PySem.Spec PyProof.Rows
noncomputable abbrev TO:=St -> Hp -> (Option Int -> Hp -> Prop) -> Prop
noncomputable def PO (X : Cx) (e : Option Expr) (t : TO) : Prop :=
 ∀ (pins : List (Addr × Obj)) (s : Shared) (σ : St) (H : Hp) (Q : Option Int -> Hp -> Prop),Inv X pins σ H s -> t σ H Q ->
  wpAny (model X.prog X.w) X.A (evalPart e X.env) (fun u s'=>∃ o H',Inv X pins σ H' s' /\ IsPart u o /\ Q o H') X.xe s
noncomputable def z43 : TO:=fun _ H Q=>Q none H
noncomputable def z74 (t : TE) : TO:=fun σ H Q=>t σ H fun x H1=>∃ i,x = .int i /\ Q (some i) H1
theorem z7t {ns : List Int} : ∀ {us : List Value},za8 (ns.map V.int) us -> IntsAre us ns:=by
 induction ns with
 | nil=>intro us r; rw [List.map_nil] at r; cases r; exact .nil
 | cons n ns ih =>
  intro us r
  rw [List.map_cons] at r
  cases r with
  | cons r1 r2 =>
   obtain ⟨t,e⟩:=r1
   subst e
   exact .cons n t (ih r2)
section
variable {X : Cx} {e : Expr} {te : TE} {lo hi : Option Expr} {tl th : TO} {pos p2 : Pos}
theorem z8u : PO X none z43:=by
 intro pins s σ H Q I h
 rw [evalPart_none]
 exact wpAny_pure ⟨none,H,I,.none,h⟩
theorem zwr (h : PE X e te) : PO X (some e) (z74 te):=by
 intro pins s σ H Q I hw
 rw [evalPart_some]
 refine thn (h pins s σ H _ I hw) fun u s1 ⟨x,H1,I1,r1,q1⟩=>?_
 obtain ⟨i,rfl,q⟩:=q1
 obtain ⟨t,rfl⟩:=r1
 exact ⟨some i,H1,I1,.int i t,q⟩
noncomputable def SlR (X : Cx) (r : V -> Option Int -> Option Int -> Hp -> VK -> Prop) : Prop :=
 ∀ (pins : List (Addr × Obj)) (s : Shared) (σ : St) (H : Hp) (x : V) (v vl vu : Value) (lo hi : Option Int) (sl : Addr) (Q : VK),Inv X pins σ H s -> za6 x v -> s.heap.IsSliceOf sl vl vu .none -> IsPart vl lo -> IsPart vu hi -> r x lo hi H Q ->
  ∃ T id,typeLookup (.type T) "__getitem__" = pure (some (.builtin id)) /\ s.TypeIs v T /\ wpAny (model X.prog X.w) X.A (getItem v (.ref sl)) (EP X pins σ Q) X.xe s
noncomputable def tSl (r : V -> Option Int -> Option Int -> Hp -> VK -> Prop) (te : TE) (tl th : TO) : TE:=fun σ H Q=>te σ H fun x H1=>tl σ H1 fun l H2=>th σ H2 fun u H3=>r x l u H3 Q
theorem z4l {r : V -> Option Int -> Option Int -> Hp -> VK -> Prop} (hr : SlR X r) (he : PE X e te) (hl : PO X lo tl) (hu : PO X hi th) : PE X (.Subscript e (.Slice lo hi none p2) pos) (tSl r te tl th):=by
 intro pins s σ H Q I h
 refine Subscript_ (thn (he pins s σ H _ I h) fun v s1 ⟨x,H1,I1,r1,q1⟩=>?_)
 refine wpAny_Slice (thn (hl pins s1 σ H1 _ I1 q1) fun vl s2 ⟨l,H2,I2,pl,q2⟩=>thn (hu pins s2 σ H2 _ I2 q2) fun vu s3 ⟨u,H3,I3,pu,q3⟩=>?_)
 rw [evalPart_none]
 refine wpAny_pure ?_
 have I4 : Inv X pins σ H3 { s3 with heap:=s3.heap.push { cls:=.type "slice",data:=.fields #[vl,vu,.none] } }:=I3.kept (t':=s3.toks) fun b ob q=>Heap.get?_push_of_some _ q
 obtain ⟨T,id,hT,ht,hg⟩:=hr pins { s3 with heap:=s3.heap.push { cls:=.type "slice",data:=.fields #[vl,vu,.none] } } σ H3 x v vl vu l u s3.heap.objs.size Q I4 r1 (Heap.IsSliceOf.new ..) pl pu q3
 show wpAny (model X.prog X.w) X.A (subscriptTail e (.Slice lo hi none p2) v (.ref s3.heap.objs.size)) (EP X pins σ Q) X.xe { s3 with heap:=s3.heap.push { cls:=.type "slice",data:=.fields #[vl,vu,.none] } }
 exact tail_any (ops:=[.ref s3.heap.objs.size,v]) ht hT hg (by with_unfolding_all rfl)
noncomputable def zhy (xs : List V) (lo hi : Option Int) : List V:=(xs.drop (HT.sIx xs.length 0 lo)).take (HT.sIx xs.length xs.length hi - HT.sIx xs.length 0 lo)
theorem zzz (xs : List V) (lo hi : Option Int) : (zhy xs lo hi).length <= xs.length:=by
 unfold zhy
 rw [List.length_take,List.length_drop]
 omega
end
noncomputable def ixN (n : Nat) (i : Int) : Option Nat:=if 0 <= i then (if i < n then some i.toNat else none) else if -(n : Int) <= i then some (i + n).toNat else none
noncomputable def atI {α : Type} (xs : List α) (i : Int) : Option α:=(ixN xs.length i).bind fun j=>xs[j]?
theorem zuw {n : Nat} {i : Int} {j : Nat} (h : ixN n i = some j) : seqIndex? i n = some j /\ j < n /\ -(n : Int) <= i /\ i < n:=by
 unfold ixN at h
 by_cases h0 : 0 <= i
 ·rw [if_pos h0] at h
  by_cases h1 : i < n
  ·rw [if_pos h1] at h
   have e : i.toNat = j:=Option.some.inj h
   exact ⟨by rw [seqIndex_of h0 h1,e],by omega,by omega,h1⟩
  ·rw [if_neg h1] at h; cases h
 ·rw [if_neg h0] at h
  by_cases h1 : -(n : Int) <= i
  ·rw [if_pos h1] at h
   have e : (i + n).toNat = j:=Option.some.inj h
   exact ⟨by rw [seqIndex_neg (by omega) h1,e],by omega,h1,by omega⟩
  ·rw [if_neg h1] at h; cases h
theorem zul {α : Type} {xs : List α} {i : Int} {v : α} (h : atI xs i = some v) : ∃ j,seqIndex? i xs.length = some j /\ xs[j]? = some v /\ j < xs.length /\ -(xs.length : Int) <= i /\ i < xs.length:=by
 unfold atI at h
 cases e : ixN xs.length i with
 | none=>rw [e] at h; cases h
 | some j =>
  rw [e] at h
  obtain ⟨h1,h2,h3,h4⟩:=zuw e
  exact ⟨j,h1,h,h2,h3,h4⟩
theorem z7n {α : Type} {xs : List α} {j : Nat} {v : α} (h : xs[j]? = some v) : atI xs (j : Int) = some v:=by
 have hj : j < xs.length:=(List.getElem?_eq_some_iff.mp h).1
 have e : ixN xs.length (j : Int) = some j:=by
  unfold ixN
  rw [if_pos (by omega),if_pos (by omega)]; simp
 unfold atI; rw [e]; exact h
noncomputable def zu7 (b : Expr) : Prop:=∀ o i,subscripted b false o i = operate [o,i] (getItem o i)
noncomputable def IxR (X : Cx) (r : R2) : Prop :=
 ∀ (value slice : Expr) (pins : List (Addr × Obj)) (s : Shared) (σ : St) (H : Hp) (x y : V) (v u : Value) (Q : VK),Inv X pins σ H s -> za6 x v -> za6 y u -> r x y H Q ->
  subscripted slice false v u = operate [v,u] (getItem v u) -> wpAny (model X.prog X.w) X.A (subscriptTail value slice v u) (EP X pins σ Q) X.xe s
noncomputable def MtR (X : Cx) (id : String) (r : V -> List V -> Hp -> VK -> Prop) : Prop :=
 ∀ (pins : List (Addr × Obj)) (s : Shared) (σ : St) (H : Hp) (x : V) (xs : List V) (v : Value) (us : List Value) (Q : VK),Inv X pins σ H s -> za6 x v -> za8 xs us -> r x xs H Q ->
  wpAny (model X.prog X.w) X.A (call (.builtin id) (v :: us)) (EP X pins σ Q) X.xe s
section
variable {X : Cx} {a b : Expr} {ta tb : TE} {pos : Pos}
theorem IxR.or {r r' : R2} (h : IxR X r) (h' : IxR X r') : IxR X (fun x y H Q=>r x y H Q \/ r' x y H Q):=by
 intro value slice pins s σ H x y v u Q I rx ry q hs
 rcases q with q | q
 ·exact h value slice pins s σ H x y v u Q I rx ry q hs
 ·exact h' value slice pins s σ H x y v u Q I rx ry q hs
theorem z5q {r : R2} (hr : IxR X r) (ha : PE X a ta) (hb : PE X b tb) (hs : zu7 b) : PE X (.Subscript a b pos) (tOp r ta tb):=by
 intro pins s σ H Q I h
 exact Subscript_ (zpy ha hb I h fun v u s2 x y H2 I2 rx ry q=>hr a b pins s2 σ H2 x y v u Q I2 rx ry q (hs _ _))
noncomputable def z72 (K : PySem.W.Frag) : R2:=fun x y H Q=>∃ p xs i v,x = .ref p /\ y = .int i /\ SqL K H p xs /\ atI xs i = some v /\ Q v H
noncomputable def zyw (K : PySem.W.Frag) : R2:=fun x y H Q=>∃ p xs i v,x = .ref p /\ y = .int i /\ SqT K H p xs /\ atI xs i = some v /\ Q v H
theorem z5l : IxR X (z72 X.K):=by
 intro value slice pins s σ H x y v u Q I rx ry h hs
 obtain ⟨p,xs,i,z,rfl,rfl,hq,he,q⟩:=h
 cases rx
 obtain ⟨t,rfl⟩:=ry
 obtain ⟨its,r,pl,hz⟩:=I.list hq
 obtain ⟨j,h1,h2,h3,h4,h5⟩:=zul he
 obtain ⟨w,ew,rw'⟩:=r.get h2
 have hl:=r.length
 have hn:=zke
 have fin : EP X pins σ Q w s:=⟨z,H,I,rw',q⟩
 by_cases h0 : 0 <= i
 ·have hj : i.toNat = j:=by
   rw [seqIndex_of h0 h5] at h1
   exact Option.some.inj h1
  exact item_listR pl.isList h0 (by omega) (by rw [hj]; simpa using ew) fin hs
 ·have hj : (i + (its.toArray.size : Int)).toNat = j:=by
   rw [seqIndex_neg (by omega) h4] at h1
   rw [List.size_toArray,<- hl]
   exact Option.some.inj h1
  exact subscriptTail_builtinR (x:=w) pl.isList.typeIs slot_list_getitem.lookup
   (wpAny_getItem_list_neg (Q:=fun r s'=>r = w /\ EP X pins σ Q r s') pl.isList (by omega) (by rw [List.size_toArray] <;> omega) (by omega) (by rw [hj]; simpa using ew) ⟨rfl,fin⟩) hs
theorem z5r : IxR X (zyw X.K):=by
 intro value slice pins s σ H x y v u Q I rx ry h hs
 obtain ⟨p,xs,i,z,rfl,rfl,hq,he,q⟩:=h
 cases rx
 obtain ⟨t,rfl⟩:=ry
 obtain ⟨its,r,pl,hz⟩:=I.tuple hq
 obtain ⟨j,h1,h2,h3,h4,h5⟩:=zul he
 obtain ⟨w,ew,rw'⟩:=r.get h2
 have hl:=r.length
 have hn:=zke
 have fin : EP X pins σ Q w s:=⟨z,H,I,rw',q⟩
 exact subscriptTail_builtinR (x:=w) pl.typeIs slot_tuple_getitem.lookup
  (getItem_tuple (j:=j) (Q:=fun r s'=>r = w /\ EP X pins σ Q r s') pl (by omega) (by omega) (by rw [List.size_toArray,<- hl]; exact h1) (by simpa using ew) ⟨rfl,fin⟩) hs
theorem z8j (its : List Value) (n j : Nat) (u : Value) : Obj.mapSeq (·.setIfInBounds j u) { cls:=.type "list",data:=.seq its.toArray n } = { cls:=.type "list",data:=.seq (its.set j u).toArray n }:=by
 simp [Obj.mapSeq]
theorem Inv.lst {pins : List (Addr × Obj)} {σ : St} {H : Hp} {s : Shared} {p : Addr} {xs : List V} (I : Inv X pins σ H s) (h : H p = some (.lst xs)) :
  ∃ (its : List Value) (n : Nat),za8 xs its /\ s.heap.get? p = some { cls:=.type "list",data:=.seq its.toArray n } /\ xs.length <= sizeLine:=by
 obtain ⟨z,its,n,r,e⟩:=I.hok p _ h
 exact ⟨its,n,r,e,z⟩
theorem Inv.lstUpd {pins : List (Addr × Obj)} {σ : St} {H : Hp} {s : Shared} {p : Addr} {xs ys : List V} {its its' : List Value} {n n' : Nat} {f : Obj -> Obj} (I : Inv X pins σ H s) (h : H p = some (.lst xs))
  (ho : s.heap.get? p = some { cls:=.type "list",data:=.seq its.toArray n }) (hf : f { cls:=.type "list",data:=.seq its.toArray n } = { cls:=.type "list",data:=.seq its'.toArray n' }) (r : za8 ys its') (hz : ys.length <= sizeLine) (t : Nat) :
  Inv X pins σ (upd H p (.lst ys)) { s with heap:=s.heap.update p f,toks:=t }:=by
 have e : (s.heap.update p f).get? p = some { cls:=.type "list",data:=.seq its'.toArray n' }:=by
  rw [Heap.get?_update_self f ho (by rw [hf] <;> rfl),hf]
 refine I.write (x:=p) (e:=p) (by rw [h]; trivial) (.inl rfl) (fun b u hb q=>(Heap.get?_update_other _ _ (Ne.symm hb)).trans q) ⟨_,e⟩ ?_
 exact ⟨hz,its',n',r,e⟩
noncomputable def ztx : V -> V -> V -> Hp -> (Hp -> Prop) -> Prop:=fun o i v H Q=>∃ p xs k j,o = .ref p /\ i = .int k /\ H p = some (.lst xs) /\ ixN xs.length k = some j /\ Q (upd H p (.lst (xs.set j v)))
theorem z9d : ztt X ztx:=by
 intro pins s σ H o i v ov iv u Q I ro ri rv h
 obtain ⟨p,xs,k,j,rfl,rfl,hp,hj,q⟩:=h
 cases ro
 obtain ⟨t,rfl⟩:=ri
 obtain ⟨its,n,r,ho,hz⟩:=I.lst hp
 obtain ⟨h1,h2,h3,h4⟩:=zuw hj
 have hl:=r.length
 have hn:=zke
 have I' : Inv X pins σ (upd H p (.lst (xs.set j v))) { s with heap:=s.heap.update p (Obj.mapSeq (·.setIfInBounds j u)) } :=
  I.lstUpd hp ho (z8j its n j u) (r.set rv j) (by rw [List.length_set]; exact hz) s.toks
 by_cases h0 : 0 <= k
 ·have hk : k.toNat = j:=by
   rw [seqIndex_of h0 h4] at h1
   exact Option.some.inj h1
  exact PySem.W.ki_setAt ho h0 (by omega) (by rw [List.size_toArray,<- hl]; exact h4) (by rw [hk]; exact ⟨_,I',q⟩)
 ·have hk : (k + (its.toArray.size : Int)).toNat = j:=by
   rw [seqIndex_neg (by omega) h3] at h1
   rw [List.size_toArray,<- hl]
   exact Option.some.inj h1
  exact PySem.W.ki_setBack ho (by omega) (by rw [List.size_toArray,<- hl]; exact h3) (by omega) (by rw [hk]; exact ⟨_,I',q⟩)
theorem zzw (lo hi : Option Int) (n : Nat) : (sliceBounds lo hi none n).1 = ((HT.sIx n 0 lo : Nat) : Int) /\ (sliceBounds lo hi none n).2.1 = ((HT.sIx n n hi : Nat) : Int) /\ (sliceBounds lo hi none n).2.2 = 1:=by
 refine ⟨?_,?_,rfl⟩
 ·cases lo with
  | none=>simp [sliceBounds,HT.sIx]
  | some i =>
   simp only [sliceBounds,HT.sIx,Option.getD_none,show (1 : Int) > 0 by decide,if_true]
   by_cases h : i < 0
   ·simp only [h,if_true] <;> omega
   ·simp only [h,if_false] <;> omega
 ·cases hi with
  | none=>simp [sliceBounds,HT.sIx]
  | some i =>
   simp only [sliceBounds,HT.sIx,Option.getD_none,show (1 : Int) > 0 by decide,if_true]
   by_cases h : i < 0
   ·simp only [h,if_true] <;> omega
   ·simp only [h,if_false] <;> omega
theorem zxn (its : List Value) (lo hi : Option Int) : slicePick its.toArray lo hi none = ((its.drop (HT.sIx its.length 0 lo)).take (HT.sIx its.length its.length hi - HT.sIx its.length 0 lo)).toArray:=by
 obtain ⟨h1,h2,h3⟩:=zzw lo hi its.toArray.size
 unfold slicePick
 rw [h1,h2,h3]
 simp only [sliceRange_one,pick_run,List.size_toArray] <;> rfl
noncomputable def z1w (K : PySem.W.Frag) : V -> Option Int -> Option Int -> Hp -> VK -> Prop:=fun x lo hi H Q=>∃ a xs,x = .ref a /\ SqL K H a xs /\ ∀ p,H p = none -> Q (.ref p) (upd H p (.lst (zhy xs lo hi)))
theorem z8p : SlR X (z1w X.K):=by
 intro pins s σ H x v vl vu lo hi sl Q I rx hs pl pu h
 obtain ⟨a,xs,rfl,hx,q⟩:=h
 cases rx
 obtain ⟨its,r,ht,hz⟩:=I.list hx
 have hlen:=r.length
 refine ⟨"list",_,slot_list_getitem.lookup,ht.isList.typeIs,?_⟩
 refine wpAny_getItem_list_slice ht.isList hs pl pu .none (by simp) ?_ (by rw [List.size_toArray] <;> omega)
 rw [zxn,<- hlen]
 refine ⟨.ref s.heap.objs.size,_,I.laid (t':=s.toks) (o:=.lst (zhy xs lo hi)) (fun b ob q=>Heap.get?_push_of_some _ q) (Nat.le_refl _) ?_,rfl,q _ (I.hok.fresh (Nat.le_refl _))⟩
 exact ⟨Nat.le_trans (zzz xs lo hi) hz,_,0,(r.drop (HT.sIx xs.length 0 lo)).take (HT.sIx xs.length xs.length hi - HT.sIx xs.length 0 lo),Heap.get?_push_size _ rfl⟩
noncomputable def zef : V -> Bool
 | .non=>true
 | .bl _=>true
 | .int _=>true
 | .str _=>true
 | _=>false
noncomputable def eqV : V -> V -> Bool
 | .non,.non=>true
 | .bl a,.bl b=>a == b
 | .bl a,.int b=>(if a then 1 else 0) == b
 | .int a,.bl b=>a == (if b then 1 else 0)
 | .int a,.int b=>a == b
 | .str a,.str b=>a == b
 | _,_=>false
theorem zvl {A : Around} {s : Shared} {y x : V} {u v : Value} (ry : za6 y u) (rx : za6 x v) (fy : zef y = true) (fx : zef x = true) : SeqAt.EqAt A s u v (eqV y x):=by
 cases y with
 | non =>
  cases ry
  cases x with
  | non=>cases rx; exact SeqAt.EqAt.same _
  | bl b=>cases rx; exact SeqAt.EqAt.none_bool b
  | int b=>obtain ⟨t,rfl⟩:=rx; exact SeqAt.EqAt.none_int b t
  | str b=>obtain ⟨t,rfl⟩:=rx; exact SeqAt.EqAt.none_str b t
  | _=>exact absurd (show false = true from fx) Bool.false_ne_true
 | bl a =>
  cases ry
  cases x with
  | non=>cases rx; exact SeqAt.EqAt.bool_none a
  | bl b=>cases rx; exact SeqAt.EqAt.bool_bool a b
  | int b=>obtain ⟨t,rfl⟩:=rx; exact SeqAt.EqAt.bool_int a b t
  | str b=>obtain ⟨t,rfl⟩:=rx; exact SeqAt.EqAt.bool_str a b t
  | _=>exact absurd (show false = true from fx) Bool.false_ne_true
 | int a =>
  obtain ⟨t',rfl⟩:=ry
  cases x with
  | non=>cases rx; exact SeqAt.EqAt.int_none a t'
  | bl b=>cases rx; exact SeqAt.EqAt.int_bool a t' b
  | int b=>obtain ⟨t,rfl⟩:=rx; exact SeqAt.EqAt.int_int a t' b t
  | str b=>obtain ⟨t,rfl⟩:=rx; exact SeqAt.EqAt.int_str a t' b t
  | _=>exact absurd (show false = true from fx) Bool.false_ne_true
 | str a =>
  obtain ⟨t',rfl⟩:=ry
  cases x with
  | non=>cases rx; exact SeqAt.EqAt.str_none a t'
  | bl b=>cases rx; exact SeqAt.EqAt.str_bool a t' b
  | int b=>obtain ⟨t,rfl⟩:=rx; exact SeqAt.EqAt.str_int a t' b t
  | str b=>obtain ⟨t,rfl⟩:=rx; exact SeqAt.EqAt.str_str a t' b t
  | _=>exact absurd (show false = true from fx) Bool.false_ne_true
 | _=>exact absurd (show false = true from fy) Bool.false_ne_true
noncomputable def eqU (x : V) (u : Value) : Bool:=match u with
 | .none=>eqV .non x
 | .bool b=>eqV (.bl b) x
 | .int i _=>eqV (.int i) x
 | .str z _=>eqV (.str z) x
 | _=>false
theorem zsv {x y : V} {u : Value} (r : za6 y u) (f : zef y = true) : eqU x u = eqV y x:=by
 cases y with
 | non=>cases r; rfl
 | bl b=>cases r; rfl
 | int i=>obtain ⟨t,rfl⟩:=r; rfl
 | str z=>obtain ⟨t,rfl⟩:=r; rfl
 | _=>exact absurd (show false = true from f) Bool.false_ne_true
theorem zrt {x : V} : ∀ {xs : List V} {us : List Value},za8 xs us -> xs.all zef = true -> us.any (eqU x) = xs.any fun y=>eqV y x
 | _,_,.nil,_=>rfl
 | y :: xs,u :: us,.cons r t,f=>by
  rw [List.all_cons,Bool.and_eq_true] at f
  rw [List.any_cons,List.any_cons,zsv r f.1,zrt t f.2]
theorem zqk {A : Around} {s : Shared} {x : V} {v : Value} (rx : za6 x v) (fx : zef x = true) : ∀ {xs : List V} {us : List Value},za8 xs us -> xs.all zef = true -> ∀ u ∈ us,SeqAt.EqAt A s u v (eqU x u)
 | _,_,.nil,_=>fun u hu=>by cases hu
 | y :: xs,u :: us,.cons r t,f=>fun u' hu=>by
  rw [List.all_cons,Bool.and_eq_true] at f
  rcases List.mem_cons.mp hu with rfl | hu
  ·rw [zsv r f.1]; exact zvl r rx f.1 fx
  ·exact zqk rx fx t f.2 u' hu
noncomputable def inV (x : V) (xs : List V) : Bool:=xs.any fun y=>eqV y x
noncomputable def rIn (K : PySem.W.Frag) (neg : Bool) : R2:=fun x y H Q=>∃ p xs,y = .ref p /\ (SqL K H p xs \/ SqT K H p xs) /\ zef x = true /\ xs.all zef = true /\ Q (.bl (if neg then !inV x xs else inV x xs)) H
theorem z66 : OpR X (compareOp .In) (rIn X.K false):=by
 intro pins s σ H x y v u Q I rx ry h
 obtain ⟨p,xs,rfl,hq,fx,fs,q⟩:=h
 cases ry
 rcases hq with hq | hq
 ·obtain ⟨its,r,pl,hz⟩:=I.list hq
  refine SeqAt.in_listAt (eqU x) pl.isList (fun w hw=>zqk rx fx r fs w (by simpa using hw)) ⟨.bl _,H,I,rfl,?_⟩
  rw [show its.toArray.any (eqU x) = its.any (eqU x) by simp,zrt r fs]
  exact q
 ·obtain ⟨its,r,pl,hz⟩:=I.tuple hq
  refine SeqAt.in_tupleAt (eqU x) pl (fun w hw=>zqk rx fx r fs w (by simpa using hw)) ⟨.bl _,H,I,rfl,?_⟩
  rw [show its.toArray.any (eqU x) = its.any (eqU x) by simp,zrt r fs]
  exact q
theorem zyj : zf6 X (.builtin "len") (fun xs H Q=>∃ p ys,xs = [.ref p] /\ (SqL X.K H p ys \/ SqT X.K H p ys) /\ Q (.int ys.length) H):=by
 intro pins s σ H xs us Q I r h
 obtain ⟨p,ys,rfl,hq,q⟩:=h
 obtain ⟨u,rfl,rx⟩:=zh6 r
 cases rx
 have hn:=zke
 rcases hq with hq | hq
 ·obtain ⟨its,r',pl,hz⟩:=I.list hq
  have hlen:=r'.length
  exact Calls.call_len_list pl.isList (by simp only [List.size_toArray] <;> omega) ⟨.int ys.length,H,I.tok _,⟨s.toks + 1,by rw [List.size_toArray,hlen]⟩,q⟩
 ·obtain ⟨its,r',pl,hz⟩:=I.tuple hq
  have hlen:=r'.length
  exact len_tuple pl (by simp only [List.size_toArray] <;> omega) ⟨.int ys.length,H,I.tok _,⟨s.toks + 1,by rw [List.size_toArray,hlen]⟩,q⟩
theorem zza : zf6 X (.builtin "len") (fun xs H Q=>∃ z,xs = [.str z] /\ z.length <= sizeLine /\ Q (.int z.length) H):=by
 intro pins s σ H xs us Q I r h
 obtain ⟨z,rfl,hz,q⟩:=h
 obtain ⟨u,rfl,t,rfl⟩:=zh6 r
 have hn:=zke
 exact len_str (by omega) ⟨.int z.length,H,I.tok _,⟨_,rfl⟩,q⟩
theorem z5m : zf6 X (.type "list") (fun xs H Q=>∃ p ys,xs = [.ref p] /\ (SqL X.K H p ys \/ SqT X.K H p ys) /\ ∀ l,H l = none -> Q (.ref l) (upd H l (.lst ys))):=by
 intro pins s σ H xs us Q I r h
 obtain ⟨p,ys,rfl,hq,q⟩:=h
 obtain ⟨u,rfl,rx⟩:=zh6 r
 cases rx
 have fin : ∀ (its : List Value),za8 ys its -> ys.length <= sizeLine -> ∀ (h' : Heap) (c' : Nat),(∀ b o',s.heap.get? b = some o' -> h'.get? b = some o') ->
   h'.get? s.heap.objs.size = some { cls:=.type "list",dict:=none,data:=.seq its.toArray c',slots:=#[] } -> EP X pins σ Q (.ref s.heap.objs.size) { s with heap:=h' }:=fun its r' hz h' c' kp e =>
  ⟨.ref s.heap.objs.size,_,I.laid (t':=s.toks) kp (Nat.le_refl _) (show zcx X.prog X.w _ h' _ (.lst ys) from ⟨hz,its,c',r',e⟩),rfl,q _ (I.hok.fresh (Nat.le_refl _))⟩
 rcases hq with hq | hq
 ·obtain ⟨its,r',pl,hz⟩:=I.list hq
  have hlen:=r'.length
  obtain ⟨o,ho,hc,n,hd⟩:=pl.isList
  exact call_list_seq p (.inl rfl) ho hc hd (fun h' c' kp e=>fin its r' hz h' c' kp e) (by simp only [List.size_toArray] <;> omega)
 ·obtain ⟨its,r',pl,hz⟩:=I.tuple hq
  have hlen:=r'.length
  obtain ⟨o,ho,hc,n,hd⟩:=pl
  exact call_list_seq p (.inr rfl) ho hc hd (fun h' c' kp e=>fin its r' hz h' c' kp e) (by simp only [List.size_toArray] <;> omega)
noncomputable def tyV (K : PySem.W.Frag) (T : String) (x : V) (H : Hp) : Prop:=match x with
 | .str _=>T = "str"
 | .int _=>T = "int"
 | .ref p=>(T = "list" /\ ∃ xs,SqL K H p xs) \/ (T = "tuple" /\ ∃ o,K.lookup p = some o /\ o.cls = .type "tuple" /\ o.dict = none) \/
   (T = "dict" /\ ((∃ kvs,H p = some (.dK kvs)) \/ ∃ kvs,H p = some (.dT kvs))) \/ (T = "set" /\ ∃ S n,H p = some (.set S n))
 | _=>False
theorem z1e {pins : List (Addr × Obj)} {σ : St} {H : Hp} {s : Shared} {T : String} {x : V} {v : Value} (I : Inv X pins σ H s) (r : za6 x v) (ty : tyV X.K T x H) :
  s.TypeIs v T /\ ∀ a,v = .ref a -> ∃ ob,s.heap.get? a = some ob /\ ob.dict = none:=by
 cases x with
 | str z =>
  obtain ⟨t,rfl⟩:=r
  cases (show T = "str" from ty)
  exact ⟨typeIs_str s z t,fun _ e=>nomatch e⟩
 | int i =>
  obtain ⟨t,rfl⟩:=r
  cases (show T = "int" from ty)
  exact ⟨typeIs_int s i t,fun _ e=>nomatch e⟩
 | ref p =>
  cases r
  rcases ty with ⟨rfl,xs,hq⟩ | ⟨rfl,o,hk,hc,hd⟩ | ⟨rfl,hk⟩ | ⟨rfl,S,n,hk⟩
  ·obtain ⟨its,_,pl,_⟩:=I.list hq
   refine ⟨pl.isList.typeIs,fun a e=>?_⟩
   cases e
   obtain ⟨o,n,e,c,hd,_⟩:=pl
   exact ⟨o,e,hd⟩
  ·refine ⟨⟨o,I.kIn p o hk,hc⟩,fun a e=>?_⟩
   cases e
   exact ⟨o,I.kIn _ o hk,hd⟩
  ·have z : ∃ o,s.heap.get? p = some o /\ o.ExactDict:=by
    rcases hk with ⟨kvs,hk⟩ | ⟨kvs,hk⟩
    ·obtain ⟨_,_,_,_,o,_,_,e,ex,_⟩:=I.hok p _ hk
     exact ⟨o,e,ex⟩
    ·obtain ⟨_,_,_,_,o,_,_,e,ex,_⟩:=I.hok p _ hk
     exact ⟨o,e,ex⟩
   obtain ⟨o,e,ex⟩:=z
   refine ⟨⟨o,e,ex.1⟩,fun a e2=>?_⟩
   cases e2
   exact ⟨o,e,ex.2.1⟩
  ·obtain ⟨o,_,_,_,e,ex,_⟩:=I.hok p _ hk
   refine ⟨⟨o,e,ex.1⟩,fun a e2=>?_⟩
   cases e2
   exact ⟨o,e,ex.2.1⟩
 | _=>exact False.elim ty
noncomputable def tBM (K : PySem.W.Frag) (T : String) (r : V -> List V -> Hp -> VK -> Prop) (to : TE) (t : TA) : TE:=fun σ H Q=>to σ H fun x H1=>tyV K T x H1 /\ t σ H1 fun xs H2=>r x xs H2 Q
variable {o e : Expr} {es : List Expr} {to : TE} {t : TA} {name : Str} {apos cpos : Pos} {T id : String} {r : V -> List V -> Hp -> VK -> Prop}
theorem zfi (pa : PlainAttrs T) (slot : Slot T name id) (hty : typeOf (.builtin id) = pure (.type "method_descriptor")) (hm : MtR X id r) (ho : PE X o to) (ha : PA X (e :: es) t)
  (hbase : attributeBase o name X.env (eval o X.env) = eval o X.env:=by rfl)
  (hfew : ((backTo cpos (starEach (e :: es) X.env)).all (fun x=>!x.1) && (backToKw cpos (keywordEach [] X.env)).all (fun x=>x.1.isSome)
   && decide ((e :: es).length + ([] : List Keyword).length + (if ([] : List Keyword).isEmpty then 0 else 1) < 30)) = true:=by rfl)
  (hline : (apos.endLine == cpos.line) = true:=by rfl) (hs : starEach (e :: es) X.env = (false,eval e X.env) :: starEach es X.env:=by rfl) (hplain : (backTo cpos (starEach es X.env)).any (·.1) = false:=by rfl) :
  PE X (.Call (.Attribute o name apos) (e :: es) [] cpos) (tBM X.K T r to t):=by
 intro pins s σ H Q I h
 refine wpAny_Call_method_late hbase hfew hline rfl (thn (ho pins s σ H _ I h) fun v s1 ⟨x,H1,I1,r1,ty,q1⟩=>?_)
 obtain ⟨h1,h2⟩:=z1e I1 r1 ty
 refine ⟨T,id,pa,slot,hty,h1,h2,?_⟩
 have hA:=ha cpos pins s1 σ H1 _ I1 q1
 rw [hs] at hA ⊢
 refine Calls.callWith_builtin (by show (false || (backTo cpos (starEach es X.env)).any (·.1)) = false; rw [hplain] <;> rfl) (Calls.evalArgs_plain ?_)
 exact thn hA fun us s2 ⟨vs,H2,I2,r2,q2⟩=>hm pins s2 σ H2 x vs v us Q I2 r1 r2 q2
end
noncomputable def MtM (X : Cx) (id : String) (r : V -> List V -> Hp -> VK -> Prop) : Prop :=
 ∀ (pins : List (Addr × Obj)) (s : Shared) (σ : St) (H : Hp) (x : V) (xs : List V) (v : Value) (us : List Value) (Q : VK),Inv X pins σ H s -> za6 x v -> za8 xs us -> r x xs H Q ->
  wpAny (model X.prog X.w) X.A (call (.builtin id) (v :: us)) (EP X pins σ Q) X.xe s
theorem za8.one : ∀ {x : V} {us : List Value},za8 [x] us -> ∃ u,us = [u] /\ za6 x u
 | _,_,.cons r .nil=>⟨_,rfl,r⟩
section
variable {X : Cx} {pins : List (Addr × Obj)} {σ : St} {H : Hp} {s : Shared} {l b : Addr} {xs ys zs : List V}
theorem Inv.lset {its its' : List Value} {n : Nat} {f : Array Value -> Array Value} {t' : Nat} (I : Inv X pins σ H s) (hH : H l = some (.lst xs))
  (e : s.heap.get? l = some { cls:=.type "list",data:=.seq its.toArray n }) (hf : f its.toArray = its'.toArray) (hv : za8 ys its') (hz : ys.length <= sizeLine) :
  Inv X pins σ (upd H l (.lst ys)) { s with heap:=s.heap.update l (Obj.mapSeq f),toks:=t' }:=by
 have q:=PySem.IsL.update e f
 rw [hf] at q
 refine I.write (x:=l) (e:=l) (by rw [hH]; exact trivial) (.inl rfl) (fun b' u hb hu=>(Heap.get?_update_other s.heap (Obj.mapSeq f) (Ne.symm hb)).trans hu) ⟨_,q⟩ ?_
 exact ⟨hz,its',_,hv,q⟩
theorem Inv.lnew {its : List Value} {t' : Nat} (I : Inv X pins σ H s) (hv : za8 ys its) (hz : ys.length <= sizeLine) :
  Inv X pins σ (upd H s.heap.objs.size (.lst ys)) { s with heap:=s.heap.push { cls:=.type "list",data:=.seq its.toArray },toks:=t' } :=
 I.laid (fun _ _ q=>Heap.get?_push_of_some _ q) (Nat.le_refl _) ⟨hz,its,0,hv,Heap.get?_push_size _ rfl⟩
theorem Inv.fresh (I : Inv X pins σ H s) : H s.heap.objs.size = none:=I.hok.fresh (Nat.le_refl _)
theorem Inv.lstM (I : Inv X pins σ H s) (hH : H l = some (.lst xs)) : xs.length <= sizeLine /\ ∃ (its : List Value) (n : Nat),za8 xs its /\ xs.length = its.length /\ s.heap.get? l = some { cls:=.type "list",data:=.seq its.toArray n }:=by
 obtain ⟨z,its,n,r,e⟩:=I.hok l _ hH
 exact ⟨z,its,n,r,r.length,e⟩
theorem zzq {n : Nat} (h : n <= sizeLine) : Builtin.List.listTooLong n = false:=by
 unfold Builtin.List.listTooLong
 exact decide_eq_false (by omega)
end
section
variable {X : Cx}
noncomputable def zq8 : V -> List V -> Hp -> VK -> Prop:=fun x vs H Q=>∃ l xs y,x = .ref l /\ vs = [y] /\ H l = some (.lst xs) /\ xs.length < sizeLine /\ Q .non (upd H l (.lst (xs ++ [y])))
theorem zgn : MtM X "list.append" zq8:=by
 intro pins s σ H x vs v us Q I rx rv h
 obtain ⟨l,xs,y,rfl,rfl,hH,hz,q⟩:=h
 cases rx
 obtain ⟨u,rfl,ru⟩:=rv.one
 obtain ⟨z,its,n,r,hl,e⟩:=I.lstM hH
 refine call_meets F.slot_list_append ⟨_,e,rfl⟩ F.entry_list_append (F.args_list_append_2 _ _) (PySem.list_append l its.toArray n u (by rw [List.size_toArray]; omega)) ⟨e,?_⟩
 refine ⟨.non,_,I.lset (its':=its ++ [u]) hH e (by simp) (r.append (.cons ru .nil)) ?_,rfl,q⟩
 rw [List.length_append,List.length_singleton]
 omega
noncomputable def zwi : V -> List V -> Hp -> VK -> Prop:=fun x vs H Q=>∃ l b xs zs,x = .ref l /\ vs = [.ref b] /\ H l = some (.lst xs) /\ H b = some (.lst zs) /\ xs.length + zs.length <= sizeLine /\ Q .non (upd H l (.lst (xs ++ zs)))
theorem ztd : MtM X "list.extend" zwi:=by
 intro pins s σ H x vs v us Q I rx rv h
 obtain ⟨l,b,xs,zs,rfl,rfl,hH,hB,hz,q⟩:=h
 cases rx
 obtain ⟨u,rfl,ru⟩:=rv.one
 cases ru
 obtain ⟨z,its,n,r,hl,e⟩:=I.lstM hH
 obtain ⟨z2,its2,n2,r2,hl2,e2⟩:=I.lstM hB
 have hsz : its.toArray.size + its2.toArray.size <= sizeLine:=by rw [List.size_toArray,List.size_toArray]; omega
 have hlong : ¬ (!its.toArray.isEmpty && Builtin.List.listTooLong (its.toArray.size + its2.toArray.size)) = true:=by
  rw [zzq hsz,Bool.and_false]
  exact Bool.false_ne_true
 refine call_meets F.slot_list_extend ⟨_,e,rfl⟩ F.entry_list_extend (F.args_list_extend_2 _ _)
  (AutoSeq1.list_extend_list_list_0 l its.toArray n b its2.toArray n2 hlong (by rw [List.size_toArray]; omega) (by omega)) ⟨e,e2,?_⟩
 refine ⟨.non,_,I.lset (its':=its ++ its2) hH e (by simp) (r.append r2) ?_,rfl,q⟩
 rw [List.length_append]
 omega
noncomputable def z2b : R2:=fun x y H Q=>∃ l b xs zs,x = .ref l /\ y = .ref b /\ H l = some (.lst xs) /\ H b = some (.lst zs) /\ xs.length + zs.length <= sizeLine /\ ∀ p,H p = none -> Q (.ref p) (upd H p (.lst (xs ++ zs)))
theorem zsp : OpR X (binaryOp .Add) z2b:=by
 intro pins s σ H x y v u Q I rx ry h
 obtain ⟨l,b,xs,zs,rfl,rfl,hH,hB,hz,q⟩:=h
 cases rx
 cases ry
 obtain ⟨z,its,n,r,hl,e⟩:=I.lstM hH
 obtain ⟨z2,its2,n2,r2,hl2,e2⟩:=I.lstM hB
 refine PySem.P.add_list e e2 ?_ (by rw [List.size_toArray,List.size_toArray]; omega)
 have ea : its.toArray ++ its2.toArray = (its ++ its2).toArray:=by simp
 rw [ea]
 exact ⟨.ref _,_,I.lnew (t':=s.toks) (r.append r2) (by rw [List.length_append]; omega),rfl,q _ I.fresh⟩
end
section
variable {prog : Program} {w : World} {A : Around} {E : Value -> Shared -> Prop} {s : Shared}
set_option maxRecDepth 100000 in
end
section
variable {X : Cx}
end
end L2
namespace Att
open PySem PySem.W PySem.Calls PyProof.Rows
theorem z75 {P : Params} {h : Heap} : ∀ (ns : List Int) (vs : List Value),WellAll P h vs (ns.map WData.int) -> IntsAre vs ns:=by
 intro ns
 induction ns with
 | nil =>
  intro vs w
  rw [List.map_nil] at w
  cases w
  exact .nil
 | cons n ns ih =>
  intro vs w
  rw [List.map_cons] at w
  cases w with
  | cons a b =>
   cases a
   exact .cons _ _ (ih _ b)
theorem z3r {l : OpenLaw} {n : Nat} (hn : l.most = some n) {P : Params} {h : Heap} {args : List WData} {vals : List Value}
  (hpre : l.row.toRowW.claim.pre args = true) (hwl : WellAll P h vals args) :
  ∃ a vs ns,vals = [Value.ref a] /\ args = [WData.list (ns.map WData.int)] /\ h.get? a = some { cls:=.type "list",data:=.seq vs.toArray } /\ IntsAre vs ns /\ ns.length <= n:=by
 have hsh : WShape.hasAll [] args [.list .int] = true:=(pre_splitW hpre).1
 have hc : l.pre.holds [] { args:=args } = true:=(pre_splitW hpre).2
 obtain ⟨d,r,rfl,h1,h2⟩:=hasAllW_cons hsh
 obtain rfl:=hasAllW_nil h2
 obtain ⟨xs,rfl,h3⟩:=hasW_list h1
 obtain ⟨ns,rfl⟩:=items_int h3
 have hlen : ns.length <= n:=by
  unfold OpenLaw.pre at hc
  have h4 : (WTm.not (.lt (.lit (.int (n : Int))) (.len (.arg 0)))).holds [] { args:=[.list (ns.map .int)] } = true:=by
   have h4:=(holds_andW hc).1
   rw [hn] at h4
   exact h4
  have h5:=condW_of h4 (w_not (w_lt w_lit (w_len_list (w_arg rfl))))
  rw [List.length_map] at h5
  refine Nat.le_of_not_lt fun q=>?_
  have q' : (n : Int) < ((ns.length : Nat) : Int):=by omega
  first
   | (rw [decide_eq_true q'] at h5; exact absurd h5 (by decide))
   | (simp at h5; omega)
 cases hwl with
 | cons w1 w2 =>
  cases w2
  cases w1 with
  | list ho hall=>exact ⟨_,_,ns,rfl,rfl,ho,z75 ns _ hall,hlen⟩
theorem z4a (l : OpenLaw) (args : List WData) : l.row.toRowW.claim.post args (.bool true) args = true :=
 postW_of (r:=l.row.toRowW) (X:=(true == true))
  (show WShape.has [] (.bool true) .bool = true by first | rfl | decide | simp [WShape.has,WShape.arms,WShape.armsAll])
  (show (WTm.eq .res (.lit (.bool true))).value [] { args:=args,res:=some (.bool true),after:=args } = some (.bool (true == true)) from w_eq_bool (w_res rfl) w_lit) rfl
theorem attach_call {l : OpenLaw} {n : Nat} {q : Program} {loose : List Str} {XP : (Str -> Option Value) -> Heap -> Prop} {YP : World -> Heap -> Prop} {d : DefRec}
  (hn : l.most = some n) (hdf : d.params.defaults = [])
  (call : ∀ (w : World) (s₀ s₁ : Shared) (mg mb : Str -> Option Value) (fa : Addr) (o : Obj) (pm cd doc : Value) (a : Addr) (vs : List Value) (ns : List Int),
   Ground q loose [] XP w s₀ mg mb s₁.heap -> YP w s₁.heap ->
   s₁.heap.get? fa = some o -> o.data = .func (docDef d.name d.params d.body d.scope pm cd doc) -> s₁.heap.CodeRec cd d.name -> mg d.name = some (.ref fa) ->
   s₁.heap.get? a = some { cls:=.type "list",data:=.seq vs.toArray } -> IntsAre vs ns -> ns.length <= n -> s₁.gens = #[] ->
   codeAny (model l.prog w) callerA (.call (.ref fa) ⟨[.ref a],[]⟩) (fun r s'=>r = .ok (.ret (.bool true)) /\ OldK s₁.heap s'.heap /\ s'.os = s₁.os /\ AllBare s'.gens) s₁) :
  WalkO q loose XP YP l.row.toRowW d [] (fun f vs=>PySem.call f vs):=by
 intro w s₀ s₁ mg mb G Y fa o pm cd doc dV kV ho hd hcd hD hmg hg args vals as hpre hlay hrd hwl hlo
 obtain rfl : dV = .none:=Dflts.none hD hdf
 obtain rfl : kV = .none:=Dflts.noKw hD
 obtain ⟨a,vs,ns,rfl,rfl,hobj,hints,hlen⟩:=z3r hn hpre hwl
 refine enter_call (codeAny_mono (call w s₀ s₁ mg mb fa o pm cd doc a vs ns G Y ho (fd_plain hd) hcd hmg hobj hints hlen hg) fun r s' hq=>?_)
 obtain ⟨rfl,h2,h3,h4⟩:=hq
 exact ⟨.inl ⟨.bool true,.bool true,[],rfl,fun _=>rfl,.bool true,z4a l _,fun _=>⟨List.Pairwise.nil,fun _ hm=>(nomatch hm)⟩⟩,h2,h3,h4⟩
section
variable {prog : Program} {w : World} {A : Around} {E : Value -> Shared -> Prop} {s : Shared} {K : Frag}
end
end Att
namespace L2
open PySem PySem.Spec PyProof.Rows
theorem zuh : ∀ {vs : List Value} {ns : List Int},IntsAre vs ns -> za8 (ns.map V.int) vs
 | _,_,.nil=>.nil
 | _,_,.cons n t h=>.cons ⟨t,rfl⟩ (zuh h)
noncomputable def zn4 (H : Hp) : Prop:=∀ b,H b = none \/ ∃ o xs,H b = some (.frz o (.lst xs))
theorem zwq {P : Program} {w : World} {K : PySem.W.Frag} {mg mb : Str -> Option Value} {CX : CXT} {k : Nat} {fa a : Addr} {fd : FuncData} {x : Str} {sp : Sp} {s₁ : Shared} {vs : List Value} {ns : List Int}
  (KX : K.In s₁.heap) (hns : s₁.heap.Ns mainGlobals mg) (hb : s₁.heap.Ns builtinsNs mb) (hbb : ∀ x : Str,x ≠ "__name__" -> mb x = bootBuiltins x) (hlim : s₁.heap.NoLimit) (hg : s₁.gens = #[])
  (ha : s₁.heap.get? a = some { cls:=.type "list",data:=.seq vs.toArray }) (hi : IntsAre vs ns) (hl : ns.length <= sizeLine) (hr : zce k callerA)
  (F : ∀ base : Heap,K.In base -> base.Ns mainGlobals mg -> zax P w K mg base CX k fa fd [x] sp) (hbind : ∀ (s : Shared) (u : Value),BindsTo s fd ⟨[u],[]⟩ [(x,u)])
  (hsp : ∀ H : Hp,zn4 H -> SqL K H a (ns.map V.int) -> sp [.ref a] H (fun v _=>v = .bl true) fun _ _ _=>False)
  (hCX : ∀ H e s',CX [] H s₁ (fun _ _ _=>False) e s' -> False) :
  codeAny (model P w) callerA (.call (.ref fa) ⟨[.ref a],[]⟩) (fun r s'=>r = .ok (.ret (.bool true)) /\ OldK s₁.heap s'.heap /\ s'.os = s₁.os /\ AllBare s'.gens) s₁:=by
 have rv:=zuh hi
 have lenV:=hi.length
 have core : ∀ H : Hp,zn4 H -> SqL K H a (ns.map V.int) -> HOk P w H s₁.heap -> (∀ b,H b ≠ none -> b = a) -> (H a ≠ none -> K.lookup a = none) ->
   codeAny (model P w) callerA (.call (.ref fa) ⟨[.ref a],[]⟩) (fun r s'=>r = .ok (.ret (.bool true)) /\ OldK s₁.heap s'.heap /\ s'.os = s₁.os /\ AllBare s'.gens) s₁:=by
  intro H hO hS hok hA hK
  have base_of : ∀ {b : Addr} {o : Obj},s₁.heap.get? b = some o -> H b = none -> (zg5 s₁.heap H).get? b = some o:=fun e n=>z4g e n
  have noA : ∀ {b : Addr} {o : Obj} {es : Array DictEntry} {ep : Nat},s₁.heap.get? b = some o -> o.data = .dict es ep -> H b = none:=fun {b o es ep} e d=>by
   cases q : H b with
   | none=>rfl
   | some u =>
    have e' : b = a:=hA b (by rw [q]; simp)
    subst e'
    rw [ha] at e; cases e
    have d' : Data.seq vs.toArray _ = Data.dict es ep:=d
    cases d'
  have nsK : ∀ {b : Addr} {m : Str -> Option Value},s₁.heap.Ns b m -> (zg5 s₁.heap H).Ns b m:=fun {b m} ⟨o,es,ep,e,d,r⟩=>⟨o,es,ep,base_of e (noA e d),d,r⟩
  have hKb : K.In (zg5 s₁.heap H):=fun b o e=>base_of (KX b o e) (by
   cases q : H b with
   | none=>rfl
   | some u =>
    have e' : b = a:=hA b (by rw [q]; simp)
    subst e'
    rw [hK (by rw [q]; simp)] at e; cases e)
  have hM : Mod K mg (zg5 s₁.heap H):=⟨hKb,nsK hns,⟨mb,nsK hb,hbb⟩,let ⟨mc,h1,h2⟩:=hlim; ⟨mc,nsK h1,h2⟩⟩
  have e0 : zir P w K mg (zg5 s₁.heap H) callerA [] s₁ H:=⟨rfl,hM,fun b o e=>z1m e,Nat.le_of_eq (zxs _ _),trivial,fun b hb=>absurd (show b ∈ ([] : List Addr) from hb) (by simp),hok,.of_eq hg⟩
  refine codeAny_mono ((F _ hKb (nsK hns)).run callerA [] s₁ H ⟨[.ref a],[]⟩ [.ref a] [.ref a] _ _ hr e0 (hbind s₁ (.ref a)) (.cons rfl .nil) (hsp H hO hS)) fun r s' h=>?_
  cases r with
  | error e=>exact (hCX H e s' h).elim
  | ok fl =>
   cases fl with
   | next=>exact False.elim h
   | brk=>exact False.elim h
   | cont=>exact False.elim h
   | ret u =>
    obtain ⟨v,H',os,bare,un,hok',r',q⟩:=h
    have q' : v = .bl true:=q
    subst q'
    obtain rfl : u = Value.bool true:=r'
    refine ⟨rfl,OldK.of_keep fun b o e=>?_,os,bare⟩
    cases q : H b with
    | none=>exact un.keep b o e q (by intro z; exact absurd (show b ∈ ([] : List Addr) from z) (by simp)) (by simp)
    | some u =>
     rcases hO b with z | ⟨ob,xs,z⟩
     ·rw [q] at z; cases z
     ·have z2:=un.frzs b ob _ z
      obtain ⟨e1,_⟩:=hok b _ z
      obtain ⟨e2,_⟩:=hok' b _ z2
      rw [e] at e1; cases e1
      exact e2
 cases hk : K.lookup a with
 | some o =>
  have e:=KX a o hk
  rw [ha] at e
  cases e
  refine core (fun _=>none) (fun _=>.inl rfl) (.inr ⟨_,vs.toArray,_,hk,rfl,rfl,rfl,by rw [List.size_toArray,lenV]; exact hl,by simpa using rv⟩) (fun b u z=>by have z' : (none : Option HO) = some u:=z; cases z') (fun b z=>absurd rfl z) fun z=>absurd rfl z
 | none =>
  refine core (fun b=>if b = a then some (.frz { cls:=.type "list",data:=.seq vs.toArray } (.lst (ns.map V.int))) else none) (fun b=>?_) (.inl (.inr ⟨{ cls:=.type "list",data:=.seq vs.toArray },if_pos rfl⟩)) (fun b u z=>?_) (fun b z=>?_) fun _=>hk
  ·by_cases hb : b = a
   ·exact .inr ⟨_,_,if_pos hb⟩
   ·exact .inl (if_neg hb)
  ·by_cases hb : b = a
   ·have z':=(if_pos hb).symm.trans z
    cases z'
    subst hb
    exact ⟨ha,by rw [List.length_map]; exact hl,vs,_,rv,ha⟩
   ·have z':=(if_neg hb).symm.trans z
    cases z'
  ·by_cases hb : b = a
   ·exact hb
   ·exact absurd (if_neg hb) z
noncomputable abbrev KOf {K : PySem.W.Frag} {h : Heap} (_ : K.In h) : PySem.W.Frag:=K
theorem zz3 {l : PySem.W.OpenLaw} {n k : Nat} {q : Program} {loose : List Str} {XP : (Str -> Option Value) -> Heap -> Prop} {YP : World -> Heap -> Prop} {d : DefRec} {K : Params -> PySem.W.Frag} {CX : World -> CXT} {sp : World -> Sp} {x : Str}
  (hn : l.most = some n) (hn2 : n <= sizeLine) (hdf : d.params.defaults = []) (hr : zce k callerA)
  (hY : ∀ (w : World) (h : Heap),YP w h -> (K w.params).In h)
  (F : ∀ (w : World) (mg : Str -> Option Value) (fa : Addr) (h : Heap),(K w.params).In h -> h.Ns mainGlobals mg -> mg d.name = some (.ref fa) ->
   ∃ fd : FuncData,(∀ (s : Shared) (u : Value),BindsTo s fd ⟨[u],[]⟩ [(x,u)]) /\
    ∀ base : Heap,(K w.params).In base -> base.Ns mainGlobals mg -> zax l.prog w (K w.params) mg base (CX w) k fa fd [x] (sp w))
  (hsp : ∀ (w : World) (H : Hp) (a : Addr) (ns : List Int),ns.length <= n -> zn4 H -> SqL (K w.params) H a (ns.map V.int) -> sp w [.ref a] H (fun v _=>v = .bl true) fun _ _ _=>False)
  (hCX : ∀ (w : World) (H : Hp) (s : Shared) (e : Value) (s' : Shared),CX w [] H s (fun _ _ _=>False) e s' -> False) :
  PySem.W.WalkO q loose XP YP l.row.toRowW d [] (fun f vs=>PySem.call f vs):=by
 refine Att.attach_call hn hdf fun w s₀ s₁ mg mb fa o pm cd doc a vs ns G Y ho hd hcd hmg hobj hints hlen hg=>?_
 have KX:=hY w _ Y
 obtain ⟨fd,hb,hF⟩:=F w mg fa _ KX G.T.g hmg
 exact zwq KX G.T.g G.T.b G.T.builtins G.T.nolimit hg hobj hints (Nat.le_trans hlen hn2) hr hF hb (fun H hO hS=>hsp w H a ns hlen hO hS) fun H e s'=>hCX w H s₁ e s'
theorem walk_ofK {l : PySem.W.OpenLaw} {n k : Nat} {q : Program} {loose : List Str} {XP : (Str -> Option Value) -> Heap -> Prop} {YP : World -> Heap -> Prop} {d : DefRec} {K : Params -> PySem.W.Frag} {CX : CXT} {sp : PySem.W.Frag -> Sp} {x : Str}
  (hn : l.most = some n) (hn2 : n <= sizeLine) (hdf : d.params.defaults = []) (hr : zce k callerA)
  (hY : ∀ (w : World) (h : Heap),YP w h -> (K w.params).In h)
  (F : ∀ (w : World) (mg : Str -> Option Value) (fa : Addr) (h : Heap),(K w.params).In h -> h.Ns mainGlobals mg -> mg d.name = some (.ref fa) ->
   ∃ fd : FuncData,(∀ (s : Shared) (u : Value),BindsTo s fd ⟨[u],[]⟩ [(x,u)]) /\
    ∀ base : Heap,(K w.params).In base -> base.Ns mainGlobals mg -> zax l.prog w (K w.params) mg base CX k fa fd [x] (sp (K w.params)))
  (hsp : ∀ (K : PySem.W.Frag) (H : Hp) (a : Addr) (ns : List Int),ns.length <= n -> zn4 H -> SqL K H a (ns.map V.int) -> sp K [.ref a] H (fun v _=>v = .bl true) fun _ _ _=>False)
  (hCX : ∀ (H : Hp) (s : Shared) (e : Value) (s' : Shared),CX [] H s (fun _ _ _=>False) e s' -> False) :
  PySem.W.WalkO q loose XP YP l.row.toRowW d [] (fun f vs=>PySem.call f vs) :=
 zz3 (K:=K) (CX:=fun _=>CX) (sp:=fun w=>sp (K w.params)) hn hn2 hdf hr hY F (fun w H a ns h1 h2 h3=>hsp (K w.params) H a ns h1 h2 h3) fun _ H s e s'=>hCX H s e s'
noncomputable def zfm (s : Stmt) (j : Nat) : Stmt:=match s with
 | .ClassDef _ _ _ body _ _ _ _ _ _ _=>body.getD j (.Pass ⟨0,0,0,0⟩)
 | _=>.Pass ⟨0,0,0,0⟩
noncomputable def zbe (s : Stmt) : Arguments:=match s with
 | .FunctionDef _ a _ _ _ _ _ _ _ _=>a
 | _=>{ posonlyargs:=[],args:=[],vararg:=none,kwonlyargs:=[],kw_defaults:=[],kwarg:=none,defaults:=[] }
noncomputable def za9 (s : Stmt) : List Stmt:=match s with
 | .FunctionDef _ _ b _ _ _ _ _ _ _=>b
 | _=>[]
noncomputable def zao (s : Stmt) : Scope:=match s with
 | .FunctionDef _ _ _ _ _ _ sc _ _ _=>sc
 | _=>{ kind:=.function,names:=[],isGenerator:=false,isCoroutine:=false }
noncomputable abbrev CX0 : CXT:=fun _ _ _ _ _ _=>False
noncomputable abbrev E0 : XK:=fun _ _ _=>False
theorem zg6 {X : Cx} : zi6 CX0 X E0:=fun _ _ _ _ _ _ _ h=>h.elim
structure Fun (K : PySem.W.Frag) (x qual : Str) (st : Stmt) (f : Addr) (fd : FuncData) : Prop where
 ex : ∃ (oc : Value) (od : Option Addr) (kV doc pm : Value) (an : Option Addr) (cdv ct : Value) (osl : Array (Option Value)),
  fd = PySem.W.fnOf x qual (zbe st) (za9 st) (zao st) .none kV doc pm an cdv ct /\ K.lookup f = some ⟨oc,od,.func fd,osl⟩ /\ PySem.W.codeIn K cdv qual = true
 kp : PySem.W.keepIn K (.ref f) = true
section
variable {P : Program} {w : World} {K : PySem.W.Frag} {mg : Str -> Option Value} {base : Heap}
theorem Fun.ok {x qual : Str} {st : Stmt} {f : Addr} {fd : FuncData} {N ps : List Str} {k : Nat} {sp : Sp} (F : Fun K x qual st f fd) (S : zba N ps (zao st)) (len : ∀ vs H Q E,sp vs H Q E -> vs.length = ps.length)
  (hbody : ∀ (cdv : Value) (A : Around) (outer : List Env) (s : Shared) (H : Hp) (vs : List V) (Q : VK) (E : XK),zce k (A.deeper (envOfC qual (zao st) s.heap.objs.size f cdv)) -> sp vs H Q E ->
   ∃ t,PSs (zgb CX0 P w K mg base N qual (zao st) f cdv A outer s H E).nox (za9 st) t /\ t { nx:=fun _ H'=>Q .non H',rt:=Q } (start N vs) H) : zax P w K mg base CX0 (k + 1) f fd ps sp:=by
 obtain ⟨oc,od,kV,doc,pm,an,cdv,ct,osl,rfl,lk,hcd⟩:=F.ex
 refine z5p lk hcd S len fun A outer s H vs Q E hr hsp=>?_
 obtain ⟨t,h,q⟩:=hbody cdv A outer s H vs Q E hr hsp
 exact ⟨t,h.nox,q⟩
theorem Fun.binds {x qual : Str} {st : Stmt} {f : Addr} {fd : FuncData} {ps : List Str} (F : Fun K x qual st f fd)
  (h : ∀ (kV doc pm : Value) (an : Option Addr) (cdv ct : Value) (us : List Value),us.length = ps.length -> bindArgs (PySem.W.fnOf x qual (zbe st) (za9 st) (zao st) .none kV doc pm an cdv ct) ⟨us,[]⟩ = pure (ps.zip us)) : za2 K fd ps []:=by
 obtain ⟨oc,od,kV,doc,pm,an,cdv,ct,osl,rfl,lk,hcd⟩:=F.ex
 exact .all (h kV doc pm an cdv ct)
theorem zbn {x qual : Str} {st : Stmt} {f : Addr} {oc : Value} {od an : Option Addr} {osl : Array (Option Value)} {kV doc pm cdv ct : Value} (l : K.lookup f = some ⟨oc,od,.func (PySem.W.fnOf x qual (zbe st) (za9 st) (zao st) .none kV doc pm an cdv ct),osl⟩)
  (c : PySem.W.codeIn K cdv qual = true) (k : PySem.W.keepIn K (.ref f) = true) : Fun K x qual st f (PySem.W.fnOf x qual (zbe st) (za9 st) (zao st) .none kV doc pm an cdv ct):=⟨⟨oc,od,kV,doc,pm,an,cdv,ct,osl,rfl,l,c⟩,k⟩
end
theorem zvm {n : Nat} (h : n <= 1000) : n < sizeLine:=Nat.lt_of_le_of_lt h (by decide)
section
variable {X : Cx}
theorem pv (i : Nat) {x : Str} {pos : Pos} (hN : X.N[i]? = some x:=by rfl) (hv : Vis X.env.scope x:=by first | exact Or.inl rfl | exact Or.inr (Or.inl rfl) | exact Or.inr (Or.inr rfl)) (hd : (x == ("__debug__" : Str)) = false:=by decide)
  (hcd : (x == ("__classdict__" : Str)) = false:=by decide) : PE X (.Name x pos) (zei i):=zgu hN hv hd hcd
end
theorem zse {A B : Prop} (h : B) : if false = true then A else B:=by
 rw [if_neg Bool.false_ne_true]
 exact h
theorem zuk {A B : Prop} (h : A) : if true = true then A else B:=by
 rw [if_pos rfl]
 exact h
noncomputable def za5 (H H' : Hp) : Prop:=∀ b o,H b = some o -> H' b = some o
theorem za5.refl (H : Hp) : za5 H H:=fun _ _ h=>h
theorem za5.trans {H H1 H2 : Hp} (a : za5 H H1) (b : za5 H1 H2) : za5 H H2:=fun c o h=>b c o (a c o h)
theorem za5.free {H H' : Hp} (e : za5 H H') {l : Addr} (h : H' l = Option.none) : H l = Option.none:=by
 cases q : H l with
 | none=>rfl
 | some o =>
  rw [e l o q] at h
  cases h
theorem za5.seq {K : PySem.W.Frag} {H H' : Hp} {a : Addr} {xs : List V} (e : za5 H H') (h : SqL K H a xs) : SqL K H' a xs:=by
 rcases h with (h | ⟨o,h⟩) | h
 ·exact .inl (.inl (e _ _ h))
 ·exact .inl (.inr ⟨o,e _ _ h⟩)
 ·exact .inr h
section
variable {κ : Type} [DecidableEq κ]
noncomputable def zeo (kvs : List (κ × V)) (k : κ) : Option V:=(kvs.find? fun kv=>decide (kv.1 = k)).map (·.2)
noncomputable def zd8 (kvs : List (κ × V)) (k : κ) (v : V) : List (κ × V) :=
 if (kvs.any fun kv=>decide (kv.1 = k)) = true then kvs.map (fun kv=>if kv.1 = k then (kv.1,v) else kv) else kvs ++ [(k,v)]
theorem zor {p : κ × V} {r : List (κ × V)} {k : κ} (e : p.1 = k) : zeo (p :: r) k = some p.2:=by simp [zeo,List.find?_cons,e]
theorem zrk {p : κ × V} {r : List (κ × V)} {k : κ} (e : ¬ p.1 = k) : zeo (p :: r) k = zeo r k:=by simp [zeo,List.find?_cons,e]
theorem zq5 (k : κ) : ∀ kvs : List (κ × V),(kvs.any fun kv=>decide (kv.1 = k)) = (zeo kvs k).isSome
 | []=>rfl
 | p :: r=>by
  rw [List.any_cons]
  by_cases e : p.1 = k
  ·simp only [zor e,decide_eq_true e,Bool.true_or,Option.isSome_some]
  ·rw [zrk e,decide_eq_false e,Bool.false_or]; exact zq5 k r
theorem zo4 (kvs : List (κ × V)) (k : κ) (v : V) : (zd8 kvs k v).length <= kvs.length + 1:=by
 unfold zd8
 split
 ·rw [List.length_map]; omega
 ·rw [List.length_append,List.length_cons,List.length_nil]; omega
theorem zeg.isSome_eq {o : Option V} {u : Option Value} (r : zeg o u) : o.isSome = u.isSome:=by
 cases o with
 | none=>cases u with
  | none=>rfl
  | some _=>exact (show False from r).elim
 | some _=>cases u with
  | none=>exact (show False from r).elim
  | some _=>rfl
theorem KV.val {kvs : List (κ × V)} {vs : List (κ × Value)} (r : KV kvs vs) (k : κ) : zeg (zeo kvs k) (valueAt vs k):=by
 unfold KV at r
 induction r with
 | nil=>exact True.intro
 | @cons p q ps qs h t ih =>
  obtain ⟨h1,h2⟩:=h
  by_cases e : p.1 = k
  ·have e' : q.1 = k:=h1.symm.trans e
   have b : valueAt (q :: qs) k = some q.2:=by simp [valueAt,List.find?_cons,e']
   rw [zor e,b]; exact h2
  ·have e' : ¬ q.1 = k:=fun z=>e (h1.trans z)
   have b : valueAt (q :: qs) k = valueAt qs k:=by simp [valueAt,List.find?_cons,e']
   rw [zrk e,b]; exact ih
theorem KV.any {kvs : List (κ × V)} {vs : List (κ × Value)} (r : KV kvs vs) (k : κ) : (kvs.any fun kv=>decide (kv.1 = k)) = vs.any fun kv=>decide (kv.1 = k):=by
 unfold KV at r
 induction r with
 | nil=>rfl
 | cons h t ih=>rw [List.any_cons,List.any_cons,ih,h.1]
theorem KV.repl {kvs : List (κ × V)} {vs : List (κ × Value)} (r : KV kvs vs) (k : κ) {y : V} {u : Value} (ry : za6 y u) :
  KV (kvs.map fun kv=>if kv.1 = k then (kv.1,y) else kv) (vs.map fun kv=>if kv.1 = k then (kv.1,u) else kv):=by
 unfold KV at r ⊢
 induction r with
 | nil=>exact .nil
 | @cons p q ps qs h t ih =>
  rw [List.map_cons,List.map_cons]
  refine .cons ?_ ih
  obtain ⟨h1,h2⟩:=h
  by_cases e : p.1 = k
  ·rw [if_pos e,if_pos (h1.symm.trans e)]; exact ⟨h1,ry⟩
  ·rw [if_neg e,if_neg (fun z=>e (h1.trans z))]; exact ⟨h1,h2⟩
theorem KV.put {kvs : List (κ × V)} {vs : List (κ × Value)} (r : KV kvs vs) (k : κ) {y : V} {u : Value} (ry : za6 y u) : KV (zd8 kvs k y) (stored vs k u):=by
 unfold zd8 stored
 rw [r.any k]
 by_cases e : (vs.any fun kv=>decide (kv.1 = k)) = true
 ·rw [if_pos e,if_pos e]; exact r.repl k ry
 ·rw [if_neg e,if_neg e]; exact Paired.snoc r ⟨rfl,ry⟩
theorem KV.length {kvs : List (κ × V)} {vs : List (κ × Value)} (r : KV kvs vs) : kvs.length = vs.length:=Paired.length r
end
theorem zmc {P : Program} {w : World} {k : Key} {u : Value} (r : za6 (kV k) u) : (zej P w).is k u = true:=by
 cases k with
 | inl i=>obtain ⟨t,e⟩:=(show ∃ t,u = Value.int i t from r); subst e; exact z1p P w i t
 | inr x=>obtain ⟨t,e⟩:=(show ∃ t,u = Value.str x t from r); subst e; exact z7q P w x t
theorem zsm {P : Program} {w : World} : ∀ {ks : List Key} {us : List Value},za8 (ks.map kV) us -> ItemsAre (zej P w) ks us
 | [],_,r=>by rw [List.map_nil] at r; cases r; exact .nil
 | k :: ks,_,r=>by
  rw [List.map_cons] at r
  cases r with
  | cons h t=>exact .cons (zmc h) (zsm t)
noncomputable abbrev KT (H : Hp) : List (List Key × V) -> List (List Key × Addr × Value) -> Prop:=Paired fun p q=>p.1 = q.1 /\ H q.2.1 = some (.tup (p.1.map kV)) /\ za6 p.2 q.2.2
theorem KT.val {H : Hp} {kvs : List (List Key × V)} {xs : List (List Key × Addr × Value)} (r : KT H kvs xs) (k : List Key) : zeg (zeo kvs k) ((atKey xs k).map (·.2)):=by
 induction r with
 | nil=>exact True.intro
 | @cons p q ps qs h t ih =>
  obtain ⟨h1,_,h2⟩:=h
  by_cases e : p.1 = k
  ·have e' : q.1 = k:=h1.symm.trans e
   have b : atKey (q :: qs) k = some q.2:=by simp [atKey,List.find?_cons,e']
   rw [zor e,b]; exact h2
  ·have e' : ¬ q.1 = k:=fun z=>e (h1.trans z)
   have b : atKey (q :: qs) k = atKey qs k:=by simp [atKey,List.find?_cons,e']
   rw [zrk e,b]; exact ih
theorem KT.repl {H : Hp} {kvs : List (List Key × V)} {xs : List (List Key × Addr × Value)} (r : KT H kvs xs) (k : List Key) {y : V} {u : Value} (ry : za6 y u) :
  KT H (kvs.map fun kv=>if kv.1 = k then (kv.1,y) else kv) (xs.map (putAt k u)):=by
 induction r with
 | nil=>exact .nil
 | @cons p q ps qs h t ih =>
  rw [List.map_cons,List.map_cons]
  refine .cons ?_ ih
  obtain ⟨h1,h2,h3⟩:=h
  unfold putAt
  by_cases e : p.1 = k
  ·rw [if_pos e,if_pos (h1.symm.trans e)]; exact ⟨h1,h2,ry⟩
  ·rw [if_neg e,if_neg (fun z=>e (h1.trans z))]; exact ⟨h1,h2,h3⟩
theorem KT.put {H : Hp} {kvs : List (List Key × V)} {xs : List (List Key × Addr × Value)} (r : KT H kvs xs) (k : List Key) {b : Addr} {y : V} {u : Value} (hb : H b = some (.tup (k.map kV))) (ry : za6 y u) :
  KT H (zd8 kvs k y) (storedH xs k b u):=by
 have e : (kvs.any fun kv=>decide (kv.1 = k)) = (atKey xs k).isSome:=by
  rw [zq5,(r.val k).isSome_eq,Option.isSome_map]
 unfold zd8 storedH
 rw [e]
 by_cases q : (atKey xs k).isSome = true
 ·rw [if_pos q,if_pos q]; exact r.repl k ry
 ·rw [if_neg q,if_neg q]; exact Paired.snoc r ⟨rfl,hb,ry⟩
theorem KT.keeps {H H' : Hp} {kvs : List (List Key × V)} {xs : List (List Key × Addr × Value)} (r : KT H kvs xs) (ht : ∀ b ys,H b = some (.tup ys) -> H' b = some (.tup ys)) : KT H' kvs xs :=
 Paired.mapP r fun _ _ z=>⟨z.1,ht _ _ z.2.1,z.2.2⟩
section
variable {P : Program} {w : World} {H : Hp} {h : Heap} {a : Addr}
theorem zwb {u : HO} (ok : HOk P w H h) (e : Rd H a u) : zcx P w H h a u:=e.ok ok
theorem zm9 {kvs : List (Key × V)} (ok : HOk P w H h) (e : Rd H a (.dK kvs)) : kvs.length <= sizeLine /\ (a == sysModules) = false /\ ∃ vs,KV kvs vs /\ h.DictOf (zej P w) a vs :=
 show zcx P w H h a (.dK kvs) from zwb ok e
theorem zwg {kvs : List (Key × V)} (ok : HOk P w H h) (e : H a = some (.dK kvs)) : kvs.length <= sizeLine /\ (a == sysModules) = false /\ ∃ vs,KV kvs vs /\ h.DictOf (zej P w) a vs:=zm9 ok (.inl e)
theorem zoc {ks : List Key} (ok : HOk P w H h) (e : H a = some (.tup (ks.map kV))) : (tupleKind (zej P w)).is h ks a:=by
 obtain ⟨_,its,r,o,h1,h2,n,h3⟩:=(show zcx P w H h a (.tup (ks.map kV)) from ok a _ e)
 exact ⟨o,its.toArray,n,h1,h2,h3,by simpa using zsm r⟩
theorem zmq {kvs : List (List Key × V)} (ok : HOk P w H h) (e : Rd H a (.dT kvs)) : kvs.length <= sizeLine /\ (a == sysModules) = false /\
  ∃ xs,KT H kvs xs /\ h.DictOfH (tupleKind (zej P w)) a xs:=by
 obtain ⟨z,y,xs,r,o,es,ep,h1,h2,h3,h4,h5⟩:=(show zcx P w H h a (.dT kvs) from zwb ok e)
 refine ⟨z,y,xs,r,o,es,ep,h1,h2,h3,h4,fun x hx=>?_,h5⟩
 have all : ∀ {l : List (List Key × V)} {m : List (List Key × Addr × Value)},KT H l m -> ∀ x ∈ m,(tupleKind (zej P w)).is h x.1 x.2.1:=by
  intro l m q
  induction q with
  | nil=>intro x hx; exact nomatch hx
  | @cons p q ps qs hq t ih =>
   intro x hx
   rcases List.mem_cons.mp hx with e | hx
   ·subst e
    exact zoc ok (by rw [<- hq.1]; exact hq.2.1)
   ·exact ih x hx
 exact all r x hx
theorem zzd {kvs : List (List Key × V)} (ok : HOk P w H h) (e : H a = some (.dT kvs)) : kvs.length <= sizeLine /\ (a == sysModules) = false /\
  ∃ xs,KT H kvs xs /\ h.DictOfH (tupleKind (zej P w)) a xs:=zmq ok (.inl e)
end
noncomputable def zf2 (H : Hp) (a : Addr) (y : V) (r : Option V) : Prop :=
 (∃ kvs k,Rd H a (.dK kvs) /\ y = kV k /\ r = zeo kvs k) \/ ∃ kvs k b,Rd H a (.dT kvs) /\ y = .ref b /\ H b = some (.tup (k.map kV)) /\ r = zeo kvs k
noncomputable def zmi (H : Hp) (a : Addr) (y v : V) (H' : Hp) : Prop :=
 (∃ kvs k,H a = some (.dK kvs) /\ y = kV k /\ kvs.length < sizeLine /\ H' = upd H a (.dK (zd8 kvs k v))) \/
 ∃ kvs k b,H a = some (.dT kvs) /\ y = .ref b /\ H b = some (.tup (k.map kV)) /\ kvs.length < sizeLine /\ H' = upd H a (.dT (zd8 kvs k v))
theorem zf2.k {H : Hp} {a : Addr} {kvs : List (Key × V)} {k : Key} (e : H a = some (.dK kvs)) : zf2 H a (kV k) (zeo kvs k):=.inl ⟨kvs,k,.inl e,rfl,rfl⟩
theorem zmi.k {H : Hp} {a : Addr} {kvs : List (Key × V)} {k : Key} {v : V} (e : H a = some (.dK kvs)) (hl : kvs.length < sizeLine) : zmi H a (kV k) v (upd H a (.dK (zd8 kvs k v))):=.inl ⟨kvs,k,e,rfl,hl,rfl⟩
section
variable {X : Cx} {pins : List (Addr × Obj)} {σ : St} {H : Hp} {s : Shared} {a : Addr} {y v : V} {u r : Value} {o : Option V} {A : Around} {E : Value -> Shared -> Prop}
theorem Inv.big (I : Inv X pins σ H s) : sysModules < s.heap.objs.size:=by
 have h : mainGlobals < s.heap.objs.size:=(I.mod.glob.keeps I.bk).lt
 exact Nat.lt_trans (by decide) h
theorem z3o {Q : Value -> Shared -> Prop} (hu : A.units + 1 < cLine) (I : Inv X pins σ H s) (g : zf2 H a y (some v)) (ry : za6 y u) (h : ∀ w' s',Inv X pins σ H s' -> za6 v w' -> Q w' s') :
  wpAny (model X.prog X.w) A (getItem (.ref a) u) Q E s:=by
 rcases g with ⟨kvs,k,e,ey,l⟩ | ⟨kvs,k,b,e,ey,eb,l⟩
 ·subst ey
  obtain ⟨z,hd,vs,rel,dd⟩:=zm9 I.hok e
  obtain ⟨w',hw,rw'⟩:=zeg.some_of (v:=v) (o:=valueAt vs k) (by rw [l]; exact rel.val k)
  exact wpAny_getItem_of (zmc ry) dd.mapOf hw (h w' _ (I.tok _) rw')
 ·subst ey
  cases (show u = Value.ref b from ry)
  obtain ⟨z,hd,xs,rel,dd⟩:=zmq I.hok e
  obtain ⟨w',hw,rw'⟩:=zeg.some_of (v:=v) (o:=(atKey xs k).map (·.2)) (by rw [l]; exact rel.val k)
  obtain ⟨p,hp,hp2⟩:=Option.map_eq_some_iff.mp hw
  refine wpAny_getItem_heap (tupleKind_room_in1 hu) (zoc I.hok eb) dd hp ?_
  rw [hp2]
  exact h w' _ (I.tok _) rw'
theorem zxh {Q : Value -> Shared -> Prop} (hu : A.units + 1 < cLine) (I : Inv X pins σ H s) (g : zf2 H a y o) (ry : za6 y u) (h : ∀ s',Inv X pins σ H s' -> Q (.bool o.isSome) s') :
  wpAny (model X.prog X.w) A (compareOp .In u (.ref a)) Q E s:=by
 rcases g with ⟨kvs,k,e,ey,l⟩ | ⟨kvs,k,b,e,ey,eb,l⟩
 ·subst ey
  obtain ⟨z,hd,vs,rel,dd⟩:=zm9 I.hok e
  refine wpAny_in_of (zmc ry) hd dd.mapOf ?_
  rw [<- (rel.val k).isSome_eq,<- l]
  exact h _ (I.tok _)
 ·subst ey
  cases (show u = Value.ref b from ry)
  obtain ⟨z,hd,xs,rel,dd⟩:=zmq I.hok e
  refine wpAny_in_heap (tupleKind_room_in1 hu) (zoc I.hok eb) hd dd ?_
  have q:=(rel.val k).isSome_eq
  rw [Option.isSome_map] at q
  rw [<- q,<- l]
  exact h _ (I.tok _)
theorem zrp {h' : Heap} {t' : Nat} {ob : HO} (I : Inv X pins σ H s) (mu : Mut (H a)) (hs : Heap.SameBut a s.heap h') (he : ∃ q,h'.get? a = some q) (new : zcx X.prog X.w (upd H a ob) h' a ob) :
  Inv X pins σ (upd H a ob) { s with heap:=h',toks:=t' } :=
 I.write (x:=a) (e:=a) mu (.inl rfl) (fun b q hb z=>(hs.2 b hb).trans z) he new
theorem zr8 {P : Program} {w : World} {H' : Hp} {h' : Heap} {kvs : List (Key × V)} {vs : List (Key × Value)} (z : kvs.length <= sizeLine) (hd : (a == sysModules) = false) (rel : KV kvs vs) (dd : h'.DictOf (zej P w) a vs) :
  zcx P w H' h' a (.dK kvs):=⟨z,hd,vs,rel,dd⟩
theorem z76 {H' : Hp} {Q : Unit -> Shared -> Prop} (hu : A.units + 1 < cLine) (I : Inv X pins σ H s) (g : zmi H a y v H') (ry : za6 y u) (rv : za6 v r) (h : ∀ s',Inv X pins σ H' s' -> Q () s') :
  wpAny (model X.prog X.w) A (setItem (.ref a) u r) Q E s:=by
 rcases g with ⟨kvs,k,e,ey,l,eH⟩ | ⟨kvs,k,b,e,ey,eb,l,eH⟩
 ·subst ey eH
  obtain ⟨z,hd,vs,rel,dd⟩:=zwg I.hok e
  have hz : vs.length <= sizeLine:=by rw [<- rel.length]; exact z
  have hl : (zd8 kvs k v).length <= sizeLine:=by have:=zo4 kvs k v; omega
  refine wpAny_setItem_pairs (hsz:=hz) (zmc ry) dd fun h' dd' hs=>h _ ?_
  have he : ∃ q,h'.get? a = some q:=let ⟨q,_,_,hq,_⟩:=dd'; ⟨q,hq⟩
  exact zrp I (by rw [e]; exact True.intro) hs he (zr8 hl hd (rel.put k rv) dd')
 ·subst ey eH
  cases (show u = Value.ref b from ry)
  obtain ⟨z,hd,xs,rel,dd⟩:=zzd I.hok e
  have hz : xs.length <= sizeLine:=by rw [<- Paired.length rel]; exact z
  have hl : (zd8 kvs k v).length <= sizeLine:=by have:=zo4 kvs k v; omega
  refine wpAny_setItem_heap (hsz:=hz) (tupleKind_room_in1 hu) (zoc I.hok eb) dd fun h' dd' hs=>h _ ?_
  obtain ⟨q,es,ep,hq,h2,h3,h4,_,h5⟩:=dd'
  refine zrp I (by rw [e]; exact True.intro) hs ⟨q,hq⟩ ⟨hl,hd,_,(rel.put k eb rv).keeps fun c ys ec=>?_,q,es,ep,hq,h2,h3,h4,h5⟩
  rw [zb0 (z4r ec e (fun z=>nomatch z))]
  exact ec
end
section
variable {X : Cx} {pins : List (Addr × Obj)} {σ : St} {H : Hp} {s : Shared} {a : Addr} {kvs : List (Key × V)} {k : Key} {u : Value} {A : Around} {E : Value -> Shared -> Prop}
end
noncomputable def zru (i : Expr) : Prop:=∀ ov iv,subscripted i false ov iv = operate [ov,iv] (getItem ov iv)
theorem zy8 {prog : Program} {w : World} {A : Around} {E : Value -> Shared -> Prop} {s : Shared} {env : Env} {value slice : Expr} {pos : Pos} {T id : String} {Q : Value -> Shared -> Prop}
  (hl : typeLookup (.type T) "__getitem__" = pure (some (.builtin id))) (hs : zru slice)
  (h : wpAny (model prog w) A (eval value env) (fun o s₁=>wpAny (model prog w) A (eval slice env) (fun i s₂=>s₂.TypeIs o T /\ wpAny (model prog w) A (getItem o i) Q E s₂) E s₁) E s) :
  wpAny (model prog w) A (eval (.Subscript value slice pos) env) Q E s:=by
 refine Subscript_ (wpAny_mono h (fun o s₁ h₁=>wpAny_mono h₁ (fun i s₂ h₂=>?_) fun _ _ x=>x) fun _ _ x=>x)
 obtain ⟨hT,h₂⟩:=h₂
 unfold subscriptTail
 refine wpAny_bind ?_
 rw [getitemInPython_of_ne hT.not_modules]
 refine wpAny_bind (wpAny_specialOf hT hl ?_)
 have fin : wpAny (model prog w) A (subscripted slice false o i) (fun r s₃=>wpAny (model prog w) A (letTemporaryGo value o r >>= fun _=>pure r) Q E s₃) E s₂:=by
  rw [hs o i]
  exact wpAny_operating (wpAny_mono h₂ (fun r s₃ h₃=>wpAny_bind (wpAny_letTemporaryGo (wpAny_pure h₃))) fun _ _ x=>x)
 first
  | exact wpAny_pure (wpAny_bind fin)
  | exact wpAny_bind (wpAny_pure (wpAny_bind fin))
  | exact wpAny_bind fin
theorem z8i {X : Cx} {pins : List (Addr × Obj)} {σ : St} {H : Hp} {s : Shared} {a : Addr} {y : V} {o : Option V} (I : Inv X pins σ H s) (g : zf2 H a y o) : s.TypeIs (.ref a) "dict":=by
 rcases g with ⟨kvs,k,e,_,_⟩ | ⟨kvs,k,b,e,_,_,_⟩
 ·obtain ⟨_,_,vs,_,dd⟩:=zm9 I.hok e
  exact dd.typeIs
 ·obtain ⟨_,_,xs,_,dd⟩:=zmq I.hok e
  exact dd.typeIs
noncomputable def zxr (td ty : TE) : TE:=fun σ H Q=>td σ H fun x H1=>ty σ H1 fun y H2=>∃ a v,x = .ref a /\ zf2 H2 a y (some v) /\ Q v H2
noncomputable def zw3 (ty td : TE) : TE:=fun σ H Q=>ty σ H fun y H1=>td σ H1 fun x H2=>∃ a o,x = .ref a /\ zf2 H2 a y o /\ Q (.bl o.isSome) H2
noncomputable def zty (td ty tv : TE) : TS:=fun D σ H=>tv σ H fun v H1=>td σ H1 fun x H2=>ty σ H2 fun y H3=>∃ a H4,x = .ref a /\ zmi H3 a y v H4 /\ D.nx σ H4
section
variable {X : Cx} {o i e value : Expr} {pos pos' tpos : Pos} {td ty tv : TE}
theorem zxj (hu : X.A.units + 1 < cLine) (ho : PE X o td) (hi : PE X i ty) (hs : zru i) : PE X (.Subscript o i pos) (zxr td ty):=by
 intro pins s σ H Q I h
 refine zy8 PySem.F.slot_dict_getitem.lookup hs (thn (ho pins s σ H _ I h) fun u s1 ⟨x,H1,I1,rx,q1⟩=>thn (hi pins s1 σ H1 _ I1 q1) fun iv s2 ⟨y,H2,I2,ry,a,v,ex,g,q2⟩=>?_)
 subst ex
 obtain rfl : u = Value.ref a:=rx
 exact ⟨z8i I2 g,z3o hu I2 g ry fun w' s3 I3 rw'=>⟨v,H2,I3,rw',q2⟩⟩
theorem z1n (hu : X.A.units + 1 < cLine) (hi : PE X i ty) (ho : PE X o td) : PC X .In i o (zw3 ty td):=by
 intro pins s σ H Q I h
 refine thn (hi pins s σ H _ I h) fun iv s1 ⟨y,H1,I1,ry,q1⟩=>thn (ho pins s1 σ H1 _ I1 q1) fun u s2 ⟨x,H2,I2,rx,a,ov,ex,g,q2⟩=>?_
 subst ex
 obtain rfl : u = Value.ref a:=rx
 exact zxh hu I2 g ry fun s3 I3=>⟨.bl ov.isSome,H2,I3,rfl,q2⟩
theorem z2q (hu : X.A.units + 1 < cLine) (ho : PE X o td) (hi : PE X i ty) (hv : PE X value tv) (hs : swapsWith value (some (.Subscript o i pos')) pos.line X.env = pure false) :
  PS X (.Assign [.Subscript o i pos'] value pos) (zty td ty tv):=by
 intro pins s σ H D I h
 refine wpAny_Assign_Subscript (thn (hv pins s σ H _ I h) fun r s1 ⟨v,H1,I1,rv,q1⟩=>thn (ho pins s1 σ H1 _ I1 q1) fun u s2 ⟨x,H2,I2,rx,q2⟩=>thn (hi pins s2 σ H2 _ I2 q2) fun iv s3 ⟨y,H3,I3,ry,a,H4,ex,g,q3⟩=>?_) hs
 subst ex
 obtain rfl : u = Value.ref a:=rx
 exact z76 hu I3 g ry rv fun s4 I4=>⟨σ,H4,I4,q3⟩
end
theorem zud {P : Program} {w : World} {H : Hp} (h : Heap) (hb : sysModules < h.objs.size) : zcx P w H (h.push { cls:=.type "dict",data:=.dict #[] }) h.objs.size (.dK []) :=
 ⟨Nat.zero_le _,beq_eq_false_iff_ne.mpr (Ne.symm (Nat.ne_of_lt hb)),[],.nil,Heap.DictOf.new h⟩
noncomputable def ztp : TE:=fun _ H Q=>∀ p,H p = none -> Q (.ref p) (upd H p (.dK []))
section
variable {X : Cx} {pos : Pos}
theorem z3p : PE X (.Dict [] [] pos) ztp:=fun pins s σ H Q I h =>
 wpAny_Dict_empty ⟨.ref s.heap.objs.size,_,I.laid (a:=s.heap.objs.size) (o:=.dK []) (t':=s.toks) (fun _ _ q=>Heap.get?_push_of_some _ q) (Nat.le_refl _) (zud s.heap I.big),rfl,h _ (I.hok.fresh (Nat.le_refl _))⟩
end
noncomputable def zpw : List (TE × TE) -> St -> Hp -> (List (V × V) -> Hp -> Prop) -> Prop
 | [],_,H,Q=>Q [] H
 | (tk,tv) :: r,σ,H,Q=>tk σ H fun x H1=>tv σ H1 fun y H2=>zpw r σ H2 fun ps H3=>Q ((x,y) :: ps) H3
noncomputable abbrev VV : List (V × V) -> List (Value × Value) -> Prop:=Paired fun p q=>za6 p.1 q.1 /\ za6 p.2 q.2
noncomputable def PPs (X : Cx) (pos : Pos) (keys : List (Option Expr)) (values : List Expr) (trs : List (TE × TE)) : Prop :=
 ∀ (pins : List (Addr × Obj)) (s : Shared) (σ : St) (H : Hp) (Q : List (V × V) -> Hp -> Prop),Inv X pins σ H s -> zpw trs σ H Q ->
  wpAny (model X.prog X.w) X.A (evalPairs (pairTrees keys values X.env pos)) (fun vs s'=>∃ ps H',Inv X pins σ H' s' /\ VV ps vs /\ Q ps H') X.xe s
theorem z2u {X : Cx} {pos : Pos} : PPs X pos [] [] []:=fun pins s σ H Q I h=>pairTrees_nil_walk ⟨[],H,I,.nil,h⟩
theorem zom {X : Cx} {pos : Pos} {k v : Expr} {ks : List (Option Expr)} {vs : List Expr} {tk tv : TE} {trs : List (TE × TE)} (hk : PE X k tk) (hv : PE X v tv) (hr : PPs X pos ks vs trs) :
  PPs X pos (some k :: ks) (v :: vs) ((tk,tv) :: trs):=fun pins s σ H Q I h =>
 pairTrees_cons_walk (thn (hk pins s σ H _ I h) fun u s1 ⟨x,H1,I1,rx,q1⟩=>thn (hv pins s1 σ H1 _ I1 q1) fun w2 s2 ⟨y,H2,I2,ry,q2⟩ =>
  thn (hr pins s2 σ H2 _ I2 q2) fun ws s3 ⟨ps,H3,I3,rel,q3⟩=>⟨(x,y) :: ps,H3,I3,.cons ⟨rx,ry⟩ rel,q3⟩)
noncomputable def zgc (kvs more : List (Key × V)) : List (Key × V):=more.foldl (fun acc kv=>zd8 acc kv.1 kv.2) kvs
theorem KV.merge : ∀ {more : List (Key × V)} {rs : List (Key × Value)} {kvs : List (Key × V)} {vs : List (Key × Value)},KV more rs -> KV kvs vs -> KV (zgc kvs more) (merged vs rs):=by
 intro more rs kvs vs r
 unfold KV at r
 induction r generalizing kvs vs with
 | nil=>intro q; exact q
 | @cons p q ps qs h t ih =>
  intro r0
  have e : KV (zd8 kvs p.1 p.2) (stored vs q.1 q.2):=by
   have:=r0.put p.1 h.2
   rw [<- h.1]; exact this
  exact ih e
theorem ztg : ∀ (more kvs : List (Key × V)),(zgc kvs more).length <= kvs.length + more.length
 | [],kvs=>by show kvs.length <= kvs.length + 0; omega
 | p :: r,kvs=>by
  have h1:=ztg r (zd8 kvs p.1 p.2)
  have h2:=zo4 kvs p.1 p.2
  show (zgc (zd8 kvs p.1 p.2) r).length <= _
  rw [List.length_cons]; omega
theorem zvb {P : Program} {w : World} : ∀ {kvs : List (Key × V)} {ws : List (Value × Value)},VV (kvs.map fun kv=>(kV kv.1,kv.2)) ws -> ∃ rs,Carries (zej P w) ws rs /\ KV kvs rs
 | [],_,r=>by rw [List.map_nil] at r; cases r; exact ⟨[],True.intro,.nil⟩
 | p :: kvs,_,r=>by
  rw [List.map_cons] at r
  cases r with
  | @cons a b as bs h t =>
   obtain ⟨rs,c,q⟩:=zvb (P:=P) (w:=w) t
   obtain ⟨b1,b2⟩:=b
   exact ⟨(p.1,b2) :: rs,⟨zmc h.1,rfl,c⟩,.cons ⟨rfl,h.2⟩ q⟩
noncomputable def zz9 (trs : List (TE × TE)) : TE:=fun σ H Q=>∀ p,H p = none -> zpw trs σ (upd H p (.dK [])) fun ps H2=>H2 p = some (.dK []) /\ ∃ kvs : List (Key × V),ps = kvs.map (fun kv=>(kV kv.1,kv.2)) /\ kvs.length <= 15 /\ Q (.ref p) (upd H2 p (.dK (zgc [] kvs)))
theorem z8d {X : Cx} {pos : Pos} {keys : List (Option Expr)} {values : List Expr} {trs : List (TE × TE)} (h : PPs X pos keys values trs) (hall : keys.all (·.isSome) = true) (hl : keys.length = values.length) (h0 : keys ≠ [])
  (h15 : keys.length <= 15) : PE X (.Dict keys values pos) (zz9 trs):=by
 intro pins s σ H Q I q
 have hn:=I.hok.fresh (Nat.le_refl s.heap.objs.size)
 have I1:=I.laid (a:=s.heap.objs.size) (o:=.dK []) (h':=s.heap.push { cls:=.type "dict",data:=.dict #[] }) (t':=s.toks) (fun _ _ q=>Heap.get?_push_of_some _ q) (Nat.le_refl _) (zud s.heap I.big)
 refine wpAny_Dict_walk (knd:=zej X.prog X.w) hall hl h0 h15 (thn (h pins _ σ _ _ I1 (q _ hn)) fun ws s2 ⟨ps,H2,I2,rel,e,kvs,ep,lk,q2⟩=>?_)
 subst ep
 obtain ⟨rs,c,rk⟩:=zvb (P:=X.prog) (w:=X.w) rel
 obtain ⟨z,hd,vs0,r0,dd⟩:=zwg I2.hok e
 cases r0
 refine ⟨rs,c,dd,fun h' dd' hs=>⟨.ref s.heap.objs.size,_,?_,rfl,q2⟩⟩
 have hz : (zgc [] kvs).length <= sizeLine:=by
  have h1:=ztg kvs []
  rw [List.length_nil] at h1
  rw [sizeLine_eq]; omega
 have he : ∃ q,h'.get? s.heap.objs.size = some q:=let ⟨q,_,_,hq,_⟩:=dd'; ⟨q,hq⟩
 exact zrp I2 (by rw [e]; exact True.intro) hs he (zr8 hz hd (rk.merge .nil) dd')
section
variable {X : Cx} {pins : List (Addr × Obj)} {σ : St} {H : Hp} {s : Shared} {a : Addr} {y d : V} {u r : Value} {o : Option V} {A : Around} {E : Value -> Shared -> Prop}
end
section
variable {X : Cx} {o e f : Expr} {apos cpos : Pos} {td ty tx : TE}
end
section
variable {X : Cx} {pins : List (Addr × Obj)} {σ : St} {H : Hp} {s : Shared} {a : Addr} {kvs : List (Key × V)} {A : Around} {E : Value -> Shared -> Prop}
end
section
variable {X : Cx} {pins : List (Addr × Obj)} {σ : St} {H : Hp} {s : Shared} {a : Addr} {y : V} {u : Value} {A : Around} {E : Value -> Shared -> Prop}
end
section
variable {κ : Type} [DecidableEq κ]
end
end L2
set_option maxHeartbeats 4000000
namespace L2
open PySem
theorem zpo {env : Env} (f : (Str × NameKind) -> List (Str × Addr) -> Sem (ForInStep (List (Str × Addr))))
  (h1 : ∀ n k r,k ≠ NameKind.free -> f (n,k) r = pure (.yield r))
  (h2 : ∀ n r c,env.cells.lookup n = some c -> f (n,.free) r = pure (.yield ((n,c) :: r))) :
  ∀ (l : List (Str × NameKind)) (acc : List (Str × Addr)),(∀ x ∈ l,x.2 = .free -> ∃ c,env.cells.lookup x.1 = some c) ->
   (∀ x c,acc.lookup x = some c -> env.cells.lookup x = some c) ->
   ∃ cl,forIn l acc f = (pure cl : Sem _) /\ (∀ x c,cl.lookup x = some c -> env.cells.lookup x = some c) /\
    (∀ x,((∃ c,acc.lookup x = some c) \/ (x,NameKind.free) ∈ l) -> ∃ c,cl.lookup x = some c)
 | [],acc,_,ha=>⟨acc,rfl,ha,fun x hx=>hx.elim id (fun z=>nomatch z)⟩
 | (n,k) :: l,acc,hl,ha=>by
  have hl' : ∀ x ∈ l,x.2 = .free -> ∃ c,env.cells.lookup x.1 = some c:=fun x hx=>hl x (List.mem_cons_of_mem _ hx)
  by_cases hk : k = .free
  ·subst hk
   obtain ⟨c,hc⟩:=hl (n,.free) List.mem_cons_self rfl
   have hc' : env.cells.lookup n = some c:=hc
   have ha' : ∀ x c',((n,c) :: acc).lookup x = some c' -> env.cells.lookup x = some c':=fun x c' hx=>by
    rw [List.lookup_cons] at hx
    cases e : x == n with
    | true =>
     rw [e] at hx
     cases hx
     rw [eq_of_beq e]; exact hc'
    | false =>
     rw [e] at hx
     exact ha x c' hx
   obtain ⟨cl,e,a1,a2⟩:=zpo f h1 h2 l ((n,c) :: acc) hl' ha'
   refine ⟨cl,?_,a1,fun x hx=>a2 x ?_⟩
   ·rw [List.forIn_cons,h2 n acc c hc',pure_bind]
    exact e
   ·have here : ∀ c',acc.lookup x = some c' -> ∃ c'',((n,c) :: acc).lookup x = some c'':=fun c' z=>by
     rw [List.lookup_cons]
     cases e : x == n with
     | true=>exact ⟨c,rfl⟩
     | false=>exact ⟨c',z⟩
    rcases hx with ⟨c',z⟩ | hx
    ·exact .inl (here c' z)
    ·rcases List.mem_cons.mp hx with z | z
     ·cases z
      refine .inl ⟨c,?_⟩
      rw [List.lookup_cons,beq_self_eq_true]
     ·exact .inr z
  ·obtain ⟨cl,e,a1,a2⟩:=zpo f h1 h2 l acc hl' ha
   refine ⟨cl,?_,a1,fun x hx=>a2 x ?_⟩
   ·rw [List.forIn_cons,h1 n k acc hk,pure_bind]
    exact e
   ·rcases hx with hx | hx
    ·exact .inl hx
    ·rcases List.mem_cons.mp hx with z | z
     ·cases z; exact absurd rfl hk
     ·exact .inr z
theorem zwc {scope : Scope} {env : Env} (h : ∀ x ∈ scope.names,x.2 = .free -> ∃ c,env.cells.lookup x.1 = some c) :
  ∃ cl,closureFor scope env = pure cl /\ (∀ x c,cl.lookup x = some c -> env.cells.lookup x = some c) /\ (∀ x,(x,NameKind.free) ∈ scope.names -> ∃ c,cl.lookup x = some c):=by
 unfold closureFor
 obtain ⟨cl,e,a1,a2⟩:=zpo (env:=env) (fun (x : Str × NameKind) (r : List (Str × Addr))=>(match x with
   | (name,kind)=>if (kind == NameKind.free) = true then (do let a <- cellOf env name; pure (ForInStep.yield ((name,a) :: r))) else (pure (ForInStep.yield r) : Sem _)))
  (fun n k r hk=>by
   have : (k == NameKind.free) = false:=by simpa using hk
   simp only [this,Bool.false_eq_true,if_false])
  (fun n r c hc=>by
   simp only [beq_self_eq_true,if_true,cellOf,hc,pure_bind])
  scope.names [] h (fun x c z=>by cases z)
 refine ⟨cl,?_,a1,fun x hx=>a2 x (.inr hx)⟩
 refine (congrArg (fun (t : Sem (List (Str × Addr)))=>t >>= pure) ?_).trans ((congrArg (fun (t : Sem (List (Str × Addr)))=>t >>= pure) e).trans (pure_bind _ _))
 rfl
section
variable {prog : Program} {w : World} {A : Around} {R : Result -> Shared -> Prop} {s : Shared}
noncomputable abbrev E00 : Value -> Shared -> Prop:=fun _ _=>False
theorem z2a {elt target iter : Expr} {ifs : List Expr} {scope : Scope} {pos : Pos} {it acc : Value} {env : Env} (I : Nat -> Shared -> Prop)
  (turn : ∀ n s,I n s -> wpAny (model prog w) A (pyNext it) (fun r s₁=>match r with
   | none=>R (.ok .next) s₁
   | some v=>wpAny (model prog w) A (letOwnedTupleGo target it v) (fun _ s₁'=>wpAny (model prog w) A (assign target env v) (fun _ s₂ =>
     wpAny (model prog w) A (forIn ifs true fun c r=>if r = true then do let ok <- isTrue c env (eval c env); pure (ForInStep.yield ok) else pure (ForInStep.yield r)) (fun ok s₃ =>
      if ok = true then wpAny (model prog w) A (eval elt env) (fun x s₄ =>
       wpAny (model prog w) A (call (.builtin "list.append") [acc,x]) (fun _ s₅=>∃ m,m < n /\ I m s₅) E00 s₄) E00 s₃
      else ∃ m,m < n /\ I m s₃) E00 s₂) E00 s₁') E00 s₁) E00 s)
  (n : Nat) (h : I n s) :
  codeAny (model prog w) A (.compLoop (.ListComp elt [⟨target,iter,ifs,0⟩] scope pos) 0 it acc env) R s:=by
 refine codeAny_loop rfl I (fun n s hI=>?_) n h
 show wpAny _ A ((compTurn (.ListComp elt [⟨target,iter,ifs,0⟩] scope pos) 0 it acc env).onRaise (fun x=>do noteFrame x env; theTreesLotGoes x)) _ _ s
 refine wpAny_noted ?_
 rw [compTurn_list]
 refine wpAny_mono (E:=E00) ?_ (fun _ _ z=>z) (fun _ _ z=>z.elim)
 refine wpAny_bind (wpAny_standAt (wpAny_bind (wpAny_mono (turn n s hI) (fun r s₁ h₁=>?_) fun _ _ h'=>h')))
 cases r with
 | none=>exact wpAny_pure h₁
 | some v =>
  refine wpAny_bind (wpAny_mono h₁ (fun _ s₁' h₁'=>?_) fun _ _ h'=>h')
  refine wpAny_bind (wpAny_mono h₁' (fun _ s₂ h₂=>wpAny_bind (wpAny_mono h₂ (fun ok s₃ h₃=>?_) fun _ _ h'=>h')) fun _ _ h'=>h')
  cases ok with
  | false=>exact wpAny_pure ⟨rfl,h₃⟩
  | true =>
   exact wpAny_bind (wpAny_bind (wpAny_mono h₃ (fun x s₄ h₄=>wpAny_bind (wpAny_mono h₄ (fun _ s₅ h₅=>wpAny_pure (wpAny_pure ⟨rfl,h₅⟩)) fun _ _ h'=>h')) fun _ _ h'=>h'))
end
open PySem.Spec PyProof.Rows
noncomputable abbrev Cx.comp (X : Cx) (scope : Scope) (Nc : List Str) (cl : List (Str × Addr)) (C : Addr) (ex : List Addr) (s₂ : Shared) (H₂ : Hp) : Cx :=
 { X with N:=Nc,s₀:=s₂,H₀:=H₂,env:=compEnvC scope cl C X.env,outer:=X.stack,ex:=ex,fn:=fun _=>false,pn:=[],xe:=E00 }
theorem zov {env : Env} : ∀ {names : List (Str × NameKind)} {x : Str},names.lookup x = some .free ->
  (names.map fun (n,k)=>if (k == NameKind.free && env.scope.kind == .function && env.kindOf n == some .cell) then (n,NameKind.cell) else (n,k)).lookup x = some .cell \/
  (names.map fun (n,k)=>if (k == NameKind.free && env.scope.kind == .function && env.kindOf n == some .cell) then (n,NameKind.cell) else (n,k)).lookup x = some .free
 | [],_,h=>by simp at h
 | (n,k) :: r,x,h=>by
  have ih:=@zov env r x
  rw [List.map_cons]
  show List.lookup x ((if (k == NameKind.free && env.scope.kind == .function && env.kindOf n == some .cell) = true then (n,NameKind.cell) else (n,k)) :: _) = _ \/ List.lookup x ((if (k == NameKind.free && env.scope.kind == .function && env.kindOf n == some .cell) = true then (n,NameKind.cell) else (n,k)) :: _) = _
  rw [List.lookup_cons] at h
  cases hx : x == n with
  | true =>
   rw [hx] at h
   cases h
   split
   ·left; rw [List.lookup_cons,hx]
   ·right; rw [List.lookup_cons,hx]
  | false =>
   rw [hx] at h
   split
   ·rw [List.lookup_cons,hx]; exact ih h
   ·rw [List.lookup_cons,hx]; exact ih h
theorem zpc {env : Env} {k' : NameKind} (hk' : k' = .cell \/ k' = .free) : ∀ {names : List (Str × NameKind)} {x : Str},
  (names.map fun (n,k)=>if (k == NameKind.free && env.scope.kind == .function && env.kindOf n == some .cell) then (n,NameKind.cell) else (n,k)).lookup x = some k' ->
  (x,NameKind.free) ∈ names \/ (x,NameKind.cell) ∈ names
 | [],_,h=>by simp at h
 | (n,k) :: r,x,h=>by
  have ih:=@zpc env k' hk' r x
  rw [List.map_cons] at h
  have h' : List.lookup x ((if (k == NameKind.free && env.scope.kind == .function && env.kindOf n == some .cell) = true then (n,NameKind.cell) else (n,k)) :: (r.map fun (n,k)=>if (k == NameKind.free && env.scope.kind == .function && env.kindOf n == some .cell) then (n,NameKind.cell) else (n,k))) = some k':=h
  cases hx : x == n with
  | true =>
   have e:=eq_of_beq hx
   subst e
   split at h'
   ·rename_i hc
    have hk : k = .free:=by
     rw [Bool.and_eq_true,Bool.and_eq_true] at hc
     exact eq_of_beq hc.1.1
    subst hk
    exact .inl List.mem_cons_self
   ·rw [List.lookup_cons,hx] at h'
    have e : k = k':=Option.some.inj h'
    subst e
    rcases hk' with z | z
    ·subst z; exact .inr List.mem_cons_self
    ·subst z; exact .inl List.mem_cons_self
  | false =>
   have h2 : (r.map fun (n,k)=>if (k == NameKind.free && env.scope.kind == .function && env.kindOf n == some .cell) then (n,NameKind.cell) else (n,k)).lookup x = some k':=by
    split at h' <;> (rw [List.lookup_cons,hx] at h'; exact h')
   rcases ih h2 with z | z
   ·exact .inl (List.mem_cons_of_mem _ z)
   ·exact .inr (List.mem_cons_of_mem _ z)
noncomputable def zil (scope : Scope) (outer : List (Str × NameKind)) (N Nc : List Str) (k : Nat) (js : List Nat) : Bool :=
 scope.names.all (fun x=>(x.2 != .free || outer.lookup x.1 == some .cell || outer.lookup x.1 == some .free) && x.2 != .cell && (x.2 != .local || scope.names.lookup x.1 == some .local)) &&
 scope.kind == .function && Nc.length == k + js.length &&
 (List.range js.length).all (fun i=>match Nc[k + i]?,js[i]? with
  | some x,some j=>N[j]? == some x && scope.names.lookup x == some .free
  | _,_=>false)
structure zlq (scope : Scope) (outer : List (Str × NameKind)) (N Nc : List Str) (k : Nat) (js : List Nat) : Prop where
 free : ∀ x ∈ scope.names,x.2 = .free -> outer.lookup x.1 = some .cell \/ outer.lookup x.1 = some .free
 nocell : ∀ x ∈ scope.names,x.2 ≠ .cell
 loc : ∀ x ∈ scope.names,x.2 = .local -> scope.names.lookup x.1 = some .local
 kind : scope.kind = .function
 len : Nc.length = k + js.length
 at' : ∀ i j,js[i]? = some j -> ∃ x,Nc[k + i]? = some x /\ N[j]? = some x /\ scope.names.lookup x = some .free
theorem zlq.of {scope : Scope} {outer : List (Str × NameKind)} {N Nc : List Str} {k : Nat} {js : List Nat} (h : zil scope outer N Nc k js = true) : zlq scope outer N Nc k js:=by
 unfold zil at h
 rw [Bool.and_eq_true,Bool.and_eq_true,Bool.and_eq_true] at h
 obtain ⟨⟨⟨h1,h2⟩,h3⟩,h4⟩:=h
 rw [List.all_eq_true] at h1 h4
 refine ⟨fun x hx e=>?_,fun x hx e=>?_,fun x hx e=>?_,eq_of_beq h2,eq_of_beq h3,fun i j e=>?_⟩
 ·have:=h1 x hx
  simp only [Bool.and_eq_true,Bool.or_eq_true,bne_iff_ne,beq_iff_eq] at this
  rcases this.1.1 with (z | z) | z
  ·exact absurd e z
  ·exact .inl z
  ·exact .inr z
 ·have:=h1 x hx
  simp only [Bool.and_eq_true,Bool.or_eq_true,bne_iff_ne,beq_iff_eq] at this
  exact this.1.2 e
 ·have:=h1 x hx
  simp only [Bool.and_eq_true,Bool.or_eq_true,bne_iff_ne,beq_iff_eq] at this
  rcases this.2 with z | z
  ·exact absurd e z
  ·exact z
 ·have hi : i < js.length:=(List.getElem?_eq_some_iff.mp e).1
  have:=h4 i (List.mem_range.mpr hi)
  rw [e] at this
  cases q : Nc[k + i]? with
  | none=>rw [q] at this; cases this
  | some x =>
   rw [q] at this
   simp only [Bool.and_eq_true,beq_iff_eq] at this
   exact ⟨x,rfl,this.1,this.2⟩
noncomputable def zga (k : Nat) (js : List Nat) (σ : St) : St:=List.replicate k none ++ js.map fun j=>(σ[j]?).getD none
noncomputable def PTs (X : Cx) (ifs : List Expr) (t : TT) : Prop :=
 ∀ (pins : List (Addr × Obj)) (s : Shared) (σ : St) (H : Hp) (Q : Bool -> Hp -> Prop),Inv X pins σ H s -> t σ H Q ->
  wpAny (model X.prog X.w) X.A (forIn ifs true fun c r=>if r = true then do let ok <- isTrue c X.env (eval c X.env); pure (ForInStep.yield ok) else pure (ForInStep.yield r)) (TP X pins σ Q) X.xe s
noncomputable def z52 : TT:=fun _ H Q=>Q true H
theorem z29 {X : Cx} : PTs X [] z52:=fun _ _ _ H _ I h=>wpAny_tests_nil ⟨H,I,h⟩
theorem z2o {X : Cx} {c : Expr} {t : TT} (h : PT X c t) : PTs X [c] t:=fun pins s σ H Q I q=>wpAny_tests_one (h pins s σ H Q I q)
noncomputable def zun (J : It) (g : TG) (tt : TT) (te : TE) (σ0 : St) (H1 : Hp) (Q : VK) : Prop :=
 ∃ W : Nat -> Nat -> List V -> St -> Hp -> Prop,(∃ m,W 0 m [] σ0 H1) /\ ∀ i m ys σ' H',W i m ys σ' H' ->
  (J.stop i H' /\ ys.length <= sizeLine /\ ∀ D,H1 D = none -> H' D = none -> Q (.ref D) (upd H' D (.lst ys))) \/
  (J.go i H' /\ ys.length <= sizeLine /\ ∃ N : List V -> St -> Hp -> Prop,(∀ ys' σ2 H2,N ys' σ2 H2 -> ∃ m',m' < m /\ W (i + 1) m' ys' σ2 H2) /\
   ∀ x H2,J.yld i H' x H2 -> g x σ' H2 fun σ3 H3=>tt σ3 H3 fun b H4=>if b = true then te σ3 H4 fun y H5=>N (ys ++ [y]) σ3 H5 else N ys σ3 H4)
noncomputable def zqr (k : Nat) (js : List Nat) (wi : TI) (g : TG) (tt : TT) (te : TE) : TE:=fun σ H Q=>wi σ H fun J H1=>zun J g tt te (zga k js σ) H1 Q
section
variable {X : Cx} {elt tg iter : Expr} {ifs : List Expr} {scope : Scope} {pos : Pos} {Nc : List Str} {k : Nat} {js : List Nat} {wi : TI} {g : TG} {tt : TT} {te : TE}
noncomputable abbrev zfx (us : List Value) (n : Nat) : Obj:={ cls:=.type "list",data:=.seq us.toArray n }
theorem zuy {pins : List (Addr × Obj)} {σ : St} {H2 : Hp} {s2 : Shared} {it : Addr} {fp : List Addr} {tn : Nat -> Heap -> Prop} {J : It} {cl : List (Str × Addr)} {Q : VK} {RR : Value -> Addr -> Result -> Shared -> Prop} {E : Value -> Shared -> Prop}
  (hc : X.calm = true) (ck : zlq scope X.env.scope.names X.N Nc k js)
  (hg : ∀ cl C ex s₂ H₂,PG (X.comp scope Nc cl C ex s₂ H₂) tg g) (ht : ∀ cl C ex s₂ H₂,PTs (X.comp scope Nc cl C ex s₂ H₂) ifs tt) (he : ∀ cl C ex s₂ H₂,PE (X.comp scope Nc cl C ex s₂ H₂) elt te)
  (a1 : ∀ x c,cl.lookup x = some c -> X.env.cells.lookup x = some c) (a2 : ∀ x,(x,NameKind.free) ∈ scope.names -> ∃ c,cl.lookup x = some c)
  (I2 : Inv X pins σ H2 s2) (T : zh0 X.prog X.w X.K tg J fp it tn) (st2 : tn 0 s2.heap) (f2 : ∀ b ∈ fp,zft X pins H2 b) (hW : zun J g tt te (zga k js σ) H2 Q)
  (hRR : ∀ (D C : Addr) (s' : Shared) (H' : Hp),Inv X pins σ H' s' -> (∃ m,s'.heap.Ns C m) -> zft X pins H' C -> Q (.ref D) H' -> RR (.ref D) C (.ok .next) s') :
  wpAny (model X.prog X.w) X.A (newList []) (fun acc s₃=>wpAny (model X.prog X.w) X.A (newFunctionEnv scope X.env.globals cl [] X.env.qual none .none (some X.env)) (fun cenv s₄ =>
   codeAny (model X.prog X.w) X.A (.compStart (.ListComp elt [⟨tg,iter,ifs,0⟩] scope pos) 0 (.ref it) acc { cenv with scope:=relabel scope X.env }) (RR acc cenv.locals) s₄) E s₃) E s2:=by
 obtain ⟨W,⟨m0,w0⟩,turn⟩:=hW
 refine wpAny_newObj_type (wpAny_newFunctionEnv ck.nocell (by intro y hy; simp at hy) (fun h₁ hns₁ hsb₁=>?_) ck.kind)
 dsimp only at hns₁ hsb₁ ⊢
 generalize hP : s2.heap.push { cls:=.type "list",dict:=none,data:=.seq ([] : List Value).toArray } = P at hns₁ hsb₁ ⊢
 generalize hD : s2.heap.objs.size = D at hP hns₁ hsb₁ ⊢
 have hCs : P.objs.size = D + 1:=by rw [<- hP,Heap.size_push,hD]
 generalize hC : P.objs.size = C at hCs hns₁ hsb₁ ⊢
 have hDC' : D < C:=by rw [hCs]; exact Nat.lt_succ_self _
 have hDC : D ≠ C:=Nat.ne_of_lt hDC'
 have below : ∀ b o,s2.heap.get? b = some o -> b < D:=fun b o e=>hD ▸ Heap.lt_size e
 have old : ∀ b o,s2.heap.get? b = some o -> h₁.get? b = some o:=fun b o e=>by
  have hb:=below b o e
  exact hsb₁.extBut b o (Nat.ne_of_lt (Nat.lt_trans hb hDC')) (Heap.get?_push_of_some _ (hP ▸ Heap.get?_push_of_some _ e))
 have hDo : h₁.get? D = some (zfx [] 0):=hsb₁.extBut _ _ hDC (Heap.get?_push_of_some _ (by rw [<- hP,<- hD]; exact Heap.get?_push_size _ rfl))
 have Hn : ∀ b,D <= b -> H2 b = none:=fun b hb=>I2.hok.fresh (by omega)
 have fpo : ∀ b ∈ fp,b < D:=fun b hb=>by obtain ⟨o,e,_⟩:=T.obj 0 _ st2 b hb; exact below b o e
 have clo : ∀ x c,cl.lookup x = some c -> c < D:=fun x c e=>by
  obtain ⟨v,o,ho,_⟩:=I2.cell x c (a1 x c e)
  exact below c o ho
 have stko : ∀ b ∈ frs X.stack,b < D:=fun b hb=>by
  obtain ⟨_,o,ho,_⟩:=I2.stack.mem hb
  exact below b o ho
 let Y : Cx:=X.comp scope Nc cl C fp s2 H2
 have yk : Y.Ok:=by
  refine ⟨I2.ok.mod,ck.kind,I2.ok.glob,I2.ok.blt,?_,?_,?_,?_,I2.ok.hd,I2.ok.frames,.inl rfl,?_,I2.bs,?_,?_,?_,I2.stack,I2.stkFree⟩
  ·show s2.heap.objs.size <= C
   omega
  ·exact fun x y c h1 h2=>I2.ok.inj x y c (a1 x c h1) (a1 y c h2)
  ·intro x hx
   have : (x,NameKind.free) ∈ scope.names \/ (x,NameKind.cell) ∈ scope.names:=by
    rcases hx with hx | hx
    ·exact zpc (.inl rfl) hx
    ·exact zpc (.inr rfl) hx
   rcases this with z | z
   ·exact a2 x z
   ·exact absurd rfl (ck.nocell _ z)
  ·exact fun x c z=>nomatch z
  ·intro b hb
   refine ⟨?_,fun x c e=>?_⟩
   ·exact Nat.ne_of_lt (Nat.lt_trans (fpo b hb) hDC')
   ·exact (f2 b hb).2.2.2.2.1 x c (a1 x c e)
  ·exact Nat.le_trans I2.ok.bsz I2.sz
  ·intro b o e hb
   rcases (f2 b hb).2.2.2.1 with z | z
   ·exact I2.ok.noex b o e z
   ·exact absurd (Nat.lt_of_lt_of_le (Heap.lt_size e) (Nat.le_trans I2.ok.bsz z)) (Nat.lt_irrefl _)
  ·intro b hb z
   rcases List.mem_cons.mp (I2.stkSub b z) with e | e
   ·exact (f2 b hb).2.1 e
   ·exact (f2 b hb).2.2.1 e
 have I4 : Inv Y [(D,zfx [] 0)] (zga k js σ) H2 { s2 with heap:=h₁,toks:=s2.toks + ([] : List (Str × Value)).length }:=by
  refine ⟨yk,rfl,I2.bare,Un.kept old,⟨_,hns₁,fun i x v e1 e2 e3=>?_⟩,fun x c e=>?_,Hn C (by omega),fun x c e=>I2.freeC x c (a1 x c e),fun p hp=>?_,I2.hok.kept old,?_⟩
  ·have e1 : Nc[i]? = some x:=e1
   unfold zga at e2
   have hik : k <= i:=by
    rcases Nat.lt_or_ge i k with z | z
    ·rw [List.getElem?_append_left (by simpa using z),List.getElem?_replicate] at e2
     simp [z] at e2
    ·exact z
   rw [List.getElem?_append_right (by simpa using hik),List.getElem?_map] at e2
   simp only [List.length_replicate] at e2
   cases q : js[i - k]? with
   | none=>rw [q] at e2; cases e2
   | some j =>
    rw [q] at e2
    obtain ⟨x',q1,q2,q3⟩:=ck.at' _ _ q
    rw [show k + (i - k) = i by omega,e1] at q1
    cases q1
    have e2 : (σ[j]?).getD none = some v:=Option.some.inj e2
    have e2' : σ[j]? = some (some v):=by
     cases z : σ[j]? with
     | none=>rw [z] at e2; cases e2
     | some y=>rw [z] at e2; rw [show y = some v from e2]
    have hmem : (x,NameKind.free) ∈ scope.names:=by
     have : ∀ l : List (Str × NameKind),l.lookup x = some .free -> (x,NameKind.free) ∈ l:=by
      intro l
      induction l with
      | nil=>intro z; cases z
      | cons a l ih =>
       intro z
       obtain ⟨n,kk⟩:=a
       rw [List.lookup_cons] at z
       cases hb : x == n with
       | true =>
        rw [hb] at z
        cases z
        rw [eq_of_beq hb]; exact List.mem_cons_self
       | false=>rw [hb] at z; exact List.mem_cons_of_mem _ (ih z)
     exact this _ q3
    have hout : X.env.kindOf x = some .cell \/ X.env.kindOf x = some .free:=ck.free _ hmem rfl
    obtain ⟨m,hn,hl⟩:=I2.loc
    have vis : Vis X.env.scope x:=by
     rcases hout with z | z
     ·exact .inr (.inl z)
     ·exact .inr (.inr z)
    obtain ⟨u,r,l⟩:=hl j x v q2 e2' vis
    refine ⟨u,r,.inr ⟨zov q3,?_⟩⟩
    rcases l with ⟨z,_⟩ | ⟨_,c,hcl,hcell⟩
    ·rcases hout with y | y <;> (rw [y] at z; cases z)
    ·obtain ⟨c',hc'⟩:=a2 x hmem
     have:=a1 x c' hc'
     rw [hcl] at this
     cases this
     exact ⟨c,hc',hcell.keeps old⟩
  ·obtain ⟨v,z⟩:=I2.cell x c (a1 x c e)
   exact ⟨v,z.keeps old⟩
  ·have hp : p ∈ [(D,zfx [] 0)]:=(List.mem_append.mp hp).elim (fun z=>nomatch (show p ∈ ([] : List (Addr × Obj)) from z)) id
   have hp : p = (D,zfx [] 0):=List.mem_singleton.mp hp
   subst hp
   refine ⟨hDo,Hn D (Nat.le_refl _),hDC,fun z=>?_,fun v z=>by cases z⟩
   exact absurd (stko D z) (Nat.lt_irrefl _)
  ·show (zga k js σ).length = Nc.length
   rw [ck.len]
   simp [zga]
 have st1 : tn 0 h₁:=T.keep 0 _ _ st2 fun b _ o e=>old b o e
 have fpY : ∀ {H' : Hp} {p : List (Addr × Obj)},(∀ q ∈ p,q.1 = D) -> (∀ b ∈ fp,H' b = none) -> ∀ b ∈ fp,zft Y p H' b:=fun {H' p} hp hn b hb=>by
  refine ⟨hn b hb,(yk.exf b hb).1,yk.exfs b hb,.inl hb,fun x c e=>(yk.exf b hb).2 x c e,fun q hq=>?_⟩
  have hq : q ∈ p:=(List.mem_append.mp hq).elim (fun z=>nomatch (show q ∈ ([] : List (Addr × Obj)) from z)) id
  rw [hp q hq]
  exact Nat.ne_of_gt (fpo b hb)
 have loop : codeAny (model X.prog X.w) X.A (.compLoop (.ListComp elt [⟨tg,iter,ifs,0⟩] scope pos) 0 (.ref it) (.ref D) (compEnvC scope cl C X.env)) (RR (.ref D) C) { s2 with heap:=h₁,toks:=s2.toks + ([] : List (Str × Value)).length }:=by
  refine z2a (fun n s'=>∃ i ys us nn σ' H',Inv Y [(D,zfx us nn)] σ' H' s' /\ tn i s'.heap /\ (∀ b ∈ fp,H' b = none) /\ za8 ys us /\ W i n ys σ' H') ?_ m0
   ⟨0,[],[],0,zga k js σ,H2,I4,st1,fun b hb=>(f2 b hb).1,.nil,w0⟩
  rintro n s3 ⟨i,ys,us,nn,σ3,H3,I3,st3,fr3,rv,w3⟩
  have one : ∀ q ∈ [(D,zfx us nn)],q.1 = D:=fun q hq=>by
   have : q = (D,zfx us nn):=by simpa using hq
   rw [this]
  rcases turn i n ys σ3 H3 w3 with ⟨stop,hz,qn⟩ | ⟨go,hz,N,hN,step⟩
  ·refine thn (T.done Y rfl rfl rfl hc i _ s3 σ3 H3 E00 I3 (fpY one fr3) st3 stop) fun r s4 ⟨hr,I5⟩=>?_
   subst hr
   show RR (.ref D) C (.ok .next) s4
   obtain ⟨pD,nD,_,_,_⟩:=I5.pin (D,zfx us nn) (by simp)
   have bs : Un (frs X.stack) fp H2 H3 s2.heap s4.heap:=I5.base
   have h2D : ∀ b o,H2 b = some o -> b ≠ D:=fun b o e z=>by rw [z,Hn D (Nat.le_refl _)] at e; cases e
   have I6 : Inv X pins σ (upd H3 D (.lst ys)) s4:=by
    refine I2.call' (ch:=fp) I5.os ⟨bs.keep,bs.slot,fun b o e n hx=>?_,bs.there,fun b xs e=>?_,fun b o u e=>?_,fun b ps e=>?_⟩ (fun b u e=>?_) I5.bare fun b hb=>?_
    ·rw [zb0 (Nat.ne_of_lt (below b o e))]
     exact bs.free b o e n hx
    ·rw [zb0 (h2D b _ e)]; exact bs.tups b xs e
    ·rw [zb0 (h2D b _ e)]; exact bs.frzs b o u e
    ·rw [zb0 (h2D b _ e)]; exact bs.tbls b ps e
    ·by_cases hb : b = D
     ·subst hb
      rw [zcg] at e
      cases e
      exact ⟨hz,us,nn,rv,pD⟩
     ·rw [zb0 hb] at e
      exact (I5.hok b u e).stay (fun c v _ q=>q) (fun c q=>by rw [zb0 (zdq q nD)]; exact q) fun c xs q=>by rw [zb0 (zdq q nD)]; exact q
    ·obtain ⟨_,f1,_,f3,f4,f5⟩:=f2 b hb
     exact ⟨f3,f1,f4,f5⟩
   obtain ⟨m,hn,_⟩:=I5.loc
   refine hRR D C s4 _ I6 ⟨m,hn⟩ (I2.fpOk (by omega) ?_) (qn D (Hn D (Nat.le_refl _)) nD)
   rw [zb0 hDC.symm]
   exact I5.free
  ·refine thn (T.item Y rfl rfl rfl hc i _ s3 σ3 H3 E00 I3 (fpY one fr3) st3 go) fun r s4 ⟨u,hr,h4⟩=>?_
   subst hr
   refine thn h4 fun _ s5 ⟨x,H5,I5,r5,y5,st5,fr5⟩=>?_
   have I5':=I5.pinned (fpY one fr5) (T.obj _ _ st5)
   refine thn (hg cl C fp s2 H2 _ s5 σ3 H5 x u _ I5' r5 (step x H5 y5)) fun _ s6 ⟨σ6,H6,I6,q6⟩=>?_
   refine thn (ht cl C fp s2 H2 _ s6 σ6 H6 _ I6 q6) fun b s7 ⟨H7,I7,q7⟩=>?_
   have kp : ∀ {H8 : Hp} {s8 : Shared},Inv Y ([(D,zfx us nn)] ++ zlk fp s5.heap) σ6 H8 s8 -> tn (i + 1) s8.heap /\ (∀ b ∈ fp,H8 b = none):=fun {H8 s8} I8=>by
    refine ⟨T.keep _ _ _ st5 fun b hb o e=>(I8.pin (b,o) (List.mem_append_right _ (List.mem_append_right _ (zmz hb e)))).1,fun b hb=>?_⟩
    obtain ⟨o,e,d⟩:=T.obj _ _ st5 b hb
    exact (I8.pin (b,o) (List.mem_append_right _ (List.mem_append_right _ (zmz hb e)))).2.1
   cases b with
   | false =>
    rw [if_neg Bool.false_ne_true] at q7 ⊢
    obtain ⟨m',hm,w7⟩:=hN _ _ _ q7
    obtain ⟨st7,fr7⟩:=kp I7
    exact ⟨m',hm,i + 1,ys,us,nn,σ6,H7,I7.unpinned,st7,fr7,rv,w7⟩
   | true =>
    rw [if_pos rfl] at q7 ⊢
    refine thn (he cl C fp s2 H2 _ s7 σ6 H7 _ I7 q7) fun uy s8 ⟨y,H8,I8,r8,q8⟩=>?_
    obtain ⟨m',hm,w8⟩:=hN _ _ _ q8
    obtain ⟨st8,fr8⟩:=kp I8
    obtain ⟨pD,nD,pC,pF,_⟩:=I8.pin (D,zfx us nn) (by simp)
    have hl:=rv.length
    refine wpAny_list_append_plain (items:=us.toArray) ⟨nn,pD⟩ (fun h' hl' sb=>?_) (by simp only [List.size_toArray] <;> omega)
    obtain ⟨n',e'⟩:=hl'
    have I8n : Inv Y [] σ6 H8 s8:=I8.pins_of (fun _ z=>nomatch z)
    have I9 : Inv Y [] σ6 H8 { s8 with heap:=h' }:=I8n.turned (t':=s8.toks) (it:=D) (fun b o hb e=>(sb.2 b hb).trans e) nD pC (.inr (by show s2.heap.objs.size <= D; omega)) (fun x c e=>Nat.ne_of_lt (clo x c e)) (fun p hp=>nomatch hp)
    refine ⟨m',hm,i + 1,ys ++ [y],us ++ [uy],n',σ6,H8,I9.pins_of (fun p hp=>?_),?_,fr8,rv.append (.cons r8 .nil),w8⟩
    ·have hp : p = (D,zfx (us ++ [uy]) n'):=by simpa using hp
     subst hp
     refine ⟨?_,nD,pC,pF,fun v z=>by cases z⟩
     have e2 : h'.get? D = some { cls:=.type "list",data:=.seq (us.toArray.push uy) n' }:=e'
     show h'.get? D = some { cls:=.type "list",data:=.seq (us ++ [uy]).toArray n' }
     rw [e2]
     simp
    ·exact T.keep _ _ _ st8 fun b hb o e=>(sb.2 b (Nat.ne_of_lt (fpo b hb))).trans e
 exact codeAny_compStart_list loop (T.self X.A 0 _ _ _ st1 loop)
theorem zxx (k : Nat) (js : List Nat) (Nc : List Str) (hc : X.calm = true) (hi : PI X tg iter wi)
  (hg : ∀ cl C ex s₂ H₂,PG (X.comp scope Nc cl C ex s₂ H₂) tg g) (ht : ∀ cl C ex s₂ H₂,PTs (X.comp scope Nc cl C ex s₂ H₂) ifs tt) (he : ∀ cl C ex s₂ H₂,PE (X.comp scope Nc cl C ex s₂ H₂) elt te)
  (ck : zil scope X.env.scope.names X.N Nc k js = true:=by rfl) (hs : ∀ x,foldedSetIterable iter X.env x = pure x:=by intro _; rfl) :
  PE X (.ListComp elt [⟨tg,iter,ifs,0⟩] scope pos) (zqr k js wi g tt te):=by
 intro pins s σ H Q I h
 have ck:=zlq.of ck
 rw [eval_ListComp]
 obtain ⟨cl,hcl,a1,a2⟩:=zwc (scope:=scope) (env:=X.env) fun x hx e=>I.ok.has x.1 (ck.free x hx e)
 refine wpAny_comprehension_free (use:=none) rfl hs hcl ck.kind ck.loc (thn (hi pins s σ H _ I h) fun v s1 h1=>thn h1 fun itv s2 h2=>?_)
 obtain ⟨it,fp,tn,J,H2,e,I2,T,st2,f2,hW⟩:=h2
 subst e
 refine zuy (RR:=fun acc C=>compPost (model X.prog X.w) X.A X.xe none (EP X pins σ Q) acc C) hc ck hg ht he a1 a2 I2 T st2 f2 hW fun D C s' H' I' ⟨m,hn⟩ fC q=>?_
 obtain ⟨f0,f1,_,f3,f4,f5⟩:=fC
 exact ⟨m,hn,fun h' hs'=>⟨.ref D,H',I'.turned (t':=s'.toks) (fun b o hb e=>(hs'.2 b hb).trans e) f0 f1 f3 f4 f5,rfl,q⟩⟩
theorem zu0 {i : Nat} {x : Str} {pos' spos : Pos} (k : Nat) (js : List Nat) (Nc : List Str) (hN : X.N.Nodup) (hi' : X.N[i]? = some x) (hx : Loc X.env.scope x) (hc : X.calm = true) (hi : PI X tg iter wi)
  (hg : ∀ cl C ex s₂ H₂,PG (X.comp scope Nc cl C ex s₂ H₂) tg g) (ht : ∀ cl C ex s₂ H₂,PTs (X.comp scope Nc cl C ex s₂ H₂) ifs tt) (he : ∀ cl C ex s₂ H₂,PE (X.comp scope Nc cl C ex s₂ H₂) elt te)
  (hsw : swapsWith (.ListComp elt [⟨tg,iter,ifs,0⟩] scope pos) (some (.Name x pos')) spos.line X.env = pure true:=by rfl)
  (ck : zil scope X.env.scope.names X.N Nc k js = true:=by rfl) (hs : ∀ x,foldedSetIterable iter X.env x = pure x:=by intro _; rfl)
  (hf : X.fn x = true \/ X.env.scope.names.lookup x = some .local:=by first | exact .inl rfl | exact .inr rfl | assumption) :
  PS X (.Assign [.Name x pos'] (.ListComp elt [⟨tg,iter,ifs,0⟩] scope pos) spos) (zig (zqr k js wi g tt te) (zhi i)):=by
 intro pins s σ H D I h
 have ck:=zlq.of ck
 rw [exec_Assign_Name_used _ _ _ _ hsw]
 refine wpAny_bind (wpAny_standAt (wpAny_bind ?_))
 show wpAny _ X.A (do let _ <- comprehension (.ListComp elt [⟨tg,iter,ifs,0⟩] scope pos) scope X.env _ (newList []) false (eval iter X.env) (some (assign (.Name x pos') X.env))) _ _ s
 obtain ⟨cl,hcl,a1,a2⟩:=zwc (scope:=scope) (env:=X.env) fun x hx e=>I.ok.has x.1 (ck.free x hx e)
 refine wpAny_bind (wpAny_mono (wpAny_comprehension_free (use:=some (assign (.Name x pos') X.env)) (Q:=fun _ s'=>SP X pins D .next s') rfl hs hcl ck.kind ck.loc
  (thn (hi pins s σ H _ I h) fun v s1 h1=>thn h1 fun itv s2 h2=>?_)) (fun _ s' hq=>wpAny_pure (wpAny_pure hq)) fun _ _ e=>e)
 obtain ⟨it,fp,tn,J,H2,e,I2,T,st2,f2,hW⟩:=h2
 subst e
 refine zuy (RR:=fun acc C=>compPost (model X.prog X.w) X.A X.xe (some (assign (.Name x pos') X.env)) (fun _ s'=>SP X pins D .next s') acc C) hc ck hg ht he a1 a2 I2 T st2 f2 hW fun D' C s' H' I' ⟨m,hn⟩ fC q=>?_
 obtain ⟨f0,f1,f2',f3,f4,f5⟩:=fC
 show wpAny _ X.A (assign (.Name x pos') X.env (.ref D')) _ _ _
 refine wpAny_assign_Name (zs3 (v:=.ref D') I' hN hi' hx rfl (fun s'' I'' ⟨a,sb,ha⟩=>?_) hf)
 have hCa : C ≠ a:=by
  rcases ha with z | z
  ·rw [z]; exact f1
  ·exact (f4 x a z).symm
 exact ⟨m,hn.sameBut sb hCa,fun h' hs'=>⟨_,H',I''.turned (t':=s''.toks) (fun b o hb e=>(hs'.2 b hb).trans e) f0 f1 f3 f4 f5,q⟩⟩
end
section
variable {K : PySem.W.Frag} {g : TG} {tt : TT} {te : TE} {σ0 : St} {H1 : Hp} {Q : VK}
end
section
variable {X : Cx}
theorem zvv : OpR X (compareOp .Is) (fun x y H Q=>∃ b,y = .bl b /\ (x = .non \/ ∃ c,x = .bl c) /\ Q (.bl (decide (x = .bl b))) H):=by
 intro pins s σ H x y v u Q I rx ry h
 obtain ⟨b,rfl,hx,q⟩:=h
 cases ry
 rcases hx with rfl | ⟨c,rfl⟩
 ·cases rx
  exact wpAny_is_plain rfl (zch I q (by cases b <;> rfl))
 ·cases rx
  exact wpAny_is_plain rfl (zch I q (by cases b <;> cases c <;> rfl))
theorem zu8 : OpR X (compareOp .IsNot) (fun x y H Q=>∃ b,y = .bl b /\ (x = .non \/ ∃ c,x = .bl c) /\ Q (.bl (!decide (x = .bl b))) H):=by
 intro pins s σ H x y v u Q I rx ry h
 obtain ⟨b,rfl,hx,q⟩:=h
 cases ry
 rcases hx with rfl | ⟨c,rfl⟩
 ·cases rx
  exact wpAny_isNot_plain rfl (zch I q (by cases b <;> rfl))
 ·cases rx
  exact wpAny_isNot_plain rfl (zch I q (by cases b <;> cases c <;> rfl))
theorem z6m (hc : X.calm = true) : zf6 X (.builtin "sum") (fun xs H Q=>∃ (p : Addr) (ns : List Int),xs = [.ref p] /\ SqL X.K H p (ns.map V.int) /\ Q (.int ns.sum) H):=by
 intro pins s σ H xs us Q I r h
 obtain ⟨p,ns,rfl,hq,q⟩:=h
 obtain ⟨u,rfl,rx⟩:=zh6 r
 cases rx
 obtain ⟨its,r',pl,hz⟩:=I.list hq
 have hi : IntsAre its ns:=z7t r'
 obtain ⟨xs,e⟩:=hi.allInts.items
 refine sum_intListG (I.ok.hd hc) (xs:=xs) (by rw [<- e]; exact pl.isList) fun h' tk t' hk=>?_
 have es : preSum (numAt xs) xs.size = ns.sum:=by
  rw [preSum_eq,List.take_of_length_le (by simp),<- nums_intItems,<- e]
  show (numsOf its).sum = ns.sum
  rw [hi.numsOf]
 rw [es]
 exact ⟨.int ns.sum,H,I.kept hk,⟨_,rfl⟩,q⟩
theorem z02 : zf6 X (.builtin "isinstance") (fun xs H Q=>∃ x T t b,xs = [x,.ty T] /\ ze0 X.K H x t /\ PySem.W.kitOne X.K t (.type T) = some b /\ Q (.bl b) H):=by
 intro pins s σ H xs us Q I r h
 obtain ⟨x,T,t,b,rfl,ty,e,q⟩:=h
 obtain ⟨u,w',rfl,rx,rc⟩:=zwn r
 cases (show w' = Value.type T from rc)
 exact z1v I rx ty e fun tk=>⟨.bl b,H,I.tok tk,rfl,q⟩
end
theorem za8.at' {xs : List V} {us : List Value} {i : Nat} {u : Value} (r : za8 xs us) (e : us[i]? = some u) : ∃ x,xs[i]? = some x /\ za6 x u:=by
 have hl:=r.length
 have hi : i < xs.length:=by have:=(List.getElem?_eq_some_iff.mp e).1; omega
 refine ⟨xs[i],by simp [hi],?_⟩
 obtain ⟨u',e',r'⟩:=r.get (i:=i) (x:=xs[i]) (by simp [hi])
 rw [e] at e'; cases e'; exact r'
section
variable {X : Cx} {pins : List (Addr × Obj)} {σ : St} {H : Hp} {s : Shared}
end
theorem zk5 {env : Env} {k' : NameKind} (hk : k' ≠ .free) : ∀ {names : List (Str × NameKind)} {x : Str},names.lookup x = some k' ->
  (names.map fun (n,k)=>if (k == NameKind.free && env.scope.kind == .function && env.kindOf n == some .cell) then (n,NameKind.cell) else (n,k)).lookup x = some k'
 | [],_,h=>by simp at h
 | (n,k) :: r,x,h=>by
  have ih:=@zk5 env k' hk r x
  rw [List.map_cons]
  show List.lookup x ((if (k == NameKind.free && env.scope.kind == .function && env.kindOf n == some .cell) = true then (n,NameKind.cell) else (n,k)) :: _) = _
  rw [List.lookup_cons] at h
  cases hx : x == n with
  | true =>
   rw [hx] at h
   have e : k = k':=Option.some.inj h
   subst e
   have hf : (k == NameKind.free) = false:=by simpa using hk
   rw [hf,Bool.false_and,Bool.false_and,if_neg Bool.false_ne_true,List.lookup_cons,hx]
  | false =>
   rw [hx] at h
   split
   ·rw [List.lookup_cons,hx]; exact ih h
   ·rw [List.lookup_cons,hx]; exact ih h
theorem z5u {env : Env} {scope : Scope} {x : Str} (h : Vis scope x) : Vis (relabel scope env) x:=by
 rcases h with h | h | h
 ·exact .inl (zk5 (by decide) h)
 ·exact .inr (.inl (zk5 (by decide) h))
 ·rcases zov (env:=env) h with z | z
  ·exact .inr (.inl z)
  ·exact .inr (.inr z)
section
variable {X : Cx} {scope : Scope} {Nc : List Str} {cl : List (Str × Addr)} {C : Addr} {ex : List Addr} {s₂ : Shared} {H₂ : Hp}
theorem pvc (i : Nat) {x : Str} {pos : Pos} (hN : Nc[i]? = some x:=by rfl) (hv : Vis scope x:=by first | exact Or.inl rfl | exact Or.inr (Or.inl rfl) | exact Or.inr (Or.inr rfl)) (hd : (x == ("__debug__" : Str)) = false:=by decide)
  (hcd : (x == ("__classdict__" : Str)) = false:=by decide) : PE (X.comp scope Nc cl C ex s₂ H₂) (.Name x pos) (zei i):=zgu hN (z5u hv) hd hcd
theorem pgc (i : Nat) {x : Str} {pos : Pos} (hN : Nc.Nodup:=by decide +kernel) (hi : Nc[i]? = some x:=by rfl) (hl : scope.names.lookup x = some .local:=by rfl) : PG (X.comp scope Nc cl C ex s₂ H₂) (.Name x pos) (zhi i) :=
 zr0 (X:=X.comp scope Nc cl C ex s₂ H₂) hN hi (.inl (zk5 (by decide) hl)) (.inr (zk5 (by decide) hl))
theorem glc {x : Str} (h : scope.names.lookup x = some .globalImplicit) : Gl (X.comp scope Nc cl C ex s₂ H₂) x:=zk5 (env:=X.env) (by decide) h
end
theorem zc2 {H : Hp} {p : Addr} {o : HO} (h : H p = none) : za5 H (upd H p o):=fun b u e=>by rw [zb0 (zdq e h)]; exact e
theorem za5.tup {K : PySem.W.Frag} {H H' : Hp} {a : Addr} {xs : List V} (e : za5 H H') (h : SqT K H a xs) : SqT K H' a xs:=by
 rcases h with (h | ⟨o,h⟩) | h
 ·exact .inl (.inl (e _ _ h))
 ·exact .inl (.inr ⟨o,e _ _ h⟩)
 ·exact .inr h
noncomputable def zgm (p : Option Bool -> Bool) (es : List (Option Bool)) (its : List (Int × Int)) : Int:=((its.filter fun z=>p (es.getD z.1.toNat none)).map (·.2)).sum
inductive Prt where
 | inn (t : Int) | out (t : Int) | least (k : Int) (its : List (Int × Int)) | most (k : Int) (its : List (Int × Int))
noncomputable def bs (l : List Bool) : List (Option Bool):=l.map some
noncomputable def Prt.holds (rs ws : List Bool) : Prt -> Bool
 | .inn t=>(rs.getD t.toNat false)
 | .out t=>!(ws.getD t.toNat false)
 | .least k its=>decide (k <= zgm (· == some true) (bs rs) its)
 | .most k its=>decide (zgm (· == some true) (bs ws) its <= k)
section
variable {X : Cx} {pins : List (Addr × Obj)} {σ : St} {H : Hp} {s : Shared} {h' : Heap}
theorem Inv.turnedMany {t' : Nat} {ch : List Addr} (I : Inv X pins σ H s) (k : ∀ b o,b ∉ ch -> s.heap.get? b = some o -> h'.get? b = some o) (hf : ∀ b ∈ ch,zft X pins H b) : Inv X pins σ H { s with heap:=h',toks:=t' }:=by
 refine I.step (g':=s.gens) (d':=s.drawn) (ch:=ch) (fun b hb=>?_) (fun b o _ _ hc e _=>k b o hc e) (fun b o _ _ hc e _=>⟨o.slots,k b o hc e⟩) (fun _ _ _ _ n=>n)
  (fun b o hc e=>⟨o,k b o hc e⟩) (fun _ _ e=>e) (fun _ _ _ e=>e) (fun b ps e=>⟨#[],by rw [e]; simp⟩) (fun m hm=>?_) (fun b u e=>?_) I.bare
 ·obtain ⟨_,f1,_,f3,f4,f5⟩:=hf b hb
  exact ⟨f3,f1,f4,f5⟩
 ·obtain ⟨o,es,ep,ho,r⟩:=hm
  exact ⟨o,es,ep,k _ o (fun z=>(hf _ z).2.1 rfl) ho,r⟩
 ·refine (I.hok b u e).stay (fun c v hc q=>k c v (fun z=>?_) q) (fun _ q=>q) fun _ _ q=>q
  have hn:=(hf c z).1
  rcases hc with y | y
  ·rw [y,e] at hn; cases hn
  ·rw [hn] at y; cases y
theorem Inv.track {p : Addr} {o : HO} (I : Inv X pins σ H s) (f : zft X pins H p) (ob : zcx X.prog X.w (upd H p o) s.heap p o) : Inv X pins σ (upd H p o) s:=by
 obtain ⟨f0,f1,f2,f3,f4,f5⟩:=f
 have ne : ∀ b u,H b = some u -> b ≠ p:=fun b u e=>zdq e f0
 have one : ∀ b : Addr,b ∉ [p] -> b ≠ p:=fun b hb z=>hb (by rw [z]; simp)
 refine I.step (g':=s.gens) (d':=s.drawn) (t':=s.toks) (h':=s.heap) (ch:=[p]) (fun b hb=>?_) (fun b o _ _ hc e _=>e) (fun b o _ _ hc e _=>⟨o.slots,e⟩) (fun b o hc e n=>?_)
  (fun b o hc e=>⟨o,e⟩) (fun b xs e=>?_) (fun b o u e=>?_) (fun b ps e=>⟨#[],?_⟩) (fun m hm=>hm) (fun b u e=>?_) I.bare
 ·have e : b = p:=by simpa using hb
  subst e
  exact ⟨f3,f1,f4,f5⟩
 ·rw [zb0 (one b hc)]; exact n
 ·rw [zb0 (ne b _ e)]; exact e
 ·rw [zb0 (ne b _ e)]; exact e
 ·rw [zb0 (ne b _ e),e]; simp
 ·by_cases hb : b = p
  ·subst hb
   rw [zcg] at e
   cases e
   exact ob
  ·rw [zb0 hb] at e
   exact (I.hok b u e).stay (fun c v _ q=>q) (fun c q=>by rw [zb0 (ne c _ q)]; exact q) fun c xs q=>by rw [zb0 (ne c _ q)]; exact q
end
section
variable {X : Cx} {elts : List Expr} {kx : Nat} {tpos : Pos}
end
noncomputable def zfv (p : Int -> Bool) (its : List (Int × Int)) : Int:=((its.filter fun z=>p z.1).map (·.2)).sum
theorem zs1 (p : Option Bool -> Bool) (es : List (Option Bool)) (its : List (Int × Int)) : zgm p es its = zfv (fun t=>p (es.getD t.toNat none)) its:=rfl
theorem z6p (p q : Int -> Bool) (its : List (Int × Int)) : zfv p (its.filter fun z=>q z.1) = zfv (fun t=>p t && q t) its:=by
 unfold zfv
 rw [List.filter_filter]
noncomputable def Prt.sure (es : List (Option Bool)) : Prt -> Bool
 | .inn t=>es.getD t.toNat none == some true
 | .out t=>es.getD t.toNat none == some false
 | .least k its=>decide (k <= zgm (· == some true) es its)
 | .most k its=>decide (zgm (fun e=>!(e == some false)) es its <= k)
noncomputable def Prt.lost (es : List (Option Bool)) (ws : List Bool) : Prt -> Bool
 | .inn t=>(es.getD t.toNat none == some false) || ws.getD t.toNat false
 | .out t=>es.getD t.toNat none == some true
 | .least k its=>decide (zfv (fun t=>!(es.getD t.toNat none == some false) && !(ws.getD t.toNat false)) its < k)
 | .most k its=>decide (k < zgm (· == some true) es its)
inductive D where
 | non
 | bl (b : Bool)
 | int (i : Int)
 | str (x : Str)
 | lst (xs : List D)
 | tup (xs : List D)
 | kl (xs : List D)
 | kt (xs : List D)
 | dic (ks : List Key) (xs : List D)
 | ins (c : Str) (ns : List Str) (xs : List D)
 deriving Inhabited
set_option genInjectivity false in
structure Gc where
 K : PySem.W.Frag
 cl : Str -> Addr
mutual
noncomputable def Rep (G : Gc) (H : Hp) : D -> V -> Prop
 | .non,v=>v = .non
 | .bl b,v=>v = .bl b
 | .int i,v=>v = .int i
 | .str x,v=>v = .str x
 | .lst ds,v=>∃ a vs,v = .ref a /\ H a = some (.lst vs) /\ zas G H ds vs
 | .tup ds,v=>∃ a vs,v = .ref a /\ H a = some (.tup vs) /\ zas G H ds vs
 | .kl ds,v=>∃ a vs,v = .ref a /\ SqL G.K H a vs /\ zas G H ds vs
 | .kt ds,v=>∃ a vs,v = .ref a /\ SqT G.K H a vs /\ zas G H ds vs
 | .dic ks ds,v=>∃ a vs,v = .ref a /\ H a = some (.dK (ks.zip vs)) /\ ks.length = vs.length /\ zas G H ds vs
 | .ins c ns ds,v=>∃ a dx vs,v = .ref a /\ H a = some (.ins (G.cl c) dx (ns.zip vs)) /\ ns.length = vs.length /\ zas G H ds vs
noncomputable def zas (G : Gc) (H : Hp) : List D -> List V -> Prop
 | [],vs=>vs = []
 | d :: ds,vs=>∃ v r,vs = v :: r /\ Rep G H d v /\ zas G H ds r
end
section
variable {G : Gc} {H H' Hf Hf' : Hp}
mutual
theorem Rep.upM (s : za5 H H') : ∀ (d : D) (v : V),Rep G H d v -> Rep G H' d v
 | .non,_,h=>h
 | .bl _,_,h=>h
 | .int _,_,h=>h
 | .str _,_,h=>h
 | .lst ds,_,⟨a,vs,e,q,r⟩=>⟨a,vs,e,s _ _ q,zas.upM s ds vs r⟩
 | .tup ds,_,⟨a,vs,e,q,r⟩=>⟨a,vs,e,s _ _ q,zas.upM s ds vs r⟩
 | .kl ds,_,⟨a,vs,e,q,r⟩=>⟨a,vs,e,s.seq q,zas.upM s ds vs r⟩
 | .kt ds,_,⟨a,vs,e,q,r⟩=>⟨a,vs,e,s.tup q,zas.upM s ds vs r⟩
 | .dic _ ds,_,⟨a,vs,e,q,l,r⟩=>⟨a,vs,e,s _ _ q,l,zas.upM s ds vs r⟩
 | .ins _ _ ds,_,⟨a,dx,vs,e,q,l,r⟩=>⟨a,dx,vs,e,s _ _ q,l,zas.upM s ds vs r⟩
theorem zas.upM (s : za5 H H') : ∀ (ds : List D) (vs : List V),zas G H ds vs -> zas G H' ds vs
 | [],_,h=>h
 | d :: ds,_,⟨v,r,e,h1,h2⟩=>⟨v,r,e,Rep.upM s d v h1,zas.upM s ds r h2⟩
end
theorem Rep.up {d : D} {v : V} (r : Rep G H d v) (s : za5 H H') : Rep G H' d v:=Rep.upM s d v r
theorem zas.up {ds : List D} {vs : List V} (r : zas G H ds vs) (s : za5 H H') : zas G H' ds vs:=zas.upM s ds vs r
theorem zas.nil : zas G H [] []:=rfl
theorem zas.cons {d : D} {ds : List D} {v : V} {vs : List V} (h : Rep G H d v) (t : zas G H ds vs) : zas G H (d :: ds) (v :: vs):=⟨v,vs,rfl,h,t⟩
theorem zas.length : ∀ {ds : List D} {vs : List V},zas G H ds vs -> ds.length = vs.length
 | [],_,h=>by cases (show _ = [] from h); rfl
 | d :: ds,_,⟨v,r,e,_,h⟩=>by subst e; simp [zas.length h]
theorem zas.append : ∀ {ds es : List D} {vs us : List V},zas G H ds vs -> zas G H es us -> zas G H (ds ++ es) (vs ++ us)
 | [],_,_,_,h,t=>by cases (show _ = [] from h); exact t
 | d :: ds,_,_,_,⟨v,r,e,h1,h2⟩,t=>by subst e; exact ⟨v,r ++ _,rfl,h1,zas.append h2 t⟩
theorem zas.get : ∀ {ds : List D} {vs : List V} {i : Nat} {d : D},zas G H ds vs -> ds[i]? = some d -> ∃ v,vs[i]? = some v /\ Rep G H d v
 | [],_,_,_,_,e=>by simp at e
 | d :: ds,_,0,_,⟨v,r,e,h1,_⟩,e'=>by subst e; simp at e'; subst e'; exact ⟨v,rfl,h1⟩
 | d :: ds,_,i + 1,d',⟨v,r,e,_,h2⟩,e'=>by
  subst e
  obtain ⟨u,a,b⟩:=zas.get (i:=i) (d:=d') h2 (by simpa using e')
  exact ⟨u,by simpa using a,b⟩
theorem zas.get' : ∀ {ds : List D} {vs : List V} {i : Nat} {v : V},zas G H ds vs -> vs[i]? = some v -> ∃ d,ds[i]? = some d /\ Rep G H d v:=fun {ds vs i v} h e=>by
 have hl:=h.length
 have hi : i < ds.length:=by have:=(List.getElem?_eq_some_iff.mp e).1; omega
 obtain ⟨u,a,b⟩:=h.get (i:=i) (d:=ds[i]) (by simp [hi])
 rw [e] at a; cases a
 exact ⟨ds[i],by simp [hi],b⟩
theorem zas.ints : ∀ (ns : List Int),zas G H (ns.map D.int) (ns.map V.int)
 | []=>rfl
 | n :: ns=>⟨_,_,rfl,rfl,zas.ints ns⟩
theorem zas.take : ∀ {ds : List D} {vs : List V} (n : Nat),zas G H ds vs -> zas G H (ds.take n) (vs.take n)
 | _,_,0,_=>rfl
 | [],_,n + 1,h=>by cases (show _ = [] from h); rfl
 | d :: ds,_,n + 1,⟨v,r,e,h1,h2⟩=>by subst e; exact ⟨v,r.take n,rfl,h1,zas.take n h2⟩
theorem zas.drop : ∀ {ds : List D} {vs : List V} (n : Nat),zas G H ds vs -> zas G H (ds.drop n) (vs.drop n)
 | _,_,0,h=>h
 | [],_,n + 1,h=>by cases (show _ = [] from h); rfl
 | d :: ds,_,n + 1,⟨v,r,e,h1,h2⟩=>by subst e; exact zas.drop n h2
theorem zas.set : ∀ {ds : List D} {vs : List V} (i : Nat) {d : D} {v : V},zas G H ds vs -> Rep G H d v -> zas G H (ds.set i d) (vs.set i v)
 | [],_,_,_,_,h,_=>by cases (show _ = [] from h); exact .nil
 | e :: ds,_,0,_,_,⟨v,r,e',_,h2⟩,q=>by subst e'; exact ⟨_,r,rfl,q,h2⟩
 | e :: ds,_,i + 1,_,_,⟨v,r,e',h1,h2⟩,q=>by subst e'; exact ⟨v,r.set i _,rfl,h1,zas.set i h2 q⟩
end
noncomputable def zrr : HO -> Bool
 | .tup _=>true
 | _=>false
structure Ext (Hf H Hf' H' : Hp) : Prop where
 f : za5 Hf Hf'
 h : za5 H H'
 s : za5 Hf' H'
 n : ∀ l o,H l = some o -> zrr o = false -> Hf' l = Hf l
section
variable {Hf H Hf1 H1 Hf2 H2 : Hp} {p : Addr} {o : HO}
theorem Ext.refl (s : za5 Hf H) : Ext Hf H Hf H:=⟨za5.refl _,za5.refl _,s,fun _ _ _ _=>rfl⟩
theorem Ext.trans (a : Ext Hf H Hf1 H1) (b : Ext Hf1 H1 Hf2 H2) : Ext Hf H Hf2 H2:=⟨a.f.trans b.f,a.h.trans b.h,b.s,fun l o e t=>(b.n l o (a.h l o e) t).trans (a.n l o e t)⟩
theorem Ext.new (s : za5 Hf H) (h : H p = none) : Ext Hf H (upd Hf p o) (upd H p o) :=
 ⟨zc2 (s.free h),zc2 h,fun b u e=>by
  by_cases hb : b = p
  ·subst hb; rw [zcg] at e ⊢; exact e
  ·rw [zb0 hb] at e ⊢; exact s b u e,fun l u e _=>by rw [zb0 (zdq e h)]⟩
theorem Ext.tmp (s : za5 Hf H) (h : H p = none) : Ext Hf H Hf (upd H p o):=⟨za5.refl _,zc2 h,s.trans (zc2 h),fun _ _ _ _=>rfl⟩
theorem Ext.grow (s : za5 Hf H) (g : za5 H H1) : Ext Hf H Hf H1:=⟨za5.refl _,g,s.trans g,fun _ _ _ _=>rfl⟩
theorem Ext.fix (a : Ext Hf H Hf1 H1) (hn : H p = none) (hf : Hf1 p = none) (hp : H1 p = some o) : Ext Hf H (upd Hf1 p o) H1 :=
 ⟨a.f.trans (zc2 hf),a.h,fun b u e=>by
  by_cases hb : b = p
  ·subst hb; rw [zcg] at e; rw [hp]; exact e
  ·rw [zb0 hb] at e; exact a.s b u e,fun l u e t=>by rw [zb0 (zdq e hn)]; exact a.n l u e t⟩
end
inductive Sl where
 | no
 | im (d : D)
 | own (xs : List D)
 | ownd (ks : List Key) (xs : List D)
 | obj (c : Str) (ns : List Str) (xs : List D)
 | pin (l : Addr) (xs : List D)
noncomputable def Sl.isOwn : Sl -> Bool
 | .own _=>true
 | .ownd _ _=>true
 | .obj _ _ _=>true
 | .pin _ _=>true
 | _=>false
noncomputable def ze1 (G : Gc) (Hf H : Hp) (l : Addr) : Sl -> Prop
 | .own ds=>∃ vs,H l = some (.lst vs) /\ zas G Hf ds vs
 | .ownd ks ds=>∃ vs,H l = some (.dK (ks.zip vs)) /\ ks.length = vs.length /\ zas G Hf ds vs
 | .obj c ns ds=>∃ dx vs,H l = some (.ins (G.cl c) dx (ns.zip vs)) /\ ns.length = vs.length /\ zas G Hf ds vs
 | .pin l0 ds=>l = l0 /\ ∃ vs,H l = some (.lst vs) /\ zas G Hf ds vs
 | _=>False
theorem ze1.there {G : Gc} {Hf H : Hp} {l : Addr} {s : Sl} (h : ze1 G Hf H l s) : ∃ o,H l = some o:=by
 cases s with
 | own ds=>obtain ⟨vs,h,_⟩:=h; exact ⟨_,h⟩
 | ownd ks ds=>obtain ⟨vs,h,_⟩:=h; exact ⟨_,h⟩
 | obj c ns ds=>obtain ⟨dx,vs,h,_⟩:=h; exact ⟨_,h⟩
 | pin l0 ds=>obtain ⟨_,vs,h,_⟩:=h; exact ⟨_,h⟩
 | _=>exact h.elim
theorem ze1.there2 {G : Gc} {Hf H : Hp} {l : Addr} {s : Sl} (h : ze1 G Hf H l s) : ∃ o,H l = some o /\ zrr o = false:=by
 cases s with
 | own ds=>obtain ⟨vs,h,_⟩:=h; exact ⟨_,h,rfl⟩
 | ownd ks ds=>obtain ⟨vs,h,_⟩:=h; exact ⟨_,h,rfl⟩
 | obj c ns ds=>obtain ⟨dx,vs,h,_⟩:=h; exact ⟨_,h,rfl⟩
 | pin l0 ds=>obtain ⟨_,vs,h,_⟩:=h; exact ⟨_,h,rfl⟩
 | _=>exact h.elim
theorem ze1.up {G : Gc} {Hf H Hf' H' : Hp} {l : Addr} {s : Sl} (h : ze1 G Hf H l s) (f : za5 Hf Hf') (e : ∀ o,H l = some o -> H' l = some o) : ze1 G Hf' H' l s:=by
 cases s with
 | own ds=>obtain ⟨vs,h,r⟩:=h; exact ⟨vs,e _ h,r.up f⟩
 | ownd ks ds=>obtain ⟨vs,h,z,r⟩:=h; exact ⟨vs,e _ h,z,r.up f⟩
 | obj c ns ds=>obtain ⟨dx,vs,h,z,r⟩:=h; exact ⟨dx,vs,e _ h,z,r.up f⟩
 | pin l0 ds=>obtain ⟨q,vs,h,r⟩:=h; exact ⟨q,vs,e _ h,r.up f⟩
 | _=>exact h.elim
noncomputable def zi9 (G : Gc) (H0 Hf H : Hp) (v : Option V) : Sl -> Prop
 | .no=>True
 | .im d=>∃ u,v = some u /\ Rep G Hf d u
 | s=>∃ l,v = some (.ref l) /\ H0 l = none /\ Hf l = none /\ ze1 G Hf H l s
theorem zi9.own {G : Gc} {H0 Hf H : Hp} {v : Option V} {s : Sl} (hs : s.isOwn = true) (h : zi9 G H0 Hf H v s) : ∃ l,v = some (.ref l) /\ H0 l = none /\ Hf l = none /\ ze1 G Hf H l s:=by
 cases s <;> first | exact h | cases hs
theorem zi9.ofOwn {G : Gc} {H0 Hf H : Hp} {v : Option V} {s : Sl} (hs : s.isOwn = true) (h : ∃ l,v = some (.ref l) /\ H0 l = none /\ Hf l = none /\ ze1 G Hf H l s) : zi9 G H0 Hf H v s:=by
 cases s <;> first | exact h | cases hs
structure za0 (G : Gc) (Hf0 H0 Hf H : Hp) (σ : St) (ρ : List Sl) : Prop where
 ext : Ext Hf0 H0 Hf H
 len : σ.length = ρ.length
 at' : ∀ (i : Nat) (v : Option V) (s : Sl),σ[i]? = some v -> ρ[i]? = some s -> zi9 G H0 Hf H v s
 inj : ∀ (i j : Nat) (s t : Sl) (l : Addr),ρ[i]? = some s -> ρ[j]? = some t -> s.isOwn = true -> t.isOwn = true -> σ[i]? = some (some (.ref l)) -> σ[j]? = some (some (.ref l)) -> i = j
section
variable {G : Gc} {Hf0 H0 Hf H Hf' H' : Hp} {σ : St} {ρ : List Sl}
theorem za0.sub (h : za0 G Hf0 H0 Hf H σ ρ) : za5 Hf H:=h.ext.s
theorem za0.step (h : za0 G Hf0 H0 Hf H σ ρ) (e : Ext Hf H Hf' H') : za0 G Hf0 H0 Hf' H' σ ρ:=by
 refine ⟨h.ext.trans e,h.len,fun i v s a b=>?_,h.inj⟩
 have q:=h.at' i v s a b
 cases hs : s.isOwn with
 | true =>
  obtain ⟨l,e1,e2,e3,e4⟩:=q.own hs
  obtain ⟨o,ho,ht⟩:=e4.there2
  exact .ofOwn hs ⟨l,e1,e2,by rw [e.n l o ho ht]; exact e3,e4.up e.f fun o ho=>e.h _ _ ho⟩
 | false =>
  cases s with
  | no=>trivial
  | im d=>obtain ⟨u,e1,r⟩:=q; exact ⟨u,e1,r.up e.f⟩
  | _=>cases hs
theorem za0.slot {i : Nat} {s : Sl} (h : za0 G Hf0 H0 Hf H σ ρ) (e : ρ[i]? = some s) : ∃ v,σ[i]? = some v /\ zi9 G H0 Hf H v s:=by
 have hi : i < σ.length:=by rw [h.len]; exact (List.getElem?_eq_some_iff.mp e).1
 exact ⟨σ[i],by simp [hi],h.at' i _ s (by simp [hi]) e⟩
theorem za0.imm {i : Nat} {d : D} (h : za0 G Hf0 H0 Hf H σ ρ) (e : ρ[i]? = some (.im d)) : ∃ v,σ[i]? = some (some v) /\ Rep G Hf d v:=by
 obtain ⟨v,e1,u,e2,r⟩:=h.slot e
 subst e2
 exact ⟨u,e1,r⟩
theorem za0.ownAt {i : Nat} {s : Sl} (hs : s.isOwn = true) (h : za0 G Hf0 H0 Hf H σ ρ) (e : ρ[i]? = some s) : ∃ l,σ[i]? = some (some (.ref l)) /\ H0 l = none /\ Hf l = none /\ ze1 G Hf H l s:=by
 obtain ⟨v,e1,q⟩:=h.slot e
 obtain ⟨l,e2,q2⟩:=q.own hs
 rw [e2] at e1
 exact ⟨l,e1,q2⟩
theorem zc9 {α : Type} {l : List α} {i j : Nat} {x y : α} (h : (l.set i x)[j]? = some y) : (j = i /\ y = x /\ i < l.length) \/ (j ≠ i /\ l[j]? = some y):=by
 by_cases hj : j = i
 ·subst hj
  left
  have hi : j < l.length:=by have:=(List.getElem?_eq_some_iff.mp h).1; simpa using this
  rw [List.getElem?_set_self hi] at h
  exact ⟨rfl,(Option.some.inj h).symm,hi⟩
 ·right
  rw [List.getElem?_set_ne (Ne.symm hj)] at h
  exact ⟨hj,h⟩
theorem za0.setIm {i : Nat} {d : D} {v : V} (h : za0 G Hf0 H0 Hf H σ ρ) (r : Rep G Hf d v) : za0 G Hf0 H0 Hf H (σ.set i (some v)) (ρ.set i (.im d)):=by
 refine ⟨h.ext,by simpa using h.len,fun j u s a b=>?_,fun j k s t l a b hs ht c d'=>?_⟩
 ·rcases zc9 b with ⟨e,e',_⟩ | ⟨e,b⟩
  ·subst e e'
   rcases zc9 a with ⟨_,e',_⟩ | ⟨e,_⟩
   ·subst e'; exact ⟨v,rfl,r⟩
   ·exact absurd rfl e
  ·rcases zc9 a with ⟨e',_⟩ | ⟨_,a⟩
   ·exact absurd e' e
   ·exact h.at' j u s a b
 ·rcases zc9 a with ⟨e,e',_⟩ | ⟨e,a⟩
  ·subst e'; cases hs
  ·rcases zc9 b with ⟨e2,e',_⟩ | ⟨e2,b⟩
   ·subst e'; cases ht
   ·rcases zc9 c with ⟨e',_⟩ | ⟨_,c⟩
    ·exact absurd e' e
    ·rcases zc9 d' with ⟨e',_⟩ | ⟨_,d'⟩
     ·exact absurd e' e2
     ·exact h.inj j k s t l a b hs ht c d'
theorem za0.setOwn {i : Nat} {l : Addr} {s : Sl} (hs : s.isOwn = true) (h : za0 G Hf0 H0 Hf H σ ρ) (e : Ext Hf H Hf' H') (hn : H l = none) (hf : Hf' l = none) (ho : ze1 G Hf' H' l s) :
  za0 G Hf0 H0 Hf' H' (σ.set i (some (.ref l))) (ρ.set i s):=by
 have h':=h.step e
 have no : ∀ (j : Nat) (t : Sl),ρ[j]? = some t -> t.isOwn = true -> σ[j]? = some (some (.ref l)) -> False:=fun j t b ht c=>by
  obtain ⟨l',e1,_,_,q⟩:=h.ownAt ht b
  rw [c] at e1; cases e1
  obtain ⟨o,ho⟩:=q.there
  rw [hn] at ho; cases ho
 refine ⟨h'.ext,by simpa using h.len,fun j u t a b=>?_,fun j k t t' l' a b ht ht' c d'=>?_⟩
 ·rcases zc9 b with ⟨e,e',_⟩ | ⟨e,b⟩
  ·subst e e'
   rcases zc9 a with ⟨_,e',_⟩ | ⟨e,_⟩
   ·subst e'; exact .ofOwn hs ⟨l,rfl,h.ext.h.free hn,hf,ho⟩
   ·exact absurd rfl e
  ·rcases zc9 a with ⟨e',_⟩ | ⟨_,a⟩
   ·exact absurd e' e
   ·exact h'.at' j u t a b
 ·rcases zc9 a with ⟨e1,e1',_⟩ | ⟨e1,a⟩
  ·rcases zc9 b with ⟨e2,e2',_⟩ | ⟨e2,b⟩
   ·rw [e1,e2]
   ·rcases zc9 c with ⟨_,e',_⟩ | ⟨e',_⟩
    ·cases e'
     rcases zc9 d' with ⟨e',_⟩ | ⟨_,d'⟩
     ·exact absurd e' e2
     ·exact (no k t' b ht' d').elim
    ·exact absurd e1 e'
  ·rcases zc9 c with ⟨e',_⟩ | ⟨_,c⟩
   ·exact absurd e' e1
   ·rcases zc9 b with ⟨e2,e2',_⟩ | ⟨e2,b⟩
    ·rcases zc9 d' with ⟨_,e',_⟩ | ⟨e',_⟩
     ·cases e'
      exact (no j t a ht c).elim
     ·exact absurd e2 e'
    ·rcases zc9 d' with ⟨e',_⟩ | ⟨_,d'⟩
     ·exact absurd e' e2
     ·exact h.inj j k t t' l' a b ht ht' c d'
theorem za0.mutd {i : Nat} {l : Addr} {s s' : Sl} {o : HO} (hs : s.isOwn = true) (hs' : s'.isOwn = true) (h : za0 G Hf0 H0 Hf H σ ρ) (e : ρ[i]? = some s) (el : σ[i]? = some (some (.ref l))) (ho : ze1 G Hf (upd H l o) l s') :
  za0 G Hf0 H0 Hf (upd H l o) σ (ρ.set i s'):=by
 obtain ⟨l',e1,h0,hf,q⟩:=h.ownAt hs e
 rw [el] at e1; cases e1
 obtain ⟨oo,hoo⟩:=q.there
 have oth : ∀ b u,b ≠ l -> H b = some u -> upd H l o b = some u:=fun b u n e=>by rw [zb0 n]; exact e
 refine ⟨⟨h.ext.f,fun b u e=>?_,fun b u e=>?_,h.ext.n⟩,by simpa using h.len,fun j u t a b=>?_,fun j k t t' l' a b ht ht' c d'=>?_⟩
 ·exact oth b u (zdq e h0) (h.ext.h b u e)
 ·exact oth b u (zdq e hf) (h.ext.s b u e)
 ·rcases zc9 b with ⟨e,e',_⟩ | ⟨en,b⟩
  ·subst e e'
   rw [el] at a; cases a
   exact .ofOwn hs' ⟨l,rfl,h0,hf,ho⟩
  ·have q:=h.at' j u t a b
   cases ht : t.isOwn with
   | false =>
    cases t with
    | no=>trivial
    | im d=>exact q
    | _=>cases ht
   | true =>
    obtain ⟨l2,e2,e3,e4,q2⟩:=q.own ht
    subst e2
    refine .ofOwn ht ⟨l2,rfl,e3,e4,q2.up (za5.refl _) fun o' ho'=>oth _ _ (fun z=>?_) ho'⟩
    subst z
    exact en (h.inj j i t s l2 b e ht hs a el)
 ·have old : ∀ (j : Nat) (t : Sl),(ρ.set i s')[j]? = some t -> t.isOwn = true -> ∃ t0,ρ[j]? = some t0 /\ t0.isOwn = true:=fun j t a ht=>by
   rcases zc9 a with ⟨e',_,_⟩ | ⟨_,a⟩
   ·subst e'; exact ⟨s,e,hs⟩
   ·exact ⟨t,a,ht⟩
  obtain ⟨t0,a0,ht0⟩:=old j t a ht
  obtain ⟨t1,b0,ht1⟩:=old k t' b ht'
  exact h.inj j k t0 t1 l' a0 b0 ht0 ht1 c d'
theorem za0.fixd {i : Nat} {l : Addr} {s : Sl} {d : D} {o : HO} (hs : s.isOwn = true) (h : za0 G Hf0 H0 Hf H σ ρ) (e : ρ[i]? = some s) (el : σ[i]? = some (some (.ref l))) (ho : H l = some o) (hr : Rep G (upd Hf l o) d (.ref l)) :
  za0 G Hf0 H0 (upd Hf l o) H σ (ρ.set i (.im d)):=by
 obtain ⟨l',e1,h0,hf,q⟩:=h.ownAt hs e
 rw [el] at e1; cases e1
 refine ⟨h.ext.fix h0 hf ho,by simpa using h.len,fun j u t a b=>?_,fun j k t t' l' a b ht ht' c d'=>?_⟩
 ·rcases zc9 b with ⟨e,e',_⟩ | ⟨en,b⟩
  ·subst e e'
   rw [el] at a; cases a
   exact ⟨_,rfl,hr⟩
  ·have q:=h.at' j u t a b
   cases ht : t.isOwn with
   | false =>
    cases t with
    | no=>trivial
    | im d=>obtain ⟨u',e1,r⟩:=q; exact ⟨u',e1,r.up (zc2 hf)⟩
    | _=>cases ht
   | true =>
    obtain ⟨l2,e2,e3,e4,q2⟩:=q.own ht
    subst e2
    refine .ofOwn ht ⟨l2,rfl,e3,?_,q2.up (zc2 hf) fun o' ho'=>ho'⟩
    rw [zb0 (fun z=>?_)]
    ·exact e4
    ·subst z
     exact en (h.inj j i t s l2 b e ht hs a el)
 ·have old : ∀ (j : Nat) (t : Sl),(ρ.set i (.im d))[j]? = some t -> t.isOwn = true -> ρ[j]? = some t:=fun j t a ht=>by
   rcases zc9 a with ⟨_,e',_⟩ | ⟨_,a⟩
   ·subst e'; cases ht
   ·exact a
  exact h.inj j k t t' l' (old j t a ht) (old k t' b ht') ht ht' c d'
end
section
variable {X : Cx} {e : Expr}
theorem PE.imp {t t' : TE} (h : PE X e t) (i : ∀ σ H Q,t' σ H Q -> t σ H Q) : PE X e t':=fun pins s σ H Q I q=>h pins s σ H Q I (i σ H Q q)
theorem PT.imp {t t' : TT} (h : PT X e t) (i : ∀ σ H Q,t' σ H Q -> t σ H Q) : PT X e t':=fun pins s σ H Q I q=>h pins s σ H Q I (i σ H Q q)
theorem PW.imp {t t' : TT} (h : PW X e t) (i : ∀ σ H Q,t' σ H Q -> t σ H Q) : PW X e t':=fun wh pins s σ H Q I q=>h wh pins s σ H Q I (i σ H Q q)
theorem PA.imp {es : List Expr} {t t' : TA} (h : PA X es t) (i : ∀ σ H Q,t' σ H Q -> t σ H Q) : PA X es t':=fun pos pins s σ H Q I q=>h pos pins s σ H Q I (i σ H Q q)
theorem PS.imp {st : Stmt} {t t' : TS} (h : PS X st t) (i : ∀ E σ H,t' E σ H -> t E σ H) : PS X st t':=fun pins s σ H E I q=>h pins s σ H E I (i E σ H q)
theorem PSs.imp {st : List Stmt} {t t' : TS} (h : PSs X st t) (i : ∀ E σ H,t' E σ H -> t E σ H) : PSs X st t':=fun pins s σ H E I q=>h pins s σ H E I (i E σ H q)
theorem PG.imp {t t' : TG} (h : PG X e t) (i : ∀ v σ H Q,t' v σ H Q -> t v σ H Q) : PG X e t':=fun pins s σ H v u Q I r q=>h pins s σ H v u Q I r (i v σ H Q q)
theorem PGs.imp {es : List Expr} {t t' : TGs} (h : PGs X es t) (i : ∀ v σ H Q,t' v σ H Q -> t v σ H Q) : PGs X es t':=fun pins s σ H v u Q I r q=>h pins s σ H v u Q I r (i v σ H Q q)
theorem PI.imp {tg : Expr} {t t' : TI} (h : PI X tg e t) (i : ∀ σ H R,t' σ H R -> t σ H R) : PI X tg e t':=fun pins s σ H R I q=>h pins s σ H R I (i σ H R q)
theorem PTs.imp {ifs : List Expr} {t t' : TT} (h : PTs X ifs t) (i : ∀ σ H Q,t' σ H Q -> t σ H Q) : PTs X ifs t':=fun pins s σ H Q I q=>h pins s σ H Q I (i σ H Q q)
end
noncomputable abbrev Gx (c : Str -> Addr) (X : Cx) : Gc:=⟨X.K,c⟩
noncomputable def tD (G : Gc) (f : List Sl -> Option D) : TE:=fun σ H Q=>∃ Hf0 H0 Hf ρ d,za0 G Hf0 H0 Hf H σ ρ /\ f ρ = some d /\ ∀ v Hf' H',Ext Hf H Hf' H' -> Rep G Hf' d v -> Q v H'
noncomputable def tDB (G : Gc) (f : List Sl -> Option D) : TE:=fun σ H Q=>∃ Hf0 H0 Hf ρ d,za0 G Hf0 H0 Hf H σ ρ /\ f ρ = some d /\ ∀ v Hf' H',Ext Hf H Hf' H' -> Rep G H' d v -> Q v H'
noncomputable def tDC (G : Gc) (f : List Sl -> Option (List D)) : TE:=fun σ H Q=>∃ Hf0 H0 Hf ρ ds,za0 G Hf0 H0 Hf H σ ρ /\ f ρ = some ds /\ ∀ a vs Hf' H',Ext Hf H Hf' H' -> (SqL G.K H' a vs \/ SqT G.K H' a vs) -> zas G Hf' ds vs -> Q (.ref a) H'
noncomputable def tDO (G : Gc) (f : List Sl -> Option (List D)) : TE:=fun σ H Q=>∃ Hf0 H0 Hf ρ ds,za0 G Hf0 H0 Hf H σ ρ /\ f ρ = some ds /\
 ∀ l vs Hf' H',Ext Hf H Hf' H' -> H l = none -> Hf' l = none -> H' l = some (.lst vs) -> zas G Hf' ds vs -> Q (.ref l) H'
noncomputable def tDA (G : Gc) (f : List Sl -> Option (List D)) : TA:=fun σ H Q=>∃ Hf0 H0 Hf ρ ds,za0 G Hf0 H0 Hf H σ ρ /\ f ρ = some ds /\ ∀ vs Hf' H',Ext Hf H Hf' H' -> zas G Hf' ds vs -> Q vs H'
noncomputable def z9f (G : Gc) (f : List Sl -> Option (List D)) : TA:=fun σ H Q=>∃ Hf0 H0 Hf ρ ds,za0 G Hf0 H0 Hf H σ ρ /\ f ρ = some ds /\ ∀ vs Hf' H',Ext Hf H Hf' H' -> zas G H' ds vs -> Q vs H'
noncomputable def tDT (G : Gc) (f : List Sl -> Option Bool) : TT:=fun σ H Q=>∃ Hf0 H0 Hf ρ b,za0 G Hf0 H0 Hf H σ ρ /\ f ρ = some b /\ ∀ Hf' H',Ext Hf H Hf' H' -> Q b H'
noncomputable def DE (c : Str -> Addr) (X : Cx) (e : Expr) (f : List Sl -> Option D) : Prop:=PE X e (tD (Gx c X) f)
noncomputable def DB (c : Str -> Addr) (X : Cx) (e : Expr) (f : List Sl -> Option D) : Prop:=PE X e (tDB (Gx c X) f)
noncomputable def DC (c : Str -> Addr) (X : Cx) (e : Expr) (f : List Sl -> Option (List D)) : Prop:=PE X e (tDC (Gx c X) f)
noncomputable def DO (c : Str -> Addr) (X : Cx) (e : Expr) (f : List Sl -> Option (List D)) : Prop:=PE X e (tDO (Gx c X) f)
structure DA (c : Str -> Addr) (X : Cx) (es : List Expr) (f : List Sl -> Option (List D)) : Prop where
 pa : PA X es (tDA (Gx c X) f)
 len : ∀ ρ ds,f ρ = some ds -> ds.length = es.length
structure DAB (c : Str -> Addr) (X : Cx) (es : List Expr) (f : List Sl -> Option (List D)) : Prop where
 pa : PA X es (z9f (Gx c X) f)
 len : ∀ ρ ds,f ρ = some ds -> ds.length = es.length
noncomputable def DT (c : Str -> Addr) (X : Cx) (e : Expr) (f : List Sl -> Option Bool) : Prop:=PT X e (tDT (Gx c X) f)
noncomputable def DW (c : Str -> Addr) (X : Cx) (e : Expr) (f : List Sl -> Option Bool) : Prop:=PW X e (tDT (Gx c X) f)
noncomputable def D.scalar : D -> Bool
 | .non=>true
 | .bl _=>true
 | .int _=>true
 | .str _=>true
 | _=>false
theorem Rep.sc {G : Gc} {H H' : Hp} {d : D} {v : V} (hs : d.scalar = true) (r : Rep G H d v) : Rep G H' d v:=by
 cases d <;> first | exact r | cases hs
noncomputable def zha : D -> Option (List D)
 | .lst xs=>some xs
 | .tup xs=>some xs
 | .kl xs=>some xs
 | .kt xs=>some xs
 | _=>none
theorem znh {G : Gc} {H : Hp} {d : D} {v : V} {ds : List D} (e : zha d = some ds) (r : Rep G H d v) : ∃ a vs,v = .ref a /\ (SqL G.K H a vs \/ SqT G.K H a vs) /\ zas G H ds vs:=by
 cases d with
 | lst xs=>cases e; obtain ⟨a,vs,e1,q,r⟩:=r; exact ⟨a,vs,e1,.inl (SqL.of q),r⟩
 | tup xs=>cases e; obtain ⟨a,vs,e1,q,r⟩:=r; exact ⟨a,vs,e1,.inr (SqT.of q),r⟩
 | kl xs=>cases e; obtain ⟨a,vs,e1,q,r⟩:=r; exact ⟨a,vs,e1,.inl q,r⟩
 | kt xs=>cases e; obtain ⟨a,vs,e1,q,r⟩:=r; exact ⟨a,vs,e1,.inr q,r⟩
 | _=>cases e
theorem zp8 {K : PySem.W.Frag} {H H' : Hp} (s : za5 H H') {a : Addr} {vs : List V} (h : SqL K H a vs \/ SqT K H a vs) : SqL K H' a vs \/ SqT K H' a vs:=h.imp s.seq s.tup
noncomputable def zal (f : List Sl -> Option (List D)) (ρ : List Sl) : Option D:=(f ρ).map .lst
noncomputable def zbm (f : List Sl -> Option (List D)) (ρ : List Sl) : Option D:=(f ρ).map .tup
noncomputable def zbl (f : List Sl -> Option D) (ρ : List Sl) : Option (List D):=(f ρ).bind zha
noncomputable def zd4 (f g : List Sl -> Option D) (ρ : List Sl) : Option D:=(f ρ).or (g ρ)
section
variable {c : Str -> Addr} {X : Cx} {e a b : Expr} {es : List Expr} {pos : Pos}
theorem DE.db {f : List Sl -> Option D} (h : DE c X e f) : DB c X e f:=PE.imp h fun σ H Q q_=>by
 obtain ⟨Hf0,H0,Hf,ρ,d,st,ef,k⟩:=q_
 exact (⟨Hf0,H0,Hf,ρ,d,st,ef,fun v Hf' H' x r=>k v Hf' H' x (r.up x.s)⟩)
theorem DE.dc {f : List Sl -> Option D} (h : DE c X e f) : DC c X e (zbl f):=PE.imp h fun σ H Q q_=>by
 obtain ⟨Hf0,H0,Hf,ρ,ds,st,ef,k⟩:=q_
 unfold zbl at ef
 cases ed : f ρ with
 | none=>rw [ed] at ef; cases ef
 | some d =>
  rw [ed] at ef
  refine ⟨Hf0,H0,Hf,ρ,d,st,ed,fun v Hf' H' x r=>?_⟩
  obtain ⟨a,vs,e1,q,rs⟩:=znh ef r
  subst e1
  exact k a vs Hf' H' x (zp8 x.s q) rs
theorem DO.de {f : List Sl -> Option (List D)} (h : DO c X e f) : DE c X e (zal f):=PE.imp h fun σ H Q q_=>by
 obtain ⟨Hf0,H0,Hf,ρ,d,st,ef,k⟩:=q_
 unfold zal at ef
 cases ed : f ρ with
 | none=>rw [ed] at ef; cases ef
 | some ds =>
  rw [ed] at ef
  have ef : D.lst ds = d:=Option.some.inj ef
  subst ef
  exact ⟨Hf0,H0,Hf,ρ,ds,st,ed,fun l vs Hf' H' x hn hf hl r=>k _ (upd Hf' l (.lst vs)) H' (x.fix hn hf hl) ⟨l,vs,rfl,zcg,r.up (zc2 hf)⟩⟩
theorem DO.dc {f : List Sl -> Option (List D)} (h : DO c X e f) : DC c X e f:=PE.imp h fun σ H Q q_=>by
 obtain ⟨Hf0,H0,Hf,ρ,ds,st,ef,k⟩:=q_
 exact (
 ⟨Hf0,H0,Hf,ρ,ds,st,ef,fun l vs Hf' H' x hn hf hl r=>k l vs Hf' H' x (.inl (SqL.of hl)) r⟩)
theorem DE.orE {f g : List Sl -> Option D} (h : DE c X e f) (h' : DE c X e g) : DE c X e (zd4 f g):=fun pins s σ H Q I q_=>by
 obtain ⟨Hf0,H0,Hf,ρ,d,st,ef,k⟩:=q_
 unfold zd4 at ef
 cases ed : f ρ with
 | some d' =>
  rw [ed] at ef
  cases ef
  exact h pins s σ H Q I ⟨Hf0,H0,Hf,ρ,_,st,ed,k⟩
 | none =>
  rw [ed] at ef
  exact h' pins s σ H Q I ⟨Hf0,H0,Hf,ρ,d,st,ef,k⟩
noncomputable def zaa (i : Nat) (ρ : List Sl) : Option D:=match ρ[i]? with
 | some (.im d)=>some d
 | _=>none
noncomputable def zg9 (i : Nat) (ρ : List Sl) : Option D:=match ρ[i]? with
 | some (.im d)=>some d
 | some (.own xs)=>some (.lst xs)
 | some (.ownd ks xs)=>some (.dic ks xs)
 | _=>none
noncomputable def zaf (i : Nat) (ρ : List Sl) : Option (List D):=match ρ[i]? with
 | some (.im d)=>zha d
 | some (.own xs)=>some xs
 | _=>none
theorem z35 {i : Nat} {ρ : List Sl} {d : D} (h : zaa i ρ = some d) : ρ[i]? = some (.im d):=by
 unfold zaa at h
 cases e : ρ[i]? with
 | none=>rw [e] at h; cases h
 | some s=>rw [e] at h; cases s <;> cases h; rfl
theorem zv1 {i : Nat} (h : PE X e (zei i)) : DE c X e (zaa i):=PE.imp h fun σ H Q q_=>by
 obtain ⟨Hf0,H0,Hf,ρ,d,st,ef,k⟩:=q_
 obtain ⟨v,e1,r⟩:=st.imm (z35 ef)
 exact ⟨v,e1,k v Hf H (Ext.refl st.sub) r⟩
theorem zvn {i : Nat} (h : PE X e (zei i)) : DC c X e (zaf i):=PE.imp h fun σ H Q q_=>by
 obtain ⟨Hf0,H0,Hf,ρ,ds,st,ef,k⟩:=q_
 unfold zaf at ef
 cases es : ρ[i]? with
 | none=>rw [es] at ef; cases ef
 | some s =>
  rw [es] at ef
  cases s with
  | im d =>
   obtain ⟨v,e1,r⟩:=st.imm es
   obtain ⟨a,vs,e2,q,rs⟩:=znh ef r
   subst e2
   exact ⟨_,e1,k a vs Hf H (Ext.refl st.sub) (zp8 st.sub q) rs⟩
  | own xs =>
   cases ef
   obtain ⟨l,e1,_,_,vs,q,r⟩:=st.ownAt rfl es
   exact ⟨_,e1,k l vs Hf H (Ext.refl st.sub) (.inl (SqL.of q)) r⟩
  | _=>cases ef
theorem zs6 {i : Nat} (h : PE X e (zei i)) : DB c X e (zg9 i):=PE.imp h fun σ H Q q_=>by
 obtain ⟨Hf0,H0,Hf,ρ,d,st,ef,k⟩:=q_
 unfold zg9 at ef
 cases es : ρ[i]? with
 | none=>rw [es] at ef; cases ef
 | some s =>
  rw [es] at ef
  cases s with
  | im d =>
   cases ef
   obtain ⟨v,e1,r⟩:=st.imm es
   exact ⟨_,e1,k v Hf H (Ext.refl st.sub) (r.up st.sub)⟩
  | own xs =>
   cases ef
   obtain ⟨l,e1,_,_,vs,q,r⟩:=st.ownAt rfl es
   exact ⟨_,e1,k _ Hf H (Ext.refl st.sub) ⟨l,vs,rfl,q,r.up st.sub⟩⟩
  | ownd ks xs =>
   cases ef
   obtain ⟨l,e1,_,_,vs,q,z,r⟩:=st.ownAt rfl es
   exact ⟨_,e1,k _ Hf H (Ext.refl st.sub) ⟨l,vs,rfl,q,z,r.up st.sub⟩⟩
  | _=>cases ef
theorem znm {v : V} {d : D} (h : PE X e (tC v)) (r : ∀ G H,Rep G H d v) : DE c X e (fun _=>some d):=PE.imp h fun σ H Q q_=>by
 obtain ⟨Hf0,H0,Hf,ρ,d',st,ef,k⟩:=q_
 cases ef
 exact k v Hf H (Ext.refl st.sub) (r _ _)
theorem zae {i : Int} {j} : DE c X (.Constant (.int i) j pos) (fun _=>some (.int i)):=znm z5w fun _ _=>rfl
theorem zby {i : Bool} {j} : DE c X (.Constant (.bool i) j pos) (fun _=>some (.bl i)):=znm zwz fun _ _=>rfl
theorem zed {j} : DE c X (.Constant .none j pos) (fun _=>some .non):=znm zy6 fun _ _=>rfl
theorem zbq {i : Str} {j} : DE c X (.Constant (.str i) j pos) (fun _=>some (.str i)):=znm zmr fun _ _=>rfl
theorem dv (i : Nat) {x : Str} (hN : X.N[i]? = some x:=by rfl) (hv : Vis X.env.scope x:=by first | exact Or.inl rfl | exact Or.inr (Or.inl rfl) | exact Or.inr (Or.inr rfl)) (hd : (x == ("__debug__" : Str)) = false:=by decide)
  (hcd : (x == ("__classdict__" : Str)) = false:=by decide) : DE c X (.Name x pos) (zaa i):=zv1 (zgu hN hv hd hcd)
theorem dvC (i : Nat) {x : Str} (hN : X.N[i]? = some x:=by rfl) (hv : Vis X.env.scope x:=by first | exact Or.inl rfl | exact Or.inr (Or.inl rfl) | exact Or.inr (Or.inr rfl)) (hd : (x == ("__debug__" : Str)) = false:=by decide)
  (hcd : (x == ("__classdict__" : Str)) = false:=by decide) : DC c X (.Name x pos) (zaf i):=zvn (zgu hN hv hd hcd)
theorem dvB (i : Nat) {x : Str} (hN : X.N[i]? = some x:=by rfl) (hv : Vis X.env.scope x:=by first | exact Or.inl rfl | exact Or.inr (Or.inl rfl) | exact Or.inr (Or.inr rfl)) (hd : (x == ("__debug__" : Str)) = false:=by decide)
  (hcd : (x == ("__classdict__" : Str)) = false:=by decide) : DB c X (.Name x pos) (zg9 i):=zs6 (zgu hN hv hd hcd)
noncomputable def zab (f : List Sl -> Option D) (g : List Sl -> Option (List D)) (ρ : List Sl) : Option (List D):=(f ρ).bind fun d=>(g ρ).map fun ds=>d :: ds
theorem znr {f : List Sl -> Option D} {g : List Sl -> Option (List D)} {ρ : List Sl} {ds : List D} (h : zab f g ρ = some ds) : ∃ d r,f ρ = some d /\ g ρ = some r /\ ds = d :: r:=by
 unfold zab at h
 cases e1 : f ρ with
 | none=>rw [e1] at h; cases h
 | some d =>
  cases e2 : g ρ with
  | none=>rw [e1,e2] at h; cases h
  | some r=>rw [e1,e2] at h; cases h; exact ⟨d,r,rfl,rfl,rfl⟩
theorem zag : DA c X [] (fun _=>some []):=⟨PA.imp zee fun σ H Q ⟨Hf0,H0,Hf,ρ,ds,st,ef,k⟩=>by cases ef; exact k [] Hf H (Ext.refl st.sub) rfl,fun ρ ds h=>by cases h; rfl⟩
theorem zac {f : List Sl -> Option D} {g : List Sl -> Option (List D)} (ha : DE c X e f) (hr : DA c X es g) (hs : starEach (e :: es) X.env = (false,eval e X.env) :: starEach es X.env:=by rfl) : DA c X (e :: es) (zab f g):=by
 refine ⟨PA.imp (zdr ha hr.pa hs) fun σ H Q ⟨Hf0,H0,Hf,ρ,ds,st,ef,k⟩=>?_,fun ρ ds h=>?_⟩
 ·obtain ⟨d,r,e1,e2,rfl⟩:=znr ef
  exact ⟨Hf0,H0,Hf,ρ,d,st,e1,fun v Hf1 H1 x1 r1=>⟨Hf0,H0,Hf1,ρ,r,st.step x1,e2,fun vs Hf2 H2 x2 r2=>k _ Hf2 H2 (x1.trans x2) (.cons (r1.up x2.f) r2)⟩⟩
 ·obtain ⟨d,r,e1,e2,rfl⟩:=znr h
  simp [hr.len ρ r e2]
theorem zbx : DAB c X [] (fun _=>some []):=⟨PA.imp zee fun σ H Q ⟨Hf0,H0,Hf,ρ,ds,st,ef,k⟩=>by cases ef; exact k [] Hf H (Ext.refl st.sub) rfl,fun ρ ds h=>by cases h; rfl⟩
theorem zbb {f : List Sl -> Option D} {g : List Sl -> Option (List D)} (ha : DB c X e f) (hr : DAB c X es g) (hs : starEach (e :: es) X.env = (false,eval e X.env) :: starEach es X.env:=by rfl) : DAB c X (e :: es) (zab f g):=by
 refine ⟨PA.imp (zdr ha hr.pa hs) fun σ H Q ⟨Hf0,H0,Hf,ρ,ds,st,ef,k⟩=>?_,fun ρ ds h=>?_⟩
 ·obtain ⟨d,r,e1,e2,rfl⟩:=znr ef
  exact ⟨Hf0,H0,Hf,ρ,d,st,e1,fun v Hf1 H1 x1 r1=>⟨Hf0,H0,Hf1,ρ,r,st.step x1,e2,fun vs Hf2 H2 x2 r2=>k _ Hf2 H2 (x1.trans x2) (.cons (r1.up x2.h) r2)⟩⟩
 ·obtain ⟨d,r,e1,e2,rfl⟩:=znr h
  simp [hr.len ρ r e2]
theorem zbz {f : List Sl -> Option (List D)} (h : DA c X es f) (hz : es.length <= 1000:=by exact Nat.le_of_ble_eq_true rfl) : DO c X (.List es pos) f:=PE.imp (zsu h.pa) fun σ H Q ⟨Hf0,H0,Hf,ρ,ds,st,ef,k⟩ =>
 ⟨Hf0,H0,Hf,ρ,ds,st,ef,fun vs Hf' H' x r=>⟨by
  rw [<- r.length,h.len ρ ds ef]
  exact Nat.le_of_lt (zvm hz),fun p hp=>k p vs Hf' (upd H' p (.lst vs)) (x.trans (Ext.tmp x.s hp)) (x.h.free hp) (x.s.free hp) zcg r⟩⟩
theorem zbu {f : List Sl -> Option (List D)} {k' : Nat} (h : DA c X es f) (hz : es.length <= 1000:=by exact Nat.le_of_ble_eq_true rfl) : DE c X (.Tuple es k' pos) (zbm f):=PE.imp (zzb h.pa) fun σ H Q q_=>by
 obtain ⟨Hf0,H0,Hf,ρ,d,st,ef,k⟩:=q_
 unfold zbm at ef
 cases ed : f ρ with
 | none=>rw [ed] at ef; cases ef
 | some ds =>
  rw [ed] at ef
  have ef : D.tup ds = d:=Option.some.inj ef
  subst ef
  exact ⟨Hf0,H0,Hf,ρ,ds,st,ed,fun vs Hf' H' x r=>⟨by
   rw [<- r.length,h.len ρ ds ed]
   exact Nat.le_of_lt (zvm hz),fun p hp=>k _ (upd Hf' p (.tup vs)) (upd H' p (.tup vs)) (x.trans (Ext.new x.s hp)) ⟨p,vs,rfl,zcg,r.up (zc2 (x.s.free hp))⟩⟩⟩
noncomputable def rD (G : Gc) (m : D -> D -> Option D) : R2:=fun vx vy H Q=>∃ Hf x y d,za5 Hf H /\ Rep G Hf x vx /\ Rep G Hf y vy /\ m x y = some d /\ ∀ v Hf' H',Ext Hf H Hf' H' -> Rep G Hf' d v -> Q v H'
noncomputable abbrev OpD (c : Str -> Addr) (X : Cx) (f : Value -> Value -> Sem Value) (m : D -> D -> Option D) : Prop:=OpR X f (rD (Gx c X) m)
noncomputable def m2 (m : D -> D -> Option D) (f g : List Sl -> Option D) (ρ : List Sl) : Option D:=(f ρ).bind fun x=>(g ρ).bind fun y=>m x y
theorem zpg {m : D -> D -> Option D} {f g : List Sl -> Option D} {ρ : List Sl} {d : D} (h : m2 m f g ρ = some d) : ∃ x y,f ρ = some x /\ g ρ = some y /\ m x y = some d:=by
 unfold m2 at h
 cases e1 : f ρ with
 | none=>rw [e1] at h; cases h
 | some x =>
  cases e2 : g ρ with
  | none=>rw [e1,e2] at h; cases h
  | some y=>rw [e1,e2] at h; exact ⟨x,y,rfl,rfl,h⟩
theorem two {m : D -> D -> Option D} {f g : List Sl -> Option D} {r : R2} {σ : St} {H : Hp} {Q : VK} (hr : ∀ x y H Q,rD (Gx c X) m x y H Q -> r x y H Q) (h : tD (Gx c X) (m2 m f g) σ H Q) : tOp r (tD (Gx c X) f) (tD (Gx c X) g) σ H Q:=by
 obtain ⟨Hf0,H0,Hf,ρ,d,st,ef,k⟩:=h
 obtain ⟨x,y,e1,e2,e3⟩:=zpg ef
 exact ⟨Hf0,H0,Hf,ρ,x,st,e1,fun v Hf1 H1 x1 r1=>⟨Hf0,H0,Hf1,ρ,y,st.step x1,e2,fun u Hf2 H2 x2 r2=>hr _ _ _ _ ⟨Hf2,x,y,d,x2.s,r1.up x2.f,r2,e3,fun w Hf3 H3 x3 r3=>k w Hf3 H3 ((x1.trans x2).trans x3) r3⟩⟩⟩
theorem zs4 {m : D -> D -> Option D} {f g : List Sl -> Option D} {r : R2} {σ : St} {H : Hp} {Q : VK} (hr : ∀ x y H Q,rD (Gx c X) m x y H Q -> r x y H Q) (hs : ∀ x y d,m x y = some d -> d.scalar = true) (h : tD (Gx c X) (m2 m f g) σ H Q) : tOp r (tDB (Gx c X) f) (tDB (Gx c X) g) σ H Q:=by
 obtain ⟨Hf0,H0,Hf,ρ,d,st,ef,k⟩:=h
 obtain ⟨x,y,e1,e2,e3⟩:=zpg ef
 exact ⟨Hf0,H0,Hf,ρ,x,st,e1,fun v Hf1 H1 x1 r1=>⟨Hf0,H0,Hf1,ρ,y,st.step x1,e2,fun u Hf2 H2 x2 r2=>hr _ _ _ _ ⟨H2,x,y,d,za5.refl _,r1.up x2.h,r2,e3,fun w Hf3 H3 x3 r3 =>
  k w Hf2 H3 ((x1.trans x2).trans (Ext.grow x2.s x3.h)) (r3.sc (hs _ _ _ e3))⟩⟩⟩
theorem zay {op : Operator} {m : D -> D -> Option D} {f g : List Sl -> Option D} (ho : OpD c X (binaryOp op) m) (ha : DE c X a f) (hb : DE c X b g) : DE c X (.BinOp a op b pos) (m2 m f g) :=
 PE.imp (zsj ho ha hb) fun _ _ _ h=>two (fun _ _ _ _ h=>h) h
theorem zb6 {op : CmpOp} {m : D -> D -> Option D} {f g : List Sl -> Option D} (ho : OpD c X (compareOp op) m) (hs : ∀ x y d,m x y = some d -> d.scalar = true) (ha : DB c X a f) (hb : DB c X b g) (hm : behindInMarks op b = false:=by first | exact zte _ | rfl) :
  DE c X (.Compare a [op] [b] pos) (m2 m f g):=PE.imp (z4d ho ha hb hm) fun _ _ _ h=>zs4 (fun _ _ _ _ h=>h) hs h
noncomputable def mB (f : List Sl -> Option D) (ρ : List Sl) : Option Bool:=(f ρ).bind fun d=>match d with
 | .bl b=>some b
 | _=>none
theorem zn5 {f : List Sl -> Option D} {ρ : List Sl} {b : Bool} (h : mB f ρ = some b) : f ρ = some (.bl b):=by
 unfold mB at h
 cases e : f ρ with
 | none=>rw [e] at h; cases h
 | some d=>rw [e] at h; cases d <;> cases h; rfl
theorem za1 {op : CmpOp} {m : D -> D -> Option D} {f g : List Sl -> Option D} (ho : OpD c X (compareOp op) m) (hs : ∀ x y d,m x y = some d -> d.scalar = true) (ha : DB c X a f) (hb : DB c X b g) (hm : behindInMarks op b = false:=by first | exact zte _ | rfl) :
  DT c X (.Compare a [op] [b] pos) (mB (m2 m f g)):=PT.imp (z0w ho ha hb hm) fun σ H Q ⟨Hf0,H0,Hf,ρ,b,st,ef,k⟩ =>
 zs4 (fun _ _ _ _ h=>h) hs ⟨Hf0,H0,Hf,ρ,.bl b,st,zn5 ef,fun v Hf' H' x r=>⟨b,r,k Hf' H' x⟩⟩
noncomputable def zre : D -> Option Bool
 | .non=>some false
 | .bl b=>some b
 | .int i=>some (i != 0)
 | .str x=>if x.length <= 16777216 then some ((x.length : Int) != 0) else none
 | .lst xs=>some (!xs.isEmpty)
 | .tup xs=>some (!xs.isEmpty)
 | .kl xs=>some (!xs.isEmpty)
 | .kt xs=>some (!xs.isEmpty)
 | .dic ks _=>some (!ks.isEmpty)
 | _=>none
theorem zas.empty {G : Gc} {H : Hp} {ds : List D} {vs : List V} (r : zas G H ds vs) : ds.isEmpty = vs.isEmpty:=by
 cases ds with
 | nil=>cases (show vs = [] from r); rfl
 | cons d ds=>obtain ⟨v,r',e,_⟩:=r; subst e; rfl
theorem z2m {α β : Type} {ks : List α} {vs : List β} (h : ks.length = vs.length) : (ks.zip vs).isEmpty = ks.isEmpty:=by
 cases ks <;> cases vs <;> first | rfl | cases h
theorem z4n {G : Gc} {H : Hp} {d : D} {v : V} {b : Bool} (e : zre d = some b) (r : Rep G H d v) : zpx G.K v H b:=by
 cases d with
 | non=>cases e; cases r; rfl
 | bl x=>cases e; cases r; rfl
 | int i=>cases e; cases r; rfl
 | str x =>
  cases r
  replace e : (if x.length <= 16777216 then some ((x.length : Int) != 0) else none) = some b:=e
  split at e
  ·rename_i hl
   cases e
   exact ⟨by rw [sizeLine_eq]; exact hl,rfl⟩
  ·cases e
 | lst xs=>cases e; obtain ⟨a,vs,e1,q,r⟩:=r; subst e1; exact .inl ⟨vs,SqL.of q,by rw [r.empty]⟩
 | tup xs=>cases e; obtain ⟨a,vs,e1,q,r⟩:=r; subst e1; exact .inr (.inl ⟨vs,SqT.of q,by rw [r.empty]⟩)
 | kl xs=>cases e; obtain ⟨a,vs,e1,q,r⟩:=r; subst e1; exact .inl ⟨vs,q,by rw [r.empty]⟩
 | kt xs=>cases e; obtain ⟨a,vs,e1,q,r⟩:=r; subst e1; exact .inr (.inl ⟨vs,q,by rw [r.empty]⟩)
 | dic ks xs=>cases e; obtain ⟨a,vs,e1,q,l,r⟩:=r; subst e1; exact .inr (.inr ⟨_,q,by rw [z2m l]⟩)
 | ins _ _ _=>cases e
noncomputable def zcn (f : List Sl -> Option D) (ρ : List Sl) : Option Bool:=(f ρ).bind zre
theorem zcy {f : List Sl -> Option D} (ha : DB c X a f) (he : ∀ whole,isTrue a X.env whole = (do let v <- whole; standAt a.pos; holding [v] (truthy v)):=by intro _; rfl) : DT c X a (zcn f) :=
 PT.imp (z3i ha he) fun σ H Q q_=>by
  obtain ⟨Hf0,H0,Hf,ρ,b,st,ef,k⟩:=q_
  unfold zcn at ef
  cases ed : f ρ with
  | none=>rw [ed] at ef; cases ef
  | some d =>
   rw [ed] at ef
   exact ⟨Hf0,H0,Hf,ρ,d,st,ed,fun v Hf' H' x r=>⟨b,z4n ef r,k Hf' H' x⟩⟩
noncomputable def zdp (f g : List Sl -> Option Bool) (ρ : List Sl) : Option Bool:=(f ρ).bind fun b=>if b then g ρ else some false
noncomputable def mOr (f g : List Sl -> Option Bool) (ρ : List Sl) : Option Bool:=(f ρ).bind fun b=>if b then some true else g ρ
noncomputable def zd9 (f : List Sl -> Option Bool) (ρ : List Sl) : Option Bool:=(f ρ).map not
theorem DW.dt {f : List Sl -> Option Bool} (h : DW c X e f) : DT c X e f:=PW.pt h
theorem zgo {f : List Sl -> Option Bool} (h : DT c X a f) : DW c X (.BoolOp .And [a] pos) f:=z0m h
theorem zgk {f : List Sl -> Option Bool} (h : DT c X a f) : DW c X (.BoolOp .Or [a] pos) f:=z3u h
theorem zfh {f g : List Sl -> Option Bool} {zco : List Expr} (h : DT c X a f) (h' : DW c X (.BoolOp .And (b :: zco) pos) g) : DW c X (.BoolOp .And (a :: b :: zco) pos) (zdp f g):=PW.imp (zw5 h h') fun σ H Q q_=>by
 obtain ⟨Hf0,H0,Hf,ρ,b,st,ef,k⟩:=q_
 unfold zdp at ef
 cases e1 : f ρ with
 | none=>rw [e1] at ef; cases ef
 | some x =>
  rw [e1] at ef
  refine ⟨Hf0,H0,Hf,ρ,x,st,e1,fun Hf1 H1 x1=>?_⟩
  cases x with
  | true=>rw [if_pos rfl]; exact ⟨Hf0,H0,Hf1,ρ,b,st.step x1,ef,fun Hf2 H2 x2=>k Hf2 H2 (x1.trans x2)⟩
  | false=>cases ef; rw [if_neg Bool.false_ne_true]; exact k Hf1 H1 x1
theorem zgd {f g : List Sl -> Option Bool} {zco : List Expr} (h : DT c X a f) (h' : DW c X (.BoolOp .Or (b :: zco) pos) g) : DW c X (.BoolOp .Or (a :: b :: zco) pos) (mOr f g):=PW.imp (z2h h h') fun σ H Q q_=>by
 obtain ⟨Hf0,H0,Hf,ρ,b,st,ef,k⟩:=q_
 unfold mOr at ef
 cases e1 : f ρ with
 | none=>rw [e1] at ef; cases ef
 | some x =>
  rw [e1] at ef
  refine ⟨Hf0,H0,Hf,ρ,x,st,e1,fun Hf1 H1 x1=>?_⟩
  cases x with
  | false=>rw [if_neg Bool.false_ne_true]; exact ⟨Hf0,H0,Hf1,ρ,b,st.step x1,ef,fun Hf2 H2 x2=>k Hf2 H2 (x1.trans x2)⟩
  | true=>cases ef; rw [if_pos rfl]; exact k Hf1 H1 x1
theorem ze4 {f : List Sl -> Option Bool} (h : DT c X a f) : DT c X (.UnaryOp .Not a pos) (zd9 f):=PT.imp (zye h) fun σ H Q q_=>by
 obtain ⟨Hf0,H0,Hf,ρ,b,st,ef,k⟩:=q_
 unfold zd9 at ef
 cases e1 : f ρ with
 | none=>rw [e1] at ef; cases ef
 | some x =>
  rw [e1] at ef
  cases ef
  exact ⟨Hf0,H0,Hf,ρ,x,st,e1,fun Hf1 H1 x1=>k Hf1 H1 x1⟩
noncomputable def zd6 (f g : List Sl -> Option D) (ρ : List Sl) : Option D:=(mB f ρ).bind fun b=>if b then g ρ else some (.bl false)
noncomputable def vOr (f g : List Sl -> Option D) (ρ : List Sl) : Option D:=(mB f ρ).bind fun b=>if b then some (.bl true) else g ρ
noncomputable def zfb (f : List Sl -> Option D) (ρ : List Sl) : Option D:=(mB f ρ).map fun b=>.bl (!b)
theorem zf1 {f : List Sl -> Option D} {op} (h : DE c X a f) : DE c X (.BoolOp op [a] pos) f:=z6b h
theorem zfu {f g : List Sl -> Option D} {zco : List Expr} (h : DE c X a f) (h' : DE c X (.BoolOp .And (b :: zco) pos) g) : DE c X (.BoolOp .And (a :: b :: zco) pos) (zd6 f g):=PE.imp (z4v h h') fun σ H Q q_=>by
 obtain ⟨Hf0,H0,Hf,ρ,d,st,ef,k⟩:=q_
 unfold zd6 at ef
 cases e1 : mB f ρ with
 | none=>rw [e1] at ef; cases ef
 | some x =>
  rw [e1] at ef
  refine ⟨Hf0,H0,Hf,ρ,.bl x,st,zn5 e1,fun v Hf1 H1 x1 r1=>⟨x,r1,?_⟩⟩
  cases x with
  | true=>rw [if_pos rfl]; exact ⟨Hf0,H0,Hf1,ρ,d,st.step x1,ef,fun v Hf2 H2 x2 r2=>k v Hf2 H2 (x1.trans x2) r2⟩
  | false=>cases ef; rw [if_neg Bool.false_ne_true]; exact k _ Hf1 H1 x1 rfl
theorem zvs {f g : List Sl -> Option D} {zco : List Expr} (h : DE c X a f) (h' : DE c X (.BoolOp .Or (b :: zco) pos) g) : DE c X (.BoolOp .Or (a :: b :: zco) pos) (vOr f g):=PE.imp (z0l h h') fun σ H Q q_=>by
 obtain ⟨Hf0,H0,Hf,ρ,d,st,ef,k⟩:=q_
 unfold vOr at ef
 cases e1 : mB f ρ with
 | none=>rw [e1] at ef; cases ef
 | some x =>
  rw [e1] at ef
  refine ⟨Hf0,H0,Hf,ρ,.bl x,st,zn5 e1,fun v Hf1 H1 x1 r1=>⟨x,r1,?_⟩⟩
  cases x with
  | false=>rw [if_neg Bool.false_ne_true]; exact ⟨Hf0,H0,Hf1,ρ,d,st.step x1,ef,fun v Hf2 H2 x2 r2=>k v Hf2 H2 (x1.trans x2) r2⟩
  | true=>cases ef; rw [if_pos rfl]; exact k _ Hf1 H1 x1 rfl
theorem zgr {f : List Sl -> Option D} (h : DE c X a f) : DE c X (.UnaryOp .Not a pos) (zfb f):=PE.imp (z37 h) fun σ H Q q_=>by
 obtain ⟨Hf0,H0,Hf,ρ,d,st,ef,k⟩:=q_
 unfold zfb at ef
 cases e1 : mB f ρ with
 | none=>rw [e1] at ef; cases ef
 | some x =>
  rw [e1] at ef
  cases ef
  exact ⟨Hf0,H0,Hf,ρ,.bl x,st,zn5 e1,fun v Hf1 H1 x1 r1=>⟨x,r1,k _ Hf1 H1 x1 rfl⟩⟩
end
noncomputable instance {i j : Int} : Decidable (zlz i j):=by unfold zlz; infer_instance
noncomputable instance {i j : Int} : Decidable (zjd i j):=by unfold zjd; infer_instance
noncomputable instance {i j : Int} : Decidable (zmf i j):=by unfold zmf; infer_instance
noncomputable def dI (C : Int -> Int -> Prop) [∀ i j,Decidable (C i j)] (g : Int -> Int -> D) : D -> D -> Option D
 | .int i,.int j=>if C i j then some (g i j) else none
 | _,_=>none
noncomputable def dI0 (g : Int -> Int -> D) : D -> D -> Option D
 | .int i,.int j=>some (g i j)
 | _,_=>none
noncomputable def zci : D -> D -> Option D
 | .int i,.int j=>some (.int (i + j))
 | .str a,.str b=>if a.length + b.length <= 16777216 then some (.str (a ++ b)) else none
 | .lst a,.lst b=>if a.length + b.length <= 16777216 then some (.lst (a ++ b)) else none
 | _,_=>none
noncomputable abbrev zij : D -> D -> Option D:=dI0 fun i j=>.int (i - j)
noncomputable abbrev zgg : D -> D -> Option D:=dI zlz fun i j=>.int (i / j)
noncomputable abbrev zbv : D -> D -> Option D:=dI (fun _ j=>0 < j) fun i j=>.int (i % j)
noncomputable abbrev zp0 : D -> D -> Option D:=dI zjd fun i j=>.int (i ^ j.toNat)
noncomputable abbrev dLt : D -> D -> Option D:=dI0 fun i j=>.bl (decide (i < j))
noncomputable abbrev dLe : D -> D -> Option D:=dI0 fun i j=>.bl (decide (i <= j))
noncomputable abbrev dGt : D -> D -> Option D:=dI0 fun i j=>.bl (decide (j < i))
noncomputable abbrev dGe : D -> D -> Option D:=dI0 fun i j=>.bl (decide (j <= i))
section
variable {c : Str -> Addr} {X : Cx}
theorem zm7 {f : Value -> Value -> Sem Value} {C : Int -> Int -> Prop} [∀ i j,Decidable (C i j)] {g : Int -> Int -> V} {gd : Int -> Int -> D} (h : OpR X f (rI C g)) (hg : ∀ G H i j,Rep G H (gd i j) (g i j)) : OpD c X f (dI C gd):=by
 rintro pins s σ H vx vy v u Q I rx ry ⟨Hf,x,y,d,s0,r1,r2,e,k⟩
 unfold dI at e
 split at e
 ·split at e
  ·rename_i hc
   cases e
   exact h pins s σ H vx vy v u Q I rx ry ⟨_,_,r1,r2,hc,k _ Hf H (Ext.refl s0) (hg _ _ _ _)⟩
  ·cases e
 ·cases e
theorem zl6 {f : Value -> Value -> Sem Value} {g : Int -> Int -> V} {gd : Int -> Int -> D} (h : OpR X f (rI0 g)) (hg : ∀ G H i j,Rep G H (gd i j) (g i j)) : OpD c X f (dI0 gd):=by
 rintro pins s σ H vx vy v u Q I rx ry ⟨Hf,x,y,d,s0,r1,r2,e,k⟩
 unfold dI0 at e
 split at e
 ·cases e
  exact h pins s σ H vx vy v u Q I rx ry ⟨_,_,r1,r2,k _ Hf H (Ext.refl s0) (hg _ _ _ _)⟩
 ·cases e
theorem zdo : OpD c X (binaryOp .Add) zci:=by
 rintro pins s σ H vx vy v u Q I rx ry ⟨Hf,x,y,d,s0,r1,r2,e,k⟩
 unfold zci at e
 split at e
 ·cases e
  exact z5a pins s σ H vx vy v u Q I rx ry ⟨_,_,r1,r2,k _ Hf H (Ext.refl s0) rfl⟩
 ·split at e
  ·rename_i hl
   cases e
   exact z4o pins s σ H vx vy v u Q I rx ry ⟨_,_,r1,r2,by rw [sizeLine_eq]; exact hl,k _ Hf H (Ext.refl s0) rfl⟩
  ·cases e
 ·split at e
  ·rename_i hl
   cases e
   obtain ⟨a,vs,e1,q1,r1⟩:=r1
   obtain ⟨b,us,e2,q2,r2⟩:=r2
   exact zsp pins s σ H vx vy v u Q I rx ry ⟨a,b,vs,us,e1,e2,s0 _ _ q1,s0 _ _ q2,by rw [sizeLine_eq,<- r1.length,<- r2.length]; exact hl,
    fun p hp=>k _ (upd Hf p (.lst (vs ++ us))) (upd H p (.lst (vs ++ us))) (Ext.new s0 hp) ⟨p,_,rfl,zcg,(r1.append r2).up (zc2 (s0.free hp))⟩⟩
  ·cases e
 ·cases e
theorem znw : OpD c X (binaryOp .Sub) zij:=zl6 z89 fun _ _ _ _=>rfl
theorem zho : OpD c X (binaryOp .FloorDiv) zgg:=zm7 z18 fun _ _ _ _=>rfl
theorem zb9 : OpD c X (binaryOp .Mod) zbv:=zm7 zxa fun _ _ _ _=>rfl
theorem z1i : OpD c X (binaryOp .Pow) zp0:=zm7 z34 fun _ _ _ _=>rfl
theorem zhs : OpD c X (compareOp .Lt) dLt:=zl6 z30 fun _ _ _ _=>rfl
theorem zmw : OpD c X (compareOp .LtE) dLe:=zl6 z4k fun _ _ _ _=>rfl
theorem zi7 : OpD c X (compareOp .Gt) dGt:=zl6 z9e fun _ _ _ _=>rfl
theorem zrw : OpD c X (compareOp .GtE) dGe:=zl6 z50 fun _ _ _ _=>rfl
theorem znk {g : Int -> Int -> D} (hg : ∀ i j,(g i j).scalar = true) : ∀ x y d,dI0 g x y = some d -> d.scalar = true:=by
 intro x y d e
 unfold dI0 at e
 split at e
 ·cases e; exact hg _ _
 ·cases e
theorem zhr : ∀ x y d,dLt x y = some d -> d.scalar = true:=znk fun _ _=>rfl
theorem znq : ∀ x y d,dLe x y = some d -> d.scalar = true:=znk fun _ _=>rfl
theorem zkh : ∀ x y d,dGt x y = some d -> d.scalar = true:=znk fun _ _=>rfl
theorem zo1 : ∀ x y d,dGe x y = some d -> d.scalar = true:=znk fun _ _=>rfl
noncomputable def zff : D -> Option D
 | .int i=>some (.int (-i))
 | _=>none
noncomputable def m1 (m : D -> Option D) (f : List Sl -> Option D) (ρ : List Sl) : Option D:=(f ρ).bind m
theorem zgj {a : Expr} {f : List Sl -> Option D} {pos : Pos} (ha : DE c X a f) : DE c X (.UnaryOp .USub a pos) (m1 zff f):=PE.imp (z1r z45 ha) fun σ H Q q_=>by
 obtain ⟨Hf0,H0,Hf,ρ,d,st,ef,k⟩:=q_
 unfold m1 at ef
 cases e1 : f ρ with
 | none=>rw [e1] at ef; cases ef
 | some y =>
  rw [e1] at ef
  cases y with
  | int i=>cases ef; exact ⟨Hf0,H0,Hf,ρ,.int i,st,e1,fun v Hf' H' x r=>⟨i,r,k _ Hf' H' x rfl⟩⟩
  | _=>cases ef
noncomputable def zsa : D -> Bool
 | .non=>true
 | _=>false
theorem zwh {G : Gc} {H : Hp} {x : D} {v : V} (r : Rep G H x v) : decide (v = .non) = zsa x:=by
 cases x with
 | non=>cases r; rfl
 | bl b=>cases r; rfl
 | int i=>cases r; rfl
 | str x=>cases r; rfl
 | lst _=>obtain ⟨a,_,e,_⟩:=r; subst e; rfl
 | tup _=>obtain ⟨a,_,e,_⟩:=r; subst e; rfl
 | kl _=>obtain ⟨a,_,e,_⟩:=r; subst e; rfl
 | kt _=>obtain ⟨a,_,e,_⟩:=r; subst e; rfl
 | dic _ _=>obtain ⟨a,_,e,_⟩:=r; subst e; rfl
 | ins _ _ _=>obtain ⟨a,_,_,e,_⟩:=r; subst e; rfl
noncomputable def isD (x y : D) : Option Bool:=match y with
 | .non=>some (zsa x)
 | .bl b=>match x with
  | .non=>some false
  | .bl a=>some (a == b)
  | _=>none
 | _=>none
noncomputable def dIs (x y : D) : Option D:=(isD x y).map .bl
noncomputable def zdl (x y : D) : Option D:=(isD x y).map fun b=>.bl (!b)
theorem zdu : OpD c X (compareOp .Is) dIs:=by
 rintro pins s σ H vx vy v u Q I rx ry ⟨Hf,x,y,d,s0,r1,r2,e,k⟩
 unfold dIs isD at e
 cases y with
 | non =>
  cases e
  exact zz8 pins s σ H vx vy v u Q I rx ry ⟨r2,by rw [zwh r1]; exact k _ Hf H (Ext.refl s0) rfl⟩
 | bl b =>
  cases x with
  | non=>cases e; cases r1; exact zvv pins s σ H _ vy v u Q I rx ry ⟨b,r2,.inl rfl,k _ Hf H (Ext.refl s0) rfl⟩
  | bl a=>cases e; cases r1; exact zvv pins s σ H _ vy v u Q I rx ry ⟨b,r2,.inr ⟨a,rfl⟩,by rw [zld]; exact k _ Hf H (Ext.refl s0) rfl⟩
  | _=>cases e
 | _=>cases e
theorem zf4 : OpD c X (compareOp .IsNot) zdl:=by
 rintro pins s σ H vx vy v u Q I rx ry ⟨Hf,x,y,d,s0,r1,r2,e,k⟩
 unfold zdl isD at e
 cases y with
 | non =>
  cases e
  exact z6j pins s σ H vx vy v u Q I rx ry ⟨r2,by rw [zwh r1]; exact k _ Hf H (Ext.refl s0) rfl⟩
 | bl b =>
  cases x with
  | non=>cases e; cases r1; exact zu8 pins s σ H _ vy v u Q I rx ry ⟨b,r2,.inl rfl,k _ Hf H (Ext.refl s0) rfl⟩
  | bl a=>cases e; cases r1; exact zu8 pins s σ H _ vy v u Q I rx ry ⟨b,r2,.inr ⟨a,rfl⟩,by rw [zld]; exact k _ Hf H (Ext.refl s0) rfl⟩
  | _=>cases e
 | _=>cases e
theorem zme {x : Option Bool} {g : Bool -> Bool} : ∀ d,x.map (fun b=>D.bl (g b)) = some d -> d.scalar = true:=by
 intro d e
 cases x with
 | none=>cases e
 | some b=>cases e; rfl
theorem zdz : ∀ x y d,dIs x y = some d -> d.scalar = true:=fun _ _ d e=>zme (g:=id) d e
theorem zfz : ∀ x y d,zdl x y = some d -> d.scalar = true:=fun _ _ d e=>zme (g:=not) d e
noncomputable def eqF : D -> D -> Bool
 | .non,.non=>true
 | .bl a,.bl b=>a == b
 | .int a,.int b=>a == b
 | .str a,.str b=>a == b
 | _,_=>false
noncomputable def zcw (f : D -> D -> Option Bool) : List D -> List D -> Option Bool
 | [],[]=>some true
 | x :: xs,y :: ys=>(f x y).bind fun b=>(zcw f xs ys).map fun r=>b && r
 | _,_=>some false
noncomputable def zot : D -> D -> Bool
 | .bl _,.int _=>true
 | .int _,.bl _=>true
 | _,_=>false
noncomputable def zne (f : D -> D -> Option Bool) : D -> D -> Option Bool
 | .lst xs,.lst ys=>if xs.length = ys.length then zcw f xs ys else some false
 | .tup xs,.tup ys=>if xs.length = ys.length then zcw f xs ys else none
 | x,y=>if x.scalar && y.scalar && !zot x y then some (eqF x y) else none
noncomputable def deq : Nat -> D -> D -> Option Bool
 | 0,_,_=>none
 | n + 1,x,y=>zne (deq n) x y
noncomputable def dEq (x y : D) : Option D:=(deq 20 x y).map .bl
noncomputable def dNe (x y : D) : Option D:=(deq 20 x y).map fun b=>.bl (!b)
theorem zbh : ∀ x y d,dEq x y = some d -> d.scalar = true:=fun _ _ d e=>zme (g:=id) d e
theorem zgz : ∀ x y d,dNe x y = some d -> d.scalar = true:=fun _ _ d e=>zme (g:=not) d e
theorem zr6 {f : D -> D -> Option Bool} {x y : D} {xs ys : List D} {b : Bool} (h : zcw f (x :: xs) (y :: ys) = some b) : ∃ b1 b2,f x y = some b1 /\ zcw f xs ys = some b2 /\ b = (b1 && b2):=by
 unfold zcw at h
 cases e1 : f x y with
 | none=>rw [e1] at h; cases h
 | some b1 =>
  cases e2 : zcw f xs ys with
  | none=>rw [e1,e2] at h; cases h
  | some b2=>rw [e1,e2] at h; cases h; exact ⟨b1,b2,rfl,rfl,rfl⟩
theorem zh2 {f : D -> D -> Option Bool} : ∀ {xs ys : List D} {b : Bool},xs.length = ys.length -> zcw f xs ys = some b -> ∃ e : Nat -> Bool,(∀ j x y,xs[j]? = some x -> ys[j]? = some y -> f x y = some (e j)) /\ (List.range xs.length).all e = b
 | [],[],b,_,h=>by cases h; exact ⟨fun _=>true,fun j x y e=>by simp at e,rfl⟩
 | x :: xs,y :: ys,b,hl,h=>by
  obtain ⟨b1,b2,h1,h2,rfl⟩:=zr6 h
  obtain ⟨e,he,ha⟩:=zh2 (by simpa using hl) h2
  refine ⟨fun j=>match j with | 0=>b1 | j + 1=>e j,fun j x' y' ex ey=>?_,?_⟩
  ·cases j with
   | zero=>simp at ex ey; subst ex ey; exact h1
   | succ j=>exact he j x' y' (by simpa using ex) (by simpa using ey)
  ·rw [List.length_cons,List.range_succ_eq_map,List.all_cons,List.all_map,<- ha]
   rfl
 | [],_ :: _,_,hl,_=>by cases hl
 | _ :: _,[],_,hl,_=>by cases hl
theorem zns {G : Gc} {H : Hp} {x y : D} {v u : V} (hs : (x.scalar && y.scalar && !zot x y) = true) (r1 : Rep G H x v) (r2 : Rep G H y u) : zef v = true /\ zef u = true /\ eqV v u = eqF x y /\ zpe v u = true /\ decide (v = u) = eqF x y:=by
 cases x <;> first
  | (cases hs; done)
  | (cases y <;> first
   | (cases hs; done)
   | (cases r1; cases r2; refine ⟨rfl,rfl,rfl,rfl,?_⟩; first | exact zld | exact zoi | exact zqq | rfl))
theorem zms {n : Nat} {x y : D} {b : Bool} (hs : ¬ (∃ xs ys,x = .lst xs /\ y = .lst ys) /\ ¬ (∃ xs ys,x = .tup xs /\ y = .tup ys)) (h : deq (n + 1) x y = some b) : (x.scalar && y.scalar && !zot x y) = true /\ b = eqF x y:=by
 replace h : zne (deq n) x y = some b:=h
 unfold zne at h
 split at h
 ·exact absurd ⟨_,_,rfl,rfl⟩ hs.1
 ·exact absurd ⟨_,_,rfl,rfl⟩ hs.2
 ·split at h
  ·rename_i hc
   cases h
   exact ⟨hc,rfl⟩
  ·cases h
theorem zvy {G : Gc} {H : Hp} : ∀ (n : Nat) {x y : D} {b : Bool} {v : V},deq n x y = some b -> Rep G H x v -> Rep G H y v -> b = true:=by
 intro n
 induction n with
 | zero=>intro x y b v h; cases h
 | succ n ih =>
  have all : ∀ (xs ys : List D) (vs : List V) (b : Bool),zas G H xs vs -> zas G H ys vs -> zcw (deq n) xs ys = some b -> b = true:=by
   intro xs
   induction xs with
   | nil =>
    intro ys vs b r1 r2 h
    cases (show vs = [] from r1)
    have : ys = []:=List.length_eq_zero_iff.mp r2.length
    subst this
    cases h; rfl
   | cons x xs ihx =>
    intro ys vs b r1 r2 h
    obtain ⟨v,r,e,h1,h2⟩:=r1
    subst e
    cases ys with
    | nil=>cases (show v :: r = [] from r2)
    | cons y ys =>
     obtain ⟨v',r',e,h1',h2'⟩:=r2
     cases e
     obtain ⟨b1,b2,e1,e2,rfl⟩:=zr6 h
     rw [ih e1 h1 h1',ihx ys _ b2 h2 h2' e2]
     rfl
  intro x y b v h r1 r2
  by_cases hl : ∃ xs ys,x = .lst xs /\ y = .lst ys
  ·obtain ⟨xs,ys,rfl,rfl⟩:=hl
   obtain ⟨a,vs,e,q,r1⟩:=r1
   obtain ⟨a',vs',e',q',r2⟩:=r2
   subst e; cases e'
   rw [q] at q'; cases q'
   have hlen : xs.length = ys.length:=r1.length.trans r2.length.symm
   replace h : (if xs.length = ys.length then zcw (deq n) xs ys else some false) = some b:=h
   rw [if_pos hlen] at h
   exact all xs ys vs b r1 r2 h
  ·by_cases ht : ∃ xs ys,x = .tup xs /\ y = .tup ys
   ·obtain ⟨xs,ys,rfl,rfl⟩:=ht
    obtain ⟨a,vs,e,q,r1⟩:=r1
    obtain ⟨a',vs',e',q',r2⟩:=r2
    subst e; cases e'
    rw [q] at q'; cases q'
    have hlen : xs.length = ys.length:=r1.length.trans r2.length.symm
    replace h : (if xs.length = ys.length then zcw (deq n) xs ys else none) = some b:=h
    rw [if_pos hlen] at h
    exact all xs ys vs b r1 r2 h
   ·obtain ⟨hs,rfl⟩:=zms ⟨hl,ht⟩ h
    obtain ⟨_,_,_,_,e⟩:=zns hs r1 r2
    rw [<- e]
    exact decide_eq_true rfl
section
variable {pins : List (Addr × Obj)} {σ : St} {H : Hp} {s : Shared}
theorem zje {G : Gc} {xs ys : List D} {vs us : List V} {its its2 : List Value} {n : Nat} {A : Around} {e : Nat -> Bool} (r1 : zas G H xs vs) (r2 : zas G H ys us) (r : za8 vs its) (r' : za8 us its2)
  (he : ∀ j x y,xs[j]? = some x -> ys[j]? = some y -> deq n x y = some (e j))
  (ih : ∀ {x y : D} {b : Bool} {v u : V} {w w' : Value},deq n x y = some b -> Rep G H x v -> Rep G H y u -> za6 v w -> za6 u w' -> SeqAt.EqAt A s w w' b) :
  ∀ j (h1 : j < its.toArray.size) (h2 : j < its2.toArray.size),SeqAt.EqAt A s its.toArray[j] its2.toArray[j] (e j):=fun j h1 h2=>by
 have h1' : j < its.length:=by simpa using h1
 have h2' : j < its2.length:=by simpa using h2
 obtain ⟨v,ev,rv⟩:=r.at' (i:=j) (u:=its[j]) (by simp [h1'])
 obtain ⟨u,eu,ru⟩:=r'.at' (i:=j) (u:=its2[j]) (by simp [h2'])
 obtain ⟨x,ex,rx⟩:=r1.get' ev
 obtain ⟨y,ey,ry⟩:=r2.get' eu
 exact ih (he j x y ex ey) rx ry rv ru
theorem zu6 (I : Inv X pins σ H s) : ∀ (n : Nat) {A : Around} {x y : D} {b : Bool} {v u : V} {w w' : Value},A.units + n < cLine -> deq n x y = some b -> Rep (Gx c X) H x v -> Rep (Gx c X) H y u -> za6 v w -> za6 u w' -> SeqAt.EqAt A s w w' b:=by
 intro n
 induction n with
 | zero=>intro A x y b v u w w' _ h; cases h
 | succ n ih =>
  intro A x y b v u w w' hu h r1 r2 rv ru
  have hin : ∀ {x y : D} {b : Bool} {v u : V} {w w' : Value},deq n x y = some b -> Rep (Gx c X) H x v -> Rep (Gx c X) H y u -> za6 v w -> za6 u w' -> SeqAt.EqAt A.in1 s w w' b:=fun h a b c d=>ih (by rw [Around.in1_units]; omega) h a b c d
  by_cases hl : ∃ xs ys,x = .lst xs /\ y = .lst ys
  ·obtain ⟨xs,ys,rfl,rfl⟩:=hl
   obtain ⟨a,vs,e,q,rs1⟩:=id r1
   obtain ⟨a',vs',e',q',rs2⟩:=id r2
   subst e e'
   cases rv; cases ru
   by_cases hab : a = a'
   ·subst hab
    have:=zvy (n + 1) h (show Rep (Gx c X) H (.lst xs) (.ref a) from ⟨a,vs,rfl,q,rs1⟩) ⟨a,vs',rfl,q',rs2⟩
    subst this
    exact SeqAt.EqAt.same _
   ·refine SeqAt.EqAt.of_refs hab ?_
    obtain ⟨its,rr,pl,hz⟩:=I.list (SqL.of (K:=X.K) q)
    obtain ⟨its2,rr2,pl2,hz2⟩:=I.list (SqL.of (K:=X.K) q')
    have l1:=rr.length
    have l2:=rr2.length
    have l3:=rs1.length
    have l4:=rs2.length
    replace h : (if xs.length = ys.length then zcw (deq n) xs ys else some false) = some b:=h
    split at h
    ·rename_i hlen
     obtain ⟨ee,he,ha⟩:=zh2 hlen h
     have:=SeqAt.RcAt.lists (A:=A) (s:=s) pl.isList pl2.isList (by simp only [List.size_toArray]; omega) (by omega) (zje (A:=A.in1) (s:=s) rs1 rs2 rr rr2 he hin)
     rw [List.size_toArray,<- l1,<- l3,ha] at this
     exact this
    ·rename_i hlen
     cases h
     exact SeqAt.RcAt.lists_lengths (A:=A) (s:=s) pl.isList pl2.isList (by simp only [List.size_toArray,bne_iff_ne,ne_eq]; omega) (by omega)
  ·by_cases ht : ∃ xs ys,x = .tup xs /\ y = .tup ys
   ·obtain ⟨xs,ys,rfl,rfl⟩:=ht
    obtain ⟨a,vs,e,q,rs1⟩:=id r1
    obtain ⟨a',vs',e',q',rs2⟩:=id r2
    subst e e'
    cases rv; cases ru
    by_cases hab : a = a'
    ·subst hab
     have:=zvy (n + 1) h (show Rep (Gx c X) H (.tup xs) (.ref a) from ⟨a,vs,rfl,q,rs1⟩) ⟨a,vs',rfl,q',rs2⟩
     subst this
     exact SeqAt.EqAt.same _
    ·refine SeqAt.EqAt.of_refs hab ?_
     obtain ⟨its,rr,pl,hz⟩:=I.tuple (SqT.of (K:=X.K) q)
     obtain ⟨its2,rr2,pl2,hz2⟩:=I.tuple (SqT.of (K:=X.K) q')
     have l1:=rr.length
     have l2:=rr2.length
     have l3:=rs1.length
     have l4:=rs2.length
     replace h : (if xs.length = ys.length then zcw (deq n) xs ys else none) = some b:=h
     split at h
     ·rename_i hlen
      obtain ⟨ee,he,ha⟩:=zh2 hlen h
      have:=SeqAt.RcAt.tuples (A:=A) (s:=s) (show s.heap.IsTuple a its.toArray from pl) (show s.heap.IsTuple a' its2.toArray from pl2) (by omega) (zje (A:=A.in1) (s:=s) rs1 rs2 rr rr2 he hin)
      have hsz : its.toArray.size = its2.toArray.size:=by simp only [List.size_toArray]; omega
      rw [<- hsz,Nat.min_self,beq_self_eq_true,Bool.and_true,List.size_toArray,<- l1,<- l3,ha] at this
      exact this
     ·cases h
   ·obtain ⟨hs,rfl⟩:=zms ⟨hl,ht⟩ h
    obtain ⟨f1,f2,e,_,_⟩:=zns hs r1 r2
    rw [<- e]
    exact zvl rv ru f1 f2
end
theorem zbi (hu : X.A.units + 64 < cLine) : OpD c X (compareOp .Eq) dEq:=by
 rintro pins s σ H v u w w' Q I rv ru ⟨Hf,x,y,d,s0,r1,r2,e,k⟩
 unfold dEq at e
 cases h : deq 20 x y with
 | none=>rw [h] at e; cases e
 | some b =>
  rw [h] at e
  cases e
  have q0:=k (.bl b) Hf H (Ext.refl s0) rfl
  have fin : EP X pins σ Q (.bool b) s:=⟨.bl b,H,I,rfl,q0⟩
  have r1:=r1.up s0
  have r2:=r2.up s0
  have hin : ∀ {x y : D} {b : Bool} {v u : V} {w w' : Value},deq 19 x y = some b -> Rep (Gx c X) H x v -> Rep (Gx c X) H y u -> za6 v w -> za6 u w' -> SeqAt.EqAt X.A.in1 s w w' b:=fun h a b c d=>zu6 I 19 (by rw [Around.in1_units]; omega) h a b c d
  by_cases hl : ∃ xs ys,x = .lst xs /\ y = .lst ys
  ·obtain ⟨xs,ys,rfl,rfl⟩:=hl
   obtain ⟨a,vs,e,q,rs1⟩:=id r1
   obtain ⟨a',vs',e',q',rs2⟩:=id r2
   subst e e'
   cases rv; cases ru
   obtain ⟨its,rr,pl,hz⟩:=I.list (SqL.of (K:=X.K) q)
   obtain ⟨its2,rr2,pl2,hz2⟩:=I.list (SqL.of (K:=X.K) q')
   have l1:=rr.length
   have l2:=rr2.length
   have l3:=rs1.length
   have l4:=rs2.length
   replace h : (if xs.length = ys.length then zcw (deq 19) xs ys else some false) = some b:=h
   split at h
   ·rename_i hlen
    obtain ⟨ee,he,ha⟩:=zh2 hlen h
    refine SeqAt.eq_listAt pl.isList pl2.isList (by simp only [List.size_toArray]; omega) (by omega) (zje rs1 rs2 rr rr2 he hin) ?_
    rw [List.size_toArray,<- l1,<- l3,ha]
    exact fin
   ·rename_i hlen
    cases h
    exact SeqAt.eq_list_lengthsAt pl.isList pl2.isList (by simp only [List.size_toArray,bne_iff_ne,ne_eq]; omega) (by omega) fin
  ·by_cases ht : ∃ xs ys,x = .tup xs /\ y = .tup ys
   ·obtain ⟨xs,ys,rfl,rfl⟩:=ht
    obtain ⟨a,vs,e,q,rs1⟩:=id r1
    obtain ⟨a',vs',e',q',rs2⟩:=id r2
    subst e e'
    cases rv; cases ru
    obtain ⟨its,rr,pl,hz⟩:=I.tuple (SqT.of (K:=X.K) q)
    obtain ⟨its2,rr2,pl2,hz2⟩:=I.tuple (SqT.of (K:=X.K) q')
    have l1:=rr.length
    have l2:=rr2.length
    have l3:=rs1.length
    have l4:=rs2.length
    replace h : (if xs.length = ys.length then zcw (deq 19) xs ys else none) = some b:=h
    split at h
    ·rename_i hlen
     obtain ⟨ee,he,ha⟩:=zh2 hlen h
     refine SeqAt.eq_tupleAt (show s.heap.IsTuple a its.toArray from pl) (show s.heap.IsTuple a' its2.toArray from pl2) (by omega) (zje rs1 rs2 rr rr2 he hin) ?_
     have hsz : its.toArray.size = its2.toArray.size:=by simp only [List.size_toArray]; omega
     rw [<- hsz,Nat.min_self,beq_self_eq_true,Bool.and_true,List.size_toArray,<- l1,<- l3,ha]
     exact fin
    ·cases h
   ·obtain ⟨hs,rfl⟩:=zms ⟨hl,ht⟩ h
    obtain ⟨_,_,_,hsc,e⟩:=zns hs r1 r2
    exact zx3 pins s σ H v u w w' Q I rv ru ⟨hsc,by rw [e]; exact q0⟩
theorem zg3 (hu : X.A.units + 64 < cLine) : OpD c X (compareOp .NotEq) dNe:=by
 rintro pins s σ H v u w w' Q I rv ru ⟨Hf,x,y,d,s0,r1,r2,e,k⟩
 unfold dNe at e
 cases h : deq 20 x y with
 | none=>rw [h] at e; cases e
 | some b =>
  rw [h] at e
  cases e
  have q0:=k (.bl (!b)) Hf H (Ext.refl s0) rfl
  have fin : EP X pins σ Q (.bool (!b)) s:=⟨.bl (!b),H,I,rfl,q0⟩
  have r1:=r1.up s0
  have r2:=r2.up s0
  have hin : ∀ {x y : D} {b : Bool} {v u : V} {w w' : Value},deq 19 x y = some b -> Rep (Gx c X) H x v -> Rep (Gx c X) H y u -> za6 v w -> za6 u w' -> SeqAt.EqAt X.A.in1 s w w' b:=fun h a b c d=>zu6 I 19 (by rw [Around.in1_units]; omega) h a b c d
  by_cases hl : ∃ xs ys,x = .lst xs /\ y = .lst ys
  ·obtain ⟨xs,ys,rfl,rfl⟩:=hl
   obtain ⟨a,vs,e,q,rs1⟩:=id r1
   obtain ⟨a',vs',e',q',rs2⟩:=id r2
   subst e e'
   cases rv; cases ru
   obtain ⟨its,rr,pl,hz⟩:=I.list (SqL.of (K:=X.K) q)
   obtain ⟨its2,rr2,pl2,hz2⟩:=I.list (SqL.of (K:=X.K) q')
   have l1:=rr.length
   have l2:=rr2.length
   have l3:=rs1.length
   have l4:=rs2.length
   replace h : (if xs.length = ys.length then zcw (deq 19) xs ys else some false) = some b:=h
   split at h
   ·rename_i hlen
    obtain ⟨ee,he,ha⟩:=zh2 hlen h
    refine SeqAt.RcNeAt.lists (A:=X.A) (s:=s) pl.isList pl2.isList (by simp only [List.size_toArray]; omega) (by omega) (zje rs1 rs2 rr rr2 he hin) X.prog X.w X.xe _ ?_
    rw [List.size_toArray,<- l1,<- l3,ha]
    exact fin
   ·rename_i hlen
    cases h
    exact SeqAt.RcNeAt.lists_lengths (A:=X.A) (s:=s) pl.isList pl2.isList (by simp only [List.size_toArray,bne_iff_ne,ne_eq]; omega) (by omega) X.prog X.w X.xe _ fin
  ·by_cases ht : ∃ xs ys,x = .tup xs /\ y = .tup ys
   ·obtain ⟨xs,ys,rfl,rfl⟩:=ht
    obtain ⟨a,vs,e,q,rs1⟩:=id r1
    obtain ⟨a',vs',e',q',rs2⟩:=id r2
    subst e e'
    cases rv; cases ru
    obtain ⟨its,rr,pl,hz⟩:=I.tuple (SqT.of (K:=X.K) q)
    obtain ⟨its2,rr2,pl2,hz2⟩:=I.tuple (SqT.of (K:=X.K) q')
    have l1:=rr.length
    have l2:=rr2.length
    have l3:=rs1.length
    have l4:=rs2.length
    replace h : (if xs.length = ys.length then zcw (deq 19) xs ys else none) = some b:=h
    split at h
    ·rename_i hlen
     obtain ⟨ee,he,ha⟩:=zh2 hlen h
     refine SeqAt.RcNeAt.tuples (A:=X.A) (s:=s) (show s.heap.IsTuple a its.toArray from pl) (show s.heap.IsTuple a' its2.toArray from pl2) (by omega) (zje rs1 rs2 rr rr2 he hin) X.prog X.w X.xe _ ?_
     have hsz : its.toArray.size = its2.toArray.size:=by simp only [List.size_toArray]; omega
     rw [<- hsz,Nat.min_self,beq_self_eq_true,Bool.and_true,List.size_toArray,<- l1,<- l3,ha]
     exact fin
    ·cases h
   ·obtain ⟨hs,rfl⟩:=zms ⟨hl,ht⟩ h
    obtain ⟨_,_,_,hsc,e⟩:=zns hs r1 r2
    exact zze pins s σ H v u w w' Q I rv ru ⟨hsc,by rw [e]; exact q0⟩
noncomputable def eqX : D -> D -> Bool
 | .non,.non=>true
 | .bl a,.bl b=>a == b
 | .bl a,.int b=>(if a then 1 else 0) == b
 | .int a,.bl b=>a == (if b then 1 else 0)
 | .int a,.int b=>a == b
 | .str a,.str b=>a == b
 | _,_=>false
noncomputable def inD (x y : D) : Option Bool:=(zha y).bind fun ds=>if x.scalar && ds.all D.scalar then some (ds.any fun d=>eqX d x) else none
noncomputable def dIn (x y : D) : Option D:=(inD x y).map .bl
theorem zsl : ∀ x y d,dIn x y = some d -> d.scalar = true:=fun _ _ d e=>zme (g:=id) d e
theorem z3t {G : Gc} {H : Hp} {x y : D} {v u : V} (hx : x.scalar = true) (hy : y.scalar = true) (r1 : Rep G H x v) (r2 : Rep G H y u) : zef v = true /\ zef u = true /\ eqV v u = eqX x y:=by
 cases x <;> first
  | (cases hx; done)
  | (cases y <;> first
   | (cases hy; done)
   | (cases r1; cases r2; exact ⟨rfl,rfl,rfl⟩))
theorem zwf {G : Gc} {H : Hp} {x : D} {v : V} (hx : x.scalar = true) (r : Rep G H x v) : ∀ {ds : List D} {vs : List V},ds.all D.scalar = true -> zas G H ds vs -> vs.all zef = true /\ inV v vs = ds.any fun d=>eqX d x
 | [],_,_,h=>by cases (show _ = [] from h); exact ⟨rfl,rfl⟩
 | d :: ds,_,ha,⟨u,r',e,h1,h2⟩=>by
  subst e
  rw [List.all_cons,Bool.and_eq_true] at ha
  obtain ⟨f1,f2,e⟩:=z3t ha.1 hx h1 r
  obtain ⟨g1,g2⟩:=zwf hx r ha.2 h2
  refine ⟨by rw [List.all_cons,f1,g1]; rfl,?_⟩
  unfold inV at g2 ⊢
  rw [List.any_cons,List.any_cons,e,g2]
theorem zz7 {G : Gc} {H : Hp} {x y : D} {v u : V} {b : Bool} (e : inD x y = some b) (r1 : Rep G H x v) (r2 : Rep G H y u) : ∃ p vs,u = .ref p /\ (SqL G.K H p vs \/ SqT G.K H p vs) /\ zef v = true /\ vs.all zef = true /\ inV v vs = b:=by
 unfold inD at e
 cases es : zha y with
 | none=>rw [es] at e; cases e
 | some ds =>
  rw [es] at e
  replace e : (if (x.scalar && ds.all D.scalar) = true then some (ds.any fun d=>eqX d x) else none) = some b:=e
  split at e
  ·rename_i hc
   cases e
   rw [Bool.and_eq_true] at hc
   obtain ⟨a,vs,e1,q,r⟩:=znh es r2
   obtain ⟨g1,g2⟩:=zwf hc.1 r1 hc.2 r
   have f : zef v = true:=by cases x <;> first | (cases r1; rfl) | (cases hc.1)
   exact ⟨a,vs,e1,q,f,g1,g2⟩
  ·cases e
theorem ztz : OpD c X (compareOp .In) dIn:=by
 rintro pins s σ H v u w w' Q I rv ru ⟨Hf,x,y,d,s0,r1,r2,e,k⟩
 unfold dIn at e
 cases h : inD x y with
 | none=>rw [h] at e; cases e
 | some b =>
  rw [h] at e
  cases e
  obtain ⟨p,vs,e1,q,f1,f2,e2⟩:=zz7 h (r1.up s0) (r2.up s0)
  refine z66 pins s σ H v u w w' Q I rv ru ⟨p,vs,e1,q,f1,f2,?_⟩
  rw [if_neg Bool.false_ne_true,e2]
  exact k _ Hf H (Ext.refl s0) rfl
end
section
variable {c : Str -> Addr} {X : Cx} {e a b o : Expr} {es : List Expr} {pos p apos : Pos}
theorem z1u {G : Gc} {H : Hp} {ds : List D} {vs : List V} {i : Int} {d : D} (h : atI ds i = some d) (r : zas G H ds vs) : ∃ v,atI vs i = some v /\ Rep G H d v:=by
 unfold atI at h ⊢
 rw [<- r.length]
 cases e : ixN ds.length i with
 | none=>rw [e] at h; cases h
 | some j =>
  rw [e] at h
  exact r.get h
noncomputable def ixD (ds : List D) : D -> Option D
 | .int k=>atI ds k
 | _=>none
noncomputable def mIx (f : List Sl -> Option (List D)) (g : List Sl -> Option D) (ρ : List Sl) : Option D:=(f ρ).bind fun ds=>(g ρ).bind fun i=>ixD ds i
theorem zah {f : List Sl -> Option (List D)} {g : List Sl -> Option D} (ha : DC c X a f) (hb : DE c X b g) (hs : zu7 b:=by exact fun _ _=>rfl) : DE c X (.Subscript a b pos) (mIx f g) :=
 PE.imp (z5q (z5l.or z5r) ha hb hs) fun σ H Q q_=>by
  obtain ⟨Hf0,H0,Hf,ρ,d,st,ef,k⟩:=q_
  unfold mIx at ef
  cases e1 : f ρ with
  | none=>rw [e1] at ef; cases ef
  | some ds =>
   cases e2 : g ρ with
   | none=>rw [e1,e2] at ef; cases ef
   | some i =>
    rw [e1,e2] at ef
    replace ef : ixD ds i = some d:=ef
    cases i with
    | int n =>
     replace ef : atI ds n = some d:=ef
     refine ⟨Hf0,H0,Hf,ρ,ds,st,e1,fun l vs Hf1 H1 x1 q r=>⟨Hf0,H0,Hf1,ρ,.int n,st.step x1,e2,fun u Hf2 H2 x2 r2=>?_⟩⟩
     cases (show u = V.int n from r2)
     obtain ⟨v,ev,rv⟩:=z1u ef r
     have fin:=k v Hf2 H2 (x1.trans x2) (rv.up x2.f)
     rcases q with q | q
     ·exact .inl ⟨l,vs,n,v,rfl,rfl,x2.h.seq q,ev,fin⟩
     ·exact .inr ⟨l,vs,n,v,rfl,rfl,x2.h.tup q,ev,fin⟩
    | _=>cases ef
noncomputable def zih (xs : List D) (lo hi : Option Int) : List D:=(xs.drop (HT.sIx xs.length 0 lo)).take (HT.sIx xs.length xs.length hi - HT.sIx xs.length 0 lo)
noncomputable def lsD : D -> Option (List D)
 | .lst xs=>some xs
 | .kl xs=>some xs
 | _=>none
theorem zgt {G : Gc} {H : Hp} {d : D} {v : V} {ds : List D} (e : lsD d = some ds) (r : Rep G H d v) : ∃ a vs,v = .ref a /\ SqL G.K H a vs /\ zas G H ds vs:=by
 cases d with
 | lst xs=>cases e; obtain ⟨a,vs,e1,q,r⟩:=r; exact ⟨a,vs,e1,SqL.of q,r⟩
 | kl xs=>cases e; obtain ⟨a,vs,e1,q,r⟩:=r; exact ⟨a,vs,e1,q,r⟩
 | _=>cases e
noncomputable def z20 (G : Gc) (f : List Sl -> Option (Option Int)) : TO:=fun σ H Q=>∃ Hf0 H0 Hf ρ i,za0 G Hf0 H0 Hf H σ ρ /\ f ρ = some i /\ ∀ Hf' H',Ext Hf H Hf' H' -> Q i H'
noncomputable def DPt (c : Str -> Addr) (X : Cx) (e : Option Expr) (f : List Sl -> Option (Option Int)) : Prop:=PO X e (z20 (Gx c X) f)
theorem zdg : DPt c X none (fun _=>some none):=fun pins s σ H Q I q_=>by
 obtain ⟨Hf0,H0,Hf,ρ,i,st,ef,k⟩:=q_
 exact (z8u pins s σ H Q I (by cases ef; exact k Hf H (Ext.refl st.sub)))
noncomputable def mPt (f : List Sl -> Option D) (ρ : List Sl) : Option (Option Int):=(f ρ).bind fun d=>match d with
 | .int i=>some (some i)
 | _=>none
theorem zcu {f : List Sl -> Option D} (h : DE c X e f) : DPt c X (some e) (mPt f):=fun pins s σ H Q I q_=>by
 obtain ⟨Hf0,H0,Hf,ρ,i,st,ef,k⟩:=q_
 exact (zwr h pins s σ H Q I (by
 unfold mPt at ef
 cases e1 : f ρ with
 | none=>rw [e1] at ef; cases ef
 | some d =>
  rw [e1] at ef
  cases d with
  | int n=>cases ef; exact ⟨Hf0,H0,Hf,ρ,.int n,st,e1,fun v Hf' H' x r=>⟨n,r,k Hf' H' x⟩⟩
  | _=>cases ef))
noncomputable def mSl (f : List Sl -> Option D) (l h : List Sl -> Option (Option Int)) (ρ : List Sl) : Option (List D):=(f ρ).bind fun d=>(lsD d).bind fun ds=>(l ρ).bind fun lo=>(h ρ).map fun hi=>zih ds lo hi
theorem zy2 {G : Gc} {H : Hp} {ds : List D} {vs : List V} (r : zas G H ds vs) (lo hi : Option Int) : zas G H (zih ds lo hi) (zhy vs lo hi):=by
 unfold zih zhy
 rw [r.length]
 exact (r.drop _).take _
theorem zc4 {f : List Sl -> Option D} {l h : List Sl -> Option (Option Int)} {lo hi : Option Expr} {p2 : Pos} (ha : DE c X e f) (hl : DPt c X lo l) (hh : DPt c X hi h) : DO c X (.Subscript e (.Slice lo hi none p2) pos) (mSl f l h) :=
 PE.imp (z4l z8p ha hl hh) fun σ H Q q_=>by
  obtain ⟨Hf0,H0,Hf,ρ,rs,st,ef,k⟩:=q_
  unfold mSl at ef
  cases e1 : f ρ with
  | none=>rw [e1] at ef; cases ef
  | some d =>
   cases e2 : lsD d with
   | none=>rw [e1] at ef; replace ef : (lsD d).bind _ = _:=ef; rw [e2] at ef; cases ef
   | some ds =>
    cases e3 : l ρ with
    | none=>rw [e1] at ef; replace ef : (lsD d).bind _ = _:=ef; rw [e2,e3] at ef; cases ef
    | some lo' =>
     cases e4 : h ρ with
     | none=>rw [e1] at ef; replace ef : (lsD d).bind _ = _:=ef; rw [e2,e3,e4] at ef; cases ef
     | some hi' =>
      rw [e1] at ef
      replace ef : (lsD d).bind _ = _:=ef
      rw [e2,e3,e4] at ef
      cases ef
      refine ⟨Hf0,H0,Hf,ρ,d,st,e1,fun v Hf1 H1 x1 r1=>⟨Hf0,H0,Hf1,ρ,lo',st.step x1,e3,fun Hf2 H2 x2=>⟨Hf0,H0,Hf2,ρ,hi',(st.step x1).step x2,e4,fun Hf3 H3 x3=>?_⟩⟩⟩
      obtain ⟨a,vs,ea,q,r⟩:=zgt e2 r1
      subst ea
      have x:=(x1.trans x2).trans x3
      have y:=(x2.trans x3)
      refine ⟨a,vs,rfl,(x1.s.trans y.h).seq q,fun p hp=>?_⟩
      exact k p (zhy vs lo' hi') Hf3 (upd H3 p (.lst (zhy vs lo' hi'))) (x.trans (Ext.tmp x.s hp)) (x.h.free hp) (x.s.free hp) zcg (zy2 (r.up y.f) _ _)
noncomputable def rCD (G : Gc) (m : List D -> Option D) : List V -> Hp -> VK -> Prop:=fun vs H Q=>∃ Hf ds d,za5 Hf H /\ zas G Hf ds vs /\ m ds = some d /\ ∀ v Hf' H',Ext Hf H Hf' H' -> Rep G Hf' d v -> Q v H'
noncomputable abbrev zmd (c : Str -> Addr) (X : Cx) (f : Value) (m : List D -> Option D) : Prop:=zf6 X f (rCD (Gx c X) m)
noncomputable def zap (m : List D -> Option D) (f : List Sl -> Option (List D)) (ρ : List Sl) : Option D:=(f ρ).bind m
theorem zo5 {m : List D -> Option D} {f : List Sl -> Option (List D)} {ρ : List Sl} {d : D} (h : zap m f ρ = some d) : ∃ ds,f ρ = some ds /\ m ds = some d:=by
 unfold zap at h
 cases e : f ρ with
 | none=>rw [e] at h; cases h
 | some ds=>rw [e] at h; exact ⟨ds,rfl,h⟩
theorem zb3 {m : List D -> Option D} {f : List Sl -> Option (List D)} {x : Str} {id : String} (hc : zmd c X (.builtin id) m) (hs : ∀ ds d,m ds = some d -> d.scalar = true) (hg : Gl X x) (hm : X.mg x = none) (hv : bootBuiltins x = some (.builtin id)) (ha : DAB c X (e :: es) f) (hn : x ≠ "__name__":=by decide) (hdb : (x == ("__debug__" : Str)) = false:=by decide)
  (he : starEach (e :: es) X.env = (false,eval e X.env) :: starEach es X.env:=by rfl) (hpl : (backTo pos (starEach es X.env)).any (·.1) = false:=by rfl) :
  DE c X (.Call (.Name x p) (e :: es) [] pos) (zap m f):=PE.imp (zv0 hc hg hm hv ha.pa hn hdb he hpl) fun σ H Q q_=>by
 obtain ⟨Hf0,H0,Hf,ρ,d,st,ef,k⟩:=q_
 obtain ⟨ds,e1,e2⟩:=zo5 ef
 exact ⟨Hf0,H0,Hf,ρ,ds,st,e1,fun vs Hf' H' x r=>⟨H',ds,d,za5.refl _,r,e2,fun v Hf2 H2 x2 r2=>k v Hf' H2 (x.trans (Ext.grow x.s x2.h)) (r2.sc (hs _ _ e2))⟩⟩
noncomputable def zcd : List D -> Option D
 | [.lst xs]=>some (.int xs.length)
 | [.tup xs]=>some (.int xs.length)
 | [.kl xs]=>some (.int xs.length)
 | [.kt xs]=>some (.int xs.length)
 | [.str x]=>if x.length <= 16777216 then some (.int x.length) else none
 | _=>none
theorem zas.one {G : Gc} {H : Hp} {d : D} {vs : List V} (r : zas G H [d] vs) : ∃ v,vs = [v] /\ Rep G H d v:=by
 obtain ⟨v,r',e,h,q⟩:=r
 cases (show r' = [] from q)
 exact ⟨v,e,h⟩
theorem zc6 : zmd c X (.builtin "len") zcd:=by
 rintro pins s σ H vs us Q I rv ⟨Hf,ds,d,s0,r,e,k⟩
 have sq : ∀ (d0 : D) (xs : List D),ds = [d0] -> zha d0 = some xs -> d = .int xs.length -> wpAny (model X.prog X.w) X.A (call (.builtin "len") us) (EP X pins σ Q) X.xe s:=fun d0 xs ed es e0=>by
  subst ed e0
  obtain ⟨v,e1,r1⟩:=r.one
  subst e1
  obtain ⟨a,ws,e2,q,rs⟩:=znh es r1
  subst e2
  refine zyj pins s σ H _ us Q I rv ⟨a,ws,rfl,zp8 s0 q,?_⟩
  rw [<- rs.length]
  exact k _ Hf H (Ext.refl s0) rfl
 unfold zcd at e
 split at e
 ·cases e; exact sq _ _ rfl rfl rfl
 ·cases e; exact sq _ _ rfl rfl rfl
 ·cases e; exact sq _ _ rfl rfl rfl
 ·cases e; exact sq _ _ rfl rfl rfl
 ·split at e
  ·rename_i hl
   cases e
   obtain ⟨v,e1,r1⟩:=r.one
   subst e1
   exact zza pins s σ H _ us Q I rv ⟨_,by rw [show v = V.str _ from r1],by rw [sizeLine_eq]; exact hl,k _ Hf H (Ext.refl s0) rfl⟩
  ·cases e
 ·cases e
theorem zda : ∀ ds d,zcd ds = some d -> d.scalar = true:=by
 intro ds d e
 unfold zcd at e
 split at e <;> first | (cases e; done) | (cases e; rfl) | (split at e <;> first | (cases e; done) | (cases e; rfl))
noncomputable def zex : List D -> Option (List Int)
 | []=>some []
 | .int i :: ds=>(zex ds).map fun r=>i :: r
 | _=>none
theorem zt7 {G : Gc} {H : Hp} : ∀ {ds : List D} {ns : List Int} {vs : List V},zex ds = some ns -> zas G H ds vs -> vs = ns.map V.int
 | [],_,_,e,r=>by cases e; exact r
 | .int i :: ds,_,_,e,⟨v,r',e',h1,h2⟩=>by
  subst e'
  cases es : zex ds with
  | none=>rw [zex,es] at e; cases e
  | some ns =>
   rw [zex,es] at e
   cases e
   rw [zt7 es h2,show v = V.int i from h1]
   rfl
 | .non :: _,_,_,e,_=>by cases e
 | .bl _ :: _,_,_,e,_=>by cases e
 | .str _ :: _,_,_,e,_=>by cases e
 | .lst _ :: _,_,_,e,_=>by cases e
 | .tup _ :: _,_,_,e,_=>by cases e
 | .kl _ :: _,_,_,e,_=>by cases e
 | .kt _ :: _,_,_,e,_=>by cases e
 | .dic _ _ :: _,_,_,e,_=>by cases e
 | .ins _ _ _ :: _,_,_,e,_=>by cases e
theorem z7m (ns : List Int) : zex (ns.map D.int) = some ns:=by
 induction ns with
 | nil=>rfl
 | cons n ns ih=>rw [List.map_cons,zex,ih]; rfl
noncomputable def zd2 : List D -> Option D
 | [d]=>(lsD d).bind fun ds=>(zex ds).map fun ns=>.int ns.sum
 | _=>none
theorem zgs (hc : X.calm = true) : zmd c X (.builtin "sum") zd2:=by
 rintro pins s σ H vs us Q I rv ⟨Hf,ds,d,s0,r,e,k⟩
 unfold zd2 at e
 split at e
 ·rename_i d0
  cases e1 : lsD d0 with
  | none=>rw [e1] at e; cases e
  | some xs =>
   cases e2 : zex xs with
   | none=>rw [e1] at e; replace e : (zex xs).map _ = _:=e; rw [e2] at e; cases e
   | some ns =>
    rw [e1] at e
    replace e : (zex xs).map _ = _:=e
    rw [e2] at e
    cases e
    obtain ⟨v,ev,r1⟩:=r.one
    subst ev
    obtain ⟨a,ws,ea,q,rs⟩:=zgt e1 r1
    subst ea
    refine z6m hc pins s σ H _ us Q I rv ⟨a,ns,rfl,?_,k _ Hf H (Ext.refl s0) rfl⟩
    rw [<- zt7 e2 rs]
    exact s0.seq q
 ·cases e
theorem zg4 : ∀ ds d,zd2 ds = some d -> d.scalar = true:=by
 intro ds d e
 unfold zd2 at e
 split at e
 ·rename_i d0
  cases e1 : lsD d0 with
  | none=>rw [e1] at e; cases e
  | some xs =>
   rw [e1] at e
   replace e : (zex xs).map _ = _:=e
   cases e2 : zex xs with
   | none=>rw [e2] at e; cases e
   | some ns=>rw [e2] at e; cases e; rfl
 ·cases e
theorem zhb {f : List Sl -> Option (List D)} {x : Str} (hx : bootBuiltins x = some (.type "list")) (hg : Gl X x) (hm : X.mg x = none) (ha : DC c X e f) (hs : starEach [e] X.env = (false,eval e X.env) :: starEach [] X.env:=by rfl) (hn : x ≠ "__name__":=by decide) (hdb : (x == ("__debug__" : Str)) = false:=by decide)
  (hpl : (backTo pos (starEach [] X.env)).any (·.1) = false:=by rfl) : DO c X (.Call (.Name x p) [e] [] pos) f :=
 PE.imp (z1q z5m hg hm hx (zdr ha zee hs) hn hdb hs hpl) fun σ H Q ⟨Hf0,H0,Hf,ρ,ds,st,ef,k⟩ =>
  ⟨Hf0,H0,Hf,ρ,ds,st,ef,fun a vs Hf' H' x q r=>⟨a,vs,rfl,q,fun l hl=>k l vs Hf' (upd H' l (.lst vs)) (x.trans (Ext.tmp x.s hl)) (x.h.free hl) (x.s.free hl) zcg r⟩⟩
noncomputable def tyN : D -> Option String
 | .non=>some "NoneType"
 | .bl _=>some "bool"
 | .int _=>some "int"
 | .str _=>some "str"
 | .lst _=>some "list"
 | .tup _=>some "tuple"
 | .dic _ _=>some "dict"
 | _=>none
noncomputable def zqz (T : String) (d : D) : Option D:=(tyN d).map fun t=>.bl (t == T || (t == "bool" && T == "int"))
theorem z65 {G : Gc} {H : Hp} {d : D} {v : V} {t : String} (e : tyN d = some t) (r : Rep G H d v) : ze0 G.K H v (.type t):=by
 cases d with
 | non=>cases e; cases r; exact .non
 | bl b=>cases e; cases r; exact .bl b
 | int i=>cases e; cases r; exact .int i
 | str x=>cases e; cases r; exact .str x
 | lst xs=>cases e; obtain ⟨a,vs,e1,q,r⟩:=r; subst e1; exact .lst q
 | tup xs=>cases e; obtain ⟨a,vs,e1,q,r⟩:=r; subst e1; exact .tup q
 | dic ks xs=>cases e; obtain ⟨a,vs,e1,q,l,r⟩:=r; subst e1; exact .dK q
 | _=>cases e
noncomputable def zuv (K : PySem.W.Frag) (T : String) : Prop:=∀ t ∈ ["NoneType","bool","int","str","list","tuple","dict"],PySem.W.kitOne K (.type t) (.type T) = some (t == T || (t == "bool" && T == "int"))
theorem z6l {d : D} {t : String} (e : tyN d = some t) : t ∈ ["NoneType","bool","int","str","list","tuple","dict"]:=by
 cases d <;> first | (cases e; decide) | cases e
noncomputable def zpk (T : String) (f : List Sl -> Option D) (ρ : List Sl) : Option D:=(f ρ).bind (zqz T)
theorem zw9 {f : List Sl -> Option D} {T : String} {q1 : Pos} {y : Str} (hk : zuv X.K T) (hg : Gl X "isinstance") (hm : X.mg "isinstance" = none) (hy : bootBuiltins y = some (.type T)) (hgy : Gl X y) (hmy : X.mg y = none) (ha : DB c X e f)
  (hs : starEach [e,.Name y q1] X.env = (false,eval e X.env) :: starEach [.Name y q1] X.env:=by rfl) (hs2 : starEach [.Name y q1] X.env = (false,eval (.Name y q1) X.env) :: starEach [] X.env:=by rfl)
  (hn : y ≠ "__name__":=by decide) (hdb : (y == ("__debug__" : Str)) = false:=by decide) (hpl : (backTo pos (starEach [.Name y q1] X.env)).any (·.1) = false:=by rfl) :
  DE c X (.Call (.Name "isinstance" p) [e,.Name y q1] [] pos) (zpk T f) :=
 PE.imp (zv0 z02 hg hm boot_isinstance (zdr ha (zdr (z5c (v:=.ty T) hgy hmy hy rfl hn hdb) zee hs2) hs) (by decide) (by decide) hs hpl) fun σ H Q q_=>by
  obtain ⟨Hf0,H0,Hf,ρ,d,st,ef,k⟩:=q_
  unfold zpk at ef
  cases e1 : f ρ with
  | none=>rw [e1] at ef; cases ef
  | some x =>
   rw [e1] at ef
   replace ef : zqz T x = some d:=ef
   unfold zqz at ef
   cases e2 : tyN x with
   | none=>rw [e2] at ef; cases ef
   | some t =>
    rw [e2] at ef
    cases ef
    exact ⟨Hf0,H0,Hf,ρ,x,st,e1,fun v Hf' H' x1 r=>⟨v,T,.type t,_,rfl,z65 e2 r,hk t (z6l e2),k _ Hf' H' x1 rfl⟩⟩
end
noncomputable def tDG (G : Gc) (g : D -> List Sl -> Option (List Sl)) : TG:=fun v σ H Q=>∃ Hf0 H0 Hf ρ d ρ',za0 G Hf0 H0 Hf H σ ρ /\ Rep G Hf d v /\ g d ρ = some ρ' /\ ∀ σ',za0 G Hf0 H0 Hf H σ' ρ' -> Q σ' H
noncomputable def z5e (G : Gc) (g : List D -> List Sl -> Option (List Sl)) : TGs:=fun vs σ H Q=>∃ Hf0 H0 Hf ρ ds ρ',za0 G Hf0 H0 Hf H σ ρ /\ zas G Hf ds vs /\ g ds ρ = some ρ' /\ ∀ σ',za0 G Hf0 H0 Hf H σ' ρ' -> Q σ' H
structure DG (c : Str -> Addr) (X : Cx) (tg : Expr) (k : Nat) (g : D -> List Sl -> Option (List Sl)) : Prop where
 pg : PG X tg (tDG (Gx c X) g)
 len : ∀ d ρ ρ',g d ρ = some ρ' -> ρ'.length = ρ.length
 keep : ∀ d ρ ρ' i,g d ρ = some ρ' -> k <= i -> ρ'[i]? = ρ[i]?
structure DGs (c : Str -> Addr) (X : Cx) (tg : List Expr) (k : Nat) (g : List D -> List Sl -> Option (List Sl)) : Prop where
 pg : PGs X tg (z5e (Gx c X) g)
 len : ∀ d ρ ρ',g d ρ = some ρ' -> ρ'.length = ρ.length
 keep : ∀ d ρ ρ' i,g d ρ = some ρ' -> k <= i -> ρ'[i]? = ρ[i]?
 many : ∀ ds ρ ρ',g ds ρ = some ρ' -> ds.length = tg.length
section
variable {c : Str -> Addr} {X : Cx} {e : Expr} {es : List Expr} {pos : Pos}
noncomputable def zaq (i : Nat) (d : D) (ρ : List Sl) : Option (List Sl):=some (ρ.set i (.im d))
theorem zr4 {i k : Nat} (h : PG X e (zhi i)) (hk : i < k) : DG c X e k (zaq i) :=
 ⟨PG.imp h fun v σ H Q ⟨Hf0,H0,Hf,ρ,d,ρ',st,r,eg,q⟩=>by cases eg; exact q _ (st.setIm r),fun d ρ ρ' h=>by cases h; simp,fun d ρ ρ' j h hj=>by
  cases h
  rw [List.getElem?_set_ne (by omega)]⟩
theorem zcc (i k : Nat) {x : Str} (hN : X.N.Nodup) (hk : i < k:=by decide) (hi : X.N[i]? = some x:=by rfl) (hx : Loc X.env.scope x:=by first | exact Or.inl rfl | exact Or.inr rfl) (hf : X.fn x = true \/ X.env.scope.names.lookup x = some .local:=by first | exact .inl rfl | exact .inr rfl) : DG c X (.Name x pos) k (zaq i) :=
 zr4 (zr0 hN hi hx hf) hk
noncomputable def zcf (ds : List D) (ρ : List Sl) : Option (List Sl):=match ds with
 | []=>some ρ
 | _=>none
noncomputable def za3 (g : D -> List Sl -> Option (List Sl)) (h : List D -> List Sl -> Option (List Sl)) (ds : List D) (ρ : List Sl) : Option (List Sl):=match ds with
 | d :: ds=>(g d ρ).bind fun ρ1=>h ds ρ1
 | []=>none
theorem zcm {k : Nat} : DGs c X [] k zcf:=by
 refine ⟨PGs.imp z08 fun vs σ H Q ⟨Hf0,H0,Hf,ρ,ds,ρ',st,r,eg,q⟩=>?_,fun d ρ ρ' h=>?_,fun d ρ ρ' i h _=>?_,fun d ρ ρ' h=>?_⟩
 ·cases ds with
  | nil=>cases eg; exact ⟨r,q _ st⟩
  | cons d ds=>cases eg
 ·cases d with
  | nil=>cases h; rfl
  | cons a b=>cases h
 ·cases d with
  | nil=>cases h; rfl
  | cons a b=>cases h
 ·cases d with
  | nil=>cases h; rfl
  | cons a b=>cases h
theorem zof {g : D -> List Sl -> Option (List Sl)} {h : List D -> List Sl -> Option (List Sl)} {ds : List D} {ρ ρ' : List Sl} (e : za3 g h ds ρ = some ρ') : ∃ d r ρ1,ds = d :: r /\ g d ρ = some ρ1 /\ h r ρ1 = some ρ':=by
 cases ds with
 | nil=>cases e
 | cons d r =>
  replace e : (g d ρ).bind _ = _:=e
  cases e1 : g d ρ with
  | none=>rw [e1] at e; cases e
  | some ρ1=>rw [e1] at e; exact ⟨d,r,ρ1,rfl,e1,e⟩
theorem zbc {k : Nat} {g : D -> List Sl -> Option (List Sl)} {h : List D -> List Sl -> Option (List Sl)} (h1 : DG c X e k g) (h2 : DGs c X es k h) (hs : (assignEach (e :: es) X.env).map (·.2) = assign e X.env :: (assignEach es X.env).map (·.2):=by rfl) : DGs c X (e :: es) k (za3 g h):=by
 refine ⟨PGs.imp (z3w h1.pg h2.pg hs) fun vs σ H Q ⟨Hf0,H0,Hf,ρ,ds,ρ',st,r,eg,q⟩=>?_,fun d ρ ρ' h=>?_,fun d ρ ρ' i h hi=>?_,fun d ρ ρ' h=>?_⟩
 ·obtain ⟨d,dr,ρ1,rfl,e1,e2⟩:=zof eg
  obtain ⟨v,vr,ev,rv,rr⟩:=r
  exact ⟨v,vr,ev,Hf0,H0,Hf,ρ,d,ρ1,st,rv,e1,fun σ1 st1=>⟨Hf0,H0,Hf,ρ1,dr,ρ',st1,rr,e2,q⟩⟩
 ·obtain ⟨d,dr,ρ1,rfl,e1,e2⟩:=zof h
  rw [h2.len _ _ _ e2,h1.len _ _ _ e1]
 ·obtain ⟨d,dr,ρ1,rfl,e1,e2⟩:=zof h
  rw [h2.keep _ _ _ _ e2 hi,h1.keep _ _ _ _ e1 hi]
 ·obtain ⟨d,dr,ρ1,rfl,e1,e2⟩:=zof h
  rw [List.length_cons,List.length_cons,h2.many _ _ _ e2]
noncomputable def tpD : D -> Option (List D)
 | .tup xs=>some xs
 | .kt xs=>some xs
 | _=>none
theorem ztm {G : Gc} {H : Hp} {d : D} {v : V} {ds : List D} (e : tpD d = some ds) (r : Rep G H d v) : ∃ a vs,v = .ref a /\ SqT G.K H a vs /\ zas G H ds vs:=by
 cases d with
 | tup xs=>cases e; obtain ⟨a,vs,e1,q,r⟩:=r; exact ⟨a,vs,e1,SqT.of q,r⟩
 | kt xs=>cases e; obtain ⟨a,vs,e1,q,r⟩:=r; exact ⟨a,vs,e1,q,r⟩
 | _=>cases e
noncomputable def zb8 (g : List D -> List Sl -> Option (List Sl)) (d : D) (ρ : List Sl) : Option (List Sl):=(tpD d).bind fun ds=>g ds ρ
theorem zrn {g : List D -> List Sl -> Option (List Sl)} {d : D} {ρ ρ' : List Sl} (h : zb8 g d ρ = some ρ') : ∃ ds,tpD d = some ds /\ g ds ρ = some ρ':=by
 unfold zb8 at h
 cases e : tpD d with
 | none=>rw [e] at h; cases h
 | some ds=>rw [e] at h; exact ⟨ds,rfl,h⟩
theorem zck {k : Nat} {g : List D -> List Sl -> Option (List Sl)} {kk : Nat} (hc : X.calm = true) (h : DGs c X es k g) (hn : (assignEach es X.env).length = es.length:=by rfl) (hst : (assignEach es X.env).findIdx? (·.1) = none:=by rfl) : DG c X (.Tuple es kk pos) k (zb8 g):=by
 refine ⟨PG.imp (zzv hc h.pg hn hst) fun v σ H Q ⟨Hf0,H0,Hf,ρ,d,ρ',st,r,eg,q⟩=>?_,fun d ρ ρ' h'=>?_,fun d ρ ρ' i h' hi=>?_⟩
 ·obtain ⟨ds,e1,e2⟩:=zrn eg
  obtain ⟨a,vs,ea,qa,ra⟩:=ztm e1 r
  exact ⟨a,vs,ea,st.sub.tup qa,by rw [<- ra.length]; exact h.many _ _ _ e2,Hf0,H0,Hf,ρ,ds,ρ',st,ra,e2,q⟩
 ·obtain ⟨ds,e1,e2⟩:=zrn h'
  exact h.len _ _ _ e2
 ·obtain ⟨ds,e1,e2⟩:=zrn h'
  exact h.keep _ _ _ _ e2 hi
end
noncomputable def zmh (G : Gc) (Hf : Hp) (J : It) (ds : List D) : Prop:=∀ Hf' H',za5 Hf Hf' -> za5 Hf' H' -> ∀ i : Nat,
 (∀ d,ds[i]? = some d -> J.go i H' /\ ∀ x H2,J.yld i H' x H2 -> ∃ Hf2,Ext Hf' H' Hf2 H2 /\ Rep G Hf2 d x) /\ (i = ds.length -> J.stop i H')
noncomputable def zqn (G : Gc) (Hf H : Hp) (J : It) (ds : List D) : Prop:=∀ Hf' H',Ext Hf H Hf' H' -> ∀ i : Nat,
 (∀ d,ds[i]? = some d -> J.go i H' /\ ∀ x H2,J.yld i H' x H2 -> ∃ Hf2,Ext Hf' H' Hf2 H2 /\ Rep G Hf2 d x) /\ (i = ds.length -> J.stop i H')
theorem zmh.toE {G : Gc} {Hf H : Hp} {J : It} {ds : List D} (h : zmh G Hf J ds) : zqn G Hf H J ds:=fun Hf' H' x i=>h Hf' H' x.f x.s i
noncomputable def tDI (G : Gc) (f : List Sl -> Option (List D)) : TI:=fun σ H R=>∃ Hf0 H0 Hf ρ ds,za0 G Hf0 H0 Hf H σ ρ /\ f ρ = some ds /\ ∀ J Hf' H',Ext Hf H Hf' H' -> zmh G Hf' J ds -> R J H'
noncomputable def zvq (G : Gc) (f : List Sl -> Option (List D)) : TI:=fun σ H R=>∃ Hf0 H0 Hf ρ ds,za0 G Hf0 H0 Hf H σ ρ /\ f ρ = some ds /\ ∀ J Hf' H',Ext Hf H Hf' H' -> zqn G Hf' H' J ds -> R J H'
noncomputable def DI (c : Str -> Addr) (X : Cx) (tg iter : Expr) (f : List Sl -> Option (List D)) : Prop:=PI X tg iter (tDI (Gx c X) f)
noncomputable def DIe (c : Str -> Addr) (X : Cx) (tg iter : Expr) (f : List Sl -> Option (List D)) : Prop:=PI X tg iter (zvq (Gx c X) f)
section
variable {c : Str -> Addr} {X : Cx} {tg e a b : Expr} {es : List Expr} {pos p : Pos}
theorem DI.de {f : List Sl -> Option (List D)} (h : DI c X tg e f) : DIe c X tg e f:=PI.imp h fun σ H R q_=>by
 obtain ⟨Hf0,H0,Hf,ρ,ds,st,ef,k⟩:=q_
 exact (⟨Hf0,H0,Hf,ρ,ds,st,ef,fun J Hf' H' x i=>k J Hf' H' x i.toE⟩)
theorem zyl {G : Gc} {Hf H : Hp} {ds : List D} {l : Addr} {vs : List V} (q : SqL G.K H l vs) (r : zas G Hf ds vs) : zqn G Hf H (Itl G.K l) ds:=fun Hf' H' xx i=>by
 have q' : SqL G.K H' l vs:=xx.h.seq q
 refine ⟨fun d ed=>?_,fun ei=>⟨vs,q',by rw [<- r.length,ei]; exact Nat.le_refl _⟩⟩
 obtain ⟨v,ev,rv⟩:=r.get ed
 refine ⟨⟨vs,v,q',ev⟩,fun x H2 ⟨e2,y⟩=>?_⟩
 subst e2
 have:=y vs q'
 rw [ev] at this
 cases this
 exact ⟨Hf',Ext.refl xx.s,rv.up xx.f⟩
theorem zyz {G : Gc} {Hf : Hp} {ds : List D} {l : Addr} {vs : List V} (q : SqT G.K Hf l vs) (r : zas G Hf ds vs) : zmh G Hf (Itt G.K l) ds:=fun Hf' H' f s i=>by
 have q' : SqT G.K H' l vs:=(f.trans s).tup q
 refine ⟨fun d ed=>?_,fun ei=>⟨vs,q',by rw [<- r.length,ei]; exact Nat.le_refl _⟩⟩
 obtain ⟨v,ev,rv⟩:=r.get ed
 refine ⟨⟨vs,v,q',ev⟩,fun x H2 ⟨e2,y⟩=>?_⟩
 subst e2
 have:=y vs q'
 rw [ev] at this
 cases this
 exact ⟨Hf',Ext.refl s,rv.up f⟩
theorem zb2 {f : List Sl -> Option D} (h : DE c X e f) : DI c X tg e (zbl f):=fun pins s σ H R I q_=>by
 obtain ⟨Hf0,H0,Hf,ρ,ds,st,ef,k⟩:=q_
 unfold zbl at ef
 cases e1 : f ρ with
 | none=>rw [e1] at ef; cases ef
 | some d =>
  rw [e1] at ef
  replace ef : zha d = some ds:=ef
  have un : ∀ {l : Addr} {H' : Hp} {us vs : List V},SqL X.K H' l us -> SqL X.K H' l vs -> us = vs \/ True:=fun _ _=>.inr trivial
  cases e2 : lsD d with
  | some ds' =>
   have : ds' = ds:=by cases d <;> first | (cases e2; done) | (cases e2; cases ef; rfl)
   subst this
   refine zth h pins s σ H R I ⟨Hf0,H0,Hf,ρ,d,st,e1,fun v Hf' H' x r=>?_⟩
   obtain ⟨a,vs,ea,q,rs⟩:=zgt e2 r
   exact ⟨a,ea,⟨vs,x.s.seq q⟩,k _ Hf' H' x fun Hf2 H2 f2 s2 i=>by
    have q' : SqL X.K H2 a vs:=(f2.trans s2).seq q
    refine ⟨fun d ed=>?_,fun ei=>⟨vs,q',by rw [<- rs.length,ei]; exact Nat.le_refl _⟩⟩
    obtain ⟨v,ev,rv⟩:=rs.get ed
    refine ⟨⟨vs,v,q',ev⟩,fun x H3 ⟨e3,y⟩=>?_⟩
    subst e3
    have:=y vs q'
    rw [ev] at this
    cases this
    exact ⟨Hf2,Ext.refl s2,rv.up f2⟩⟩
  | none =>
   have e3 : tpD d = some ds:=by cases d <;> first | (cases e2; done) | (cases ef; done) | (cases ef; rfl)
   refine zyc h pins s σ H R I ⟨Hf0,H0,Hf,ρ,d,st,e1,fun v Hf' H' x r=>?_⟩
   obtain ⟨a,vs,ea,q,rs⟩:=ztm e3 r
   exact ⟨a,ea,⟨vs,x.s.tup q⟩,k _ Hf' H' x (zyz q rs)⟩
noncomputable def rng (lo : Int) (n : Nat) : List D:=(List.range n).map fun (i : Nat)=>.int (lo + i)
theorem z1f {G : Gc} {Hf : Hp} {lo : Int} {n : Nat} : zmh G Hf (Itr lo n) (rng lo n):=fun Hf' H' f s i=>by
 refine ⟨fun d ed=>?_,fun ei=>?_⟩
 ·unfold rng at ed
  rw [List.getElem?_map] at ed
  cases e : (List.range n)[i]? with
  | none=>rw [e] at ed; cases ed
  | some j =>
   rw [e] at ed
   obtain ⟨hi,ej⟩:=List.getElem?_eq_some_iff.mp e
   rw [List.length_range] at hi
   rw [List.getElem_range] at ej
   subst ej
   cases ed
   exact ⟨hi,fun x H2 ⟨e2,y⟩=>by subst e2; exact ⟨Hf',Ext.refl s,y⟩⟩
 ·unfold rng at ei
  rw [List.length_map,List.length_range] at ei
  exact Nat.le_of_eq ei.symm
noncomputable def zoy : List D -> Option (List D)
 | [.int j]=>if -(2 ^ 62) <= j /\ j < 2 ^ 62 then some (rng 0 j.toNat) else none
 | [.int i,.int j]=>if -(2 ^ 62) <= i /\ i < 2 ^ 62 /\ -(2 ^ 62) <= j /\ j < 2 ^ 62 then some (rng i (j - i).toNat) else none
 | _=>none
noncomputable def zdm (f : List Sl -> Option (List D)) (ρ : List Sl) : Option (List D):=(f ρ).bind zoy
theorem zev {f : List Sl -> Option (List D)} (hg : Gl X "range") (hm : X.mg "range" = none) (ha : DA c X [a] f) (hs : starEach [a] X.env = [(false,eval a X.env)]:=by rfl) : DI c X tg (.Call (.Name "range" p) [a] [] pos) (zdm f) :=
 PI.imp (z6g hg hm ha.pa hs) fun σ H R q_=>by
  obtain ⟨Hf0,H0,Hf,ρ,ds,st,ef,k⟩:=q_
  unfold zdm at ef
  cases e1 : f ρ with
  | none=>rw [e1] at ef; cases ef
  | some as =>
   rw [e1] at ef
   replace ef : zoy as = some ds:=ef
   have hl:=ha.len ρ as e1
   refine ⟨Hf0,H0,Hf,ρ,as,st,e1,fun vs Hf' H' x r=>?_⟩
   unfold zoy at ef
   split at ef
   ·split at ef
    ·rename_i j hj
     cases ef
     obtain ⟨v,ev,rv⟩:=r.one
     cases (show v = V.int j from rv)
     exact ⟨j,ev,hj.1,hj.2,k _ Hf' H' x z1f⟩
    ·cases ef
   ·cases hl
   ·cases ef
end
noncomputable def zdi (k : Nat) (js : List Nat) (ρ : List Sl) : List Sl:=List.replicate k .no ++ js.map fun j=>(ρ[j]?).getD .no
section
variable {G : Gc} {Hf0 H0 Hf H : Hp} {σ : St} {ρ : List Sl}
theorem za0.weak {ρ' : List Sl} (h : za0 G Hf0 H0 Hf H σ ρ) (hl : ρ'.length = ρ.length) (hw : ∀ (i : Nat) (s : Sl),ρ'[i]? = some s -> s = .no \/ ρ[i]? = some s) : za0 G Hf0 H0 Hf H σ ρ':=by
 refine ⟨h.ext,h.len.trans hl.symm,fun i v s a b=>?_,fun i j s t l a b hs ht c d=>?_⟩
 ·rcases hw i s b with e | e
  ·subst e; trivial
  ·exact h.at' i v s a e
 ·rcases hw i s a with e | e
  ·subst e; cases hs
  ·rcases hw j t b with e' | e'
   ·subst e'; cases ht
   ·exact h.inj i j s t l e e' hs ht c d
theorem zoe {α : Type} {k : Nat} {x : α} {l : List α} {i : Nat} {y : α} (h : (List.replicate k x ++ l)[i]? = some y) : (i < k /\ y = x) \/ (k <= i /\ l[i - k]? = some y):=by
 by_cases hi : i < k
 ·left
  rw [List.getElem?_append_left (by simpa using hi),List.getElem?_replicate,if_pos hi] at h
  exact ⟨hi,(Option.some.inj h).symm⟩
 ·right
  rw [List.getElem?_append_right (by simpa using Nat.le_of_not_lt hi),List.length_replicate] at h
  exact ⟨Nat.le_of_not_lt hi,h⟩
theorem zif {α β : Type} {f : α -> β} {l : List α} {i : Nat} {y : β} (h : (l.map f)[i]? = some y) : ∃ x,l[i]? = some x /\ y = f x:=by
 rw [List.getElem?_map] at h
 cases e : l[i]? with
 | none=>rw [e] at h; cases h
 | some x=>rw [e] at h; exact ⟨x,rfl,(Option.some.inj h).symm⟩
theorem z2t {js : List Nat} (h : js.Nodup) {i j x : Nat} (a : js[i]? = some x) (b : js[j]? = some x) : i = j:=by
 obtain ⟨h1,e1⟩:=List.getElem?_eq_some_iff.mp a
 obtain ⟨h2,e2⟩:=List.getElem?_eq_some_iff.mp b
 exact (List.getElem_inj h).mp (e1.trans e2.symm)
theorem za0.comp (k : Nat) {js : List Nat} (h : za0 G Hf0 H0 Hf H σ ρ) (hj : js.Nodup) : za0 G Hf0 H0 Hf H (zga k js σ) (zdi k js ρ):=by
 have own : ∀ (i : Nat) (s : Sl),(zdi k js ρ)[i]? = some s -> s.isOwn = true -> ∃ j,k <= i /\ js[i - k]? = some j /\ ρ[j]? = some s:=fun i s a hs=>by
  rcases zoe a with ⟨_,e⟩ | ⟨hi,a⟩
  ·subst e; cases hs
  ·obtain ⟨j,ej,es⟩:=zif a
   cases e : ρ[j]? with
   | none=>rw [e] at es; subst es; cases hs
   | some t=>rw [e] at es; replace es : s = t:=es; subst es; exact ⟨j,hi,ej,e⟩
 have val : ∀ (i : Nat) (v : Option V) (j : Nat),(zga k js σ)[i]? = some v -> k <= i -> js[i - k]? = some j -> v = (σ[j]?).getD none:=fun i v j a hi ej=>by
  rcases zoe a with ⟨hi',_⟩ | ⟨_,a⟩
  ·omega
  ·obtain ⟨j',ej',es⟩:=zif a
   rw [ej] at ej'; cases ej'
   exact es
 refine ⟨h.ext,by simp [zga,zdi],fun i v s a b=>?_,fun i j s t l a b hs ht c d=>?_⟩
 ·rcases zoe b with ⟨_,e⟩ | ⟨hi,b⟩
  ·subst e; trivial
  ·obtain ⟨j,ej,es⟩:=zif b
   have ev:=val i v j a hi ej
   cases e : ρ[j]? with
   | none=>rw [e] at es; subst es; trivial
   | some t =>
    rw [e] at es
    replace es : s = t:=es
    subst es
    obtain ⟨u,eu,q⟩:=h.slot e
    rw [eu] at ev
    replace ev : v = u:=ev
    subst ev
    exact q
 ·obtain ⟨i',hi,ei,e1⟩:=own i s a hs
  obtain ⟨j',hj',ej,e2⟩:=own j t b ht
  have v1:=val i _ i' c hi ei
  have v2:=val j _ j' d hj' ej
  obtain ⟨u1,eu1,_⟩:=h.slot e1
  obtain ⟨u2,eu2,_⟩:=h.slot e2
  rw [eu1] at v1
  rw [eu2] at v2
  replace v1 : some (V.ref l) = u1:=v1
  replace v2 : some (V.ref l) = u2:=v2
  subst v1 v2
  have:=h.inj i' j' s t l e1 e2 hs ht eu1 eu2
  subst this
  have:=z2t hj ei ej
  omega
end
noncomputable def zeu (h : D -> Option (Option D)) : List D -> Option (List D)
 | []=>some []
 | d :: ds=>(h d).bind fun o=>(zeu h ds).map fun r=>match o with
  | some y=>y :: r
  | none=>r
theorem z70 {h : D -> Option (Option D)} {d : D} {ds r : List D} (e : zeu h (d :: ds) = some r) : ∃ o r',h d = some o /\ zeu h ds = some r' /\ r = (match o with | some y=>y :: r' | none=>r'):=by
 unfold zeu at e
 cases e1 : h d with
 | none=>rw [e1] at e; cases e
 | some o =>
  cases e2 : zeu h ds with
  | none=>rw [e1,e2] at e; cases e
  | some r' =>
   rw [e1,e2] at e
   cases e
   refine ⟨o,r',rfl,rfl,?_⟩
   cases o <;> rfl
noncomputable def zfc (g : D -> List Sl -> Option (List Sl)) (ft : List Sl -> Option Bool) (fe : List Sl -> Option D) (ρ : List Sl) (d : D) : Option (Option D):=(g d ρ).bind fun ρ1=>(ft ρ1).bind fun b=>if b then (fe ρ1).map some else some none
noncomputable def za7 (k : Nat) (js : List Nat) (fi : List Sl -> Option (List D)) (g : D -> List Sl -> Option (List Sl)) (ft : List Sl -> Option Bool) (fe : List Sl -> Option D) (ρ : List Sl) : Option (List D) :=
 (fi ρ).bind fun ds=>if ds.length <= 16777216 then zeu (zfc g ft fe (zdi k js ρ)) ds else none
theorem zug {α : Type} {l : List α} {i : Nat} (h : i < l.length) : ∃ x,l[i]? = some x /\ l.drop i = x :: l.drop (i + 1):=⟨l[i],by simp [h],(List.drop_eq_getElem_cons h)⟩
noncomputable def DTs (c : Str -> Addr) (X : Cx) (ifs : List Expr) (f : List Sl -> Option Bool) : Prop:=PTs X ifs (tDT (Gx c X) f)
section
variable {c : Str -> Addr} {X : Cx} {elt tg iter e : Expr} {ifs : List Expr} {scope : Scope} {pos : Pos} {Nc : List Str} {k : Nat} {js : List Nat}
 {fi : List Sl -> Option (List D)} {g : D -> List Sl -> Option (List Sl)} {ft : List Sl -> Option Bool} {fe : List Sl -> Option D}
theorem zcl : DTs c X [] (fun _=>some true):=PTs.imp z29 fun σ H Q q_=>by
 obtain ⟨Hf0,H0,Hf,ρ,b,st,ef,k⟩:=q_
 exact (by cases ef; exact k Hf H (Ext.refl st.sub))
theorem zdw {f : List Sl -> Option Bool} (h : DT c X e f) : DTs c X [e] f:=z2o h
theorem zrv {G : Gc} (hj : js.Nodup) (hk : ∀ d ρ ρ' i,g d ρ = some ρ' -> k <= i -> ρ'[i]? = ρ[i]?) (hlen : ∀ d ρ ρ',g d ρ = some ρ' -> ρ'.length = ρ.length) {σ : St} {H : Hp} {Q : VK} (h : tDO G (za7 k js fi g ft fe) σ H Q) :
  zqr k js (zvq G fi) (tDG G g) (tDT G ft) (tD G fe) σ H Q:=by
 obtain ⟨Hf0,H0,Hf,ρ,rs,st,ef,kq⟩:=h
 unfold za7 at ef
 cases e1 : fi ρ with
 | none=>rw [e1] at ef; cases ef
 | some ds =>
  rw [e1] at ef
  replace ef : (if ds.length <= 16777216 then zeu (zfc g ft fe (zdi k js ρ)) ds else none) = some rs:=ef
  by_cases hz : ds.length <= 16777216
  ·rw [if_pos hz] at ef
   refine ⟨Hf0,H0,Hf,ρ,ds,st,e1,fun J Hf1 H1 x1 it=>?_⟩
   refine ⟨fun i m ys σ' H'=>m = ds.length - i /\ i <= ds.length /\ ∃ Hf' as zco,Ext Hf1 H1 Hf' H' /\ za0 G Hf0 H0 Hf' H' σ' (zdi k js ρ) /\ zas G Hf' as ys /\ zeu (zfc g ft fe (zdi k js ρ)) (ds.drop i) = some zco /\ rs = as ++ zco /\ as.length <= i,
    ⟨ds.length,rfl,Nat.zero_le _,Hf1,[],rs,Ext.refl x1.s,(st.step x1).comp k hj,rfl,ef,rfl,Nat.le_refl _⟩,?_⟩
   rintro i m ys σ' H' ⟨rfl,hi,Hf',as,zco,x2,st2,ra,ec,er,hal⟩
   have hys : ys.length <= sizeLine:=by rw [sizeLine_eq,<- ra.length]; omega
   obtain ⟨it1,it2⟩:=it Hf' H' x2 i
   by_cases hlt : i < ds.length
   ·obtain ⟨d,ed,edr⟩:=zug hlt
    obtain ⟨go,yl⟩:=it1 d ed
    refine .inr ⟨go,hys,fun ys' σ2 H2=>ds.length - (i + 1) = ds.length - (i + 1) /\ i + 1 <= ds.length /\ ∃ Hf' as zco,Ext Hf1 H1 Hf' H2 /\ za0 G Hf0 H0 Hf' H2 σ2 (zdi k js ρ) /\ zas G Hf' as ys' /\ zeu (zfc g ft fe (zdi k js ρ)) (ds.drop (i + 1)) = some zco /\ rs = as ++ zco /\ as.length <= i + 1,
     fun ys' σ2 H2 w=>⟨ds.length - (i + 1),by omega,w⟩,fun x H2 y=>?_⟩
    obtain ⟨Hf2,x3,rx⟩:=yl x H2 y
    rw [edr] at ec
    obtain ⟨o,r',eo,ec',erest⟩:=z70 ec
    unfold zfc at eo
    cases eg : g d (zdi k js ρ) with
    | none=>rw [eg] at eo; cases eo
    | some ρ1 =>
     rw [eg] at eo
     replace eo : (ft ρ1).bind _ = _:=eo
     cases et : ft ρ1 with
     | none=>rw [et] at eo; cases eo
     | some b =>
      rw [et] at eo
      replace eo : (if b = true then (fe ρ1).map some else some none) = some o:=eo
      refine ⟨Hf0,H0,Hf2,zdi k js ρ,d,ρ1,st2.step x3,rx,eg,fun σ3 st3=>⟨Hf0,H0,Hf2,ρ1,b,st3,et,fun Hf4 H4 x4=>?_⟩⟩
      have back : ∀ {Hf5 H5 : Hp},za0 G Hf0 H0 Hf5 H5 σ3 ρ1 -> za0 G Hf0 H0 Hf5 H5 σ3 (zdi k js ρ):=fun {Hf5 H5} s5=>s5.weak (hlen _ _ _ eg).symm fun j s hs=>by
       rcases zoe hs with ⟨_,e⟩ | ⟨hj',_⟩
       ·exact .inl e
       ·exact .inr (by rw [hk _ _ _ _ eg hj']; exact hs)
      cases b with
      | true =>
       rw [if_pos rfl] at eo
       refine zuk ?_
       cases ee : fe ρ1 with
       | none=>rw [ee] at eo; cases eo
       | some y' =>
        rw [ee] at eo
        cases eo
        refine ⟨Hf0,H0,Hf4,ρ1,y',st3.step x4,ee,fun v Hf5 H5 x5 r5=>?_⟩
        have x:=(x3.trans x4).trans x5
        refine ⟨rfl,hlt,Hf5,as ++ [y'],r',x2.trans x,back ((st3.step x4).step x5),(ra.up x.f).append (.cons r5 .nil),ec',?_,by rw [List.length_append,List.length_singleton]; omega⟩
        rw [er,erest,List.append_assoc]
        rfl
      | false =>
       rw [if_neg Bool.false_ne_true] at eo
       refine zse ?_
       cases eo
       have x:=x3.trans x4
       exact ⟨rfl,hlt,Hf4,as,r',x2.trans x,back (st3.step x4),ra.up x.f,ec',by rw [er,erest],by omega⟩
   ·have ei : i = ds.length:=by omega
    subst ei
    refine .inl ⟨it2 rfl,hys,fun l h1 h2=>?_⟩
    rw [List.drop_eq_nil_of_le (Nat.le_refl _)] at ec
    cases ec
    rw [List.append_nil] at er
    subst er
    have x:=x1.trans x2
    exact kq l ys Hf' (upd H' l (.lst ys)) (x.trans (Ext.tmp x.s h2)) (x.h.free h2) (x.s.free h2) zcg ra
  ·rw [if_neg hz] at ef
   cases ef
theorem zca (k : Nat) (js : List Nat) (Nc : List Str) (hc : X.calm = true) (hi : DIe c X tg iter fi) (hg : ∀ cl C ex s₂ H₂,DG c (X.comp scope Nc cl C ex s₂ H₂) tg k g) (ht : ∀ cl C ex s₂ H₂,DTs c (X.comp scope Nc cl C ex s₂ H₂) ifs ft)
  (he : ∀ cl C ex s₂ H₂,DE c (X.comp scope Nc cl C ex s₂ H₂) elt fe) (ck : zil scope X.env.scope.names X.N Nc k js = true:=by rfl) (hs : ∀ x,foldedSetIterable iter X.env x = pure x:=by intro _; rfl) (hj : js.Nodup:=by decide) :
  DO c X (.ListComp elt [⟨tg,iter,ifs,0⟩] scope pos) (za7 k js fi g ft fe) :=
 PE.imp (zxx (g:=tDG (Gx c X) g) (tt:=tDT (Gx c X) ft) (te:=tD (Gx c X) fe) k js Nc hc hi (fun cl C ex s₂ H₂=>(hg cl C ex s₂ H₂).pg) ht he ck hs) fun σ H Q h =>
  zrv hj (hg [] 0 [] X.s₀ X.H₀).keep (hg [] 0 [] X.s₀ X.H₀).len h
end
section
variable {c : Str -> Addr} {X : Cx} {tg : Expr} {scope : Scope} {Nc : List Str} {cl : List (Str × Addr)} {C : Addr} {ex : List Addr} {s₂ : Shared} {H₂ : Hp}
theorem dvc (i : Nat) {x : Str} {pos : Pos} (hN : Nc[i]? = some x:=by rfl) (hv : Vis scope x:=by first | exact Or.inl rfl | exact Or.inr (Or.inl rfl) | exact Or.inr (Or.inr rfl)) (hd : (x == ("__debug__" : Str)) = false:=by decide)
  (hcd : (x == ("__classdict__" : Str)) = false:=by decide) : DE c (X.comp scope Nc cl C ex s₂ H₂) (.Name x pos) (zaa i):=zv1 (pvc i hN hv hd hcd)
theorem z6o (i : Nat) {x : Str} {pos : Pos} (hN : Nc[i]? = some x:=by rfl) (hv : Vis scope x:=by first | exact Or.inl rfl | exact Or.inr (Or.inl rfl) | exact Or.inr (Or.inr rfl)) (hd : (x == ("__debug__" : Str)) = false:=by decide)
  (hcd : (x == ("__classdict__" : Str)) = false:=by decide) : DB c (X.comp scope Nc cl C ex s₂ H₂) (.Name x pos) (zg9 i):=zs6 (pvc i hN hv hd hcd)
theorem zc8 (i : Nat) {x : Str} {pos : Pos} (hN : Nc[i]? = some x:=by rfl) (hv : Vis scope x:=by first | exact Or.inl rfl | exact Or.inr (Or.inl rfl) | exact Or.inr (Or.inr rfl)) (hd : (x == ("__debug__" : Str)) = false:=by decide)
  (hcd : (x == ("__classdict__" : Str)) = false:=by decide) : DC c (X.comp scope Nc cl C ex s₂ H₂) (.Name x pos) (zaf i):=zvn (pvc i hN hv hd hcd)
theorem dgc (i k : Nat) {x : Str} {pos : Pos} (hk : i < k:=by decide) (hN : Nc.Nodup:=by decide +kernel) (hi : Nc[i]? = some x:=by rfl) (hl : scope.names.lookup x = some .local:=by rfl) : DG c (X.comp scope Nc cl C ex s₂ H₂) (.Name x pos) k (zaq i) :=
 zr4 (pgc i hN hi hl) hk
end
inductive Fl where
 | nx (ρ : List Sl)
 | bk (ρ : List Sl)
 | ct (ρ : List Sl)
 | rt (d : D)
 | rtO (ds : List D)
 | rtS (d : D) (ρ : List Sl)
noncomputable def zmm (G : Gc) (Hf0 H0 Hf : Hp) (E : zhz) : Fl -> Prop
 | .nx ρ'=>∀ σ' Hf' H',za5 Hf Hf' -> za0 G Hf0 H0 Hf' H' σ' ρ' -> E.nx σ' H'
 | .bk ρ'=>∀ σ' Hf' H',za5 Hf Hf' -> za0 G Hf0 H0 Hf' H' σ' ρ' -> E.bk σ' H'
 | .ct ρ'=>∀ σ' Hf' H',za5 Hf Hf' -> za0 G Hf0 H0 Hf' H' σ' ρ' -> E.ct σ' H'
 | .rt d=>∀ v Hf' H',Ext Hf0 H0 Hf' H' -> Rep G Hf' d v -> E.rt v H'
 | .rtO ds=>∀ l vs Hf' H',Ext Hf0 H0 Hf' H' -> H0 l = none -> Hf' l = none -> H' l = some (.lst vs) -> zas G Hf' ds vs -> E.rt (.ref l) H'
 | .rtS d ρ=>∀ v σ' Hf' H',za0 G Hf0 H0 Hf' H' σ' ρ -> Rep G Hf' d v -> E.rt v H'
noncomputable def tDS (G : Gc) (F : List Sl -> Option Fl) : TS:=fun E σ H=>∃ Hf0 H0 Hf ρ o,za0 G Hf0 H0 Hf H σ ρ /\ F ρ = some o /\ zmm G Hf0 H0 Hf E o
noncomputable def DS (c : Str -> Addr) (X : Cx) (st : Stmt) (F : List Sl -> Option Fl) : Prop:=PS X st (tDS (Gx c X) F)
noncomputable def DSs (c : Str -> Addr) (X : Cx) (st : List Stmt) (F : List Sl -> Option Fl) : Prop:=PSs X st (tDS (Gx c X) F)
noncomputable def zbf (ρ : List Sl) : Option Fl:=some (.nx ρ)
noncomputable def zai (F F' : List Sl -> Option Fl) (ρ : List Sl) : Option Fl:=(F ρ).bind fun o=>match o with
 | .nx ρ'=>F' ρ'
 | o=>some o
noncomputable def za4 (t : List Sl -> Option Bool) (F F' : List Sl -> Option Fl) (ρ : List Sl) : Option Fl:=(t ρ).bind fun b=>if b then F ρ else F' ρ
noncomputable def zbd (i : Nat) (f : List Sl -> Option D) (ρ : List Sl) : Option Fl:=(f ρ).map fun d=>.nx (ρ.set i (.im d))
noncomputable def zdb (i : Nat) (f : List Sl -> Option (List D)) (ρ : List Sl) : Option Fl:=(f ρ).map fun d=>.nx (ρ.set i (.own d))
noncomputable def zav (f : List Sl -> Option D) (ρ : List Sl) : Option Fl:=(f ρ).map .rt
noncomputable def zgq (f : List Sl -> Option (List D)) (ρ : List Sl) : Option Fl:=(f ρ).map .rtO
noncomputable def zet (i : Nat) (ρ : List Sl) : Option Fl:=match ρ[i]? with
 | some (.im d)=>some (.rt d)
 | some (.own xs)=>some (.rtO xs)
 | _=>none
noncomputable def zfk (g : D -> List Sl -> Option (List Sl)) (F : List Sl -> Option Fl) : List D -> List Sl -> Option Fl
 | [],ρ=>some (.nx ρ)
 | d :: ds,ρ=>(g d ρ).bind fun ρ1=>(F ρ1).bind fun o=>match o with
  | .nx ρ2=>zfk g F ds ρ2
  | .ct ρ2=>zfk g F ds ρ2
  | .bk ρ2=>some (.nx ρ2)
  | .rt d=>some (.rt d)
  | .rtO d=>some (.rtO d)
  | .rtS d ρ2=>some (.rtS d ρ2)
noncomputable def zc5 (fi : List Sl -> Option (List D)) (g : D -> List Sl -> Option (List Sl)) (F : List Sl -> Option Fl) (ρ : List Sl) : Option Fl:=(fi ρ).bind fun ds=>zfk g F ds ρ
noncomputable def zge (t : List Sl -> Option Bool) (F : List Sl -> Option Fl) : Nat -> List Sl -> Option Fl
 | 0,_=>none
 | n + 1,ρ=>(t ρ).bind fun b=>if b then (F ρ).bind fun o=>match o with
   | .nx ρ2=>zge t F n ρ2
   | .ct ρ2=>zge t F n ρ2
   | .bk ρ2=>some (.nx ρ2)
   | .rt d=>some (.rt d)
   | .rtO d=>some (.rtO d)
   | .rtS d ρ2=>some (.rtS d ρ2)
  else some (.nx ρ)
noncomputable def znu (i : Nat) (ρ : List Sl) : List Sl:=match ρ[i]? with
 | some (.own xs)=>ρ.set i (.im (.lst xs))
 | some (.ownd ks xs)=>ρ.set i (.im (.dic ks xs))
 | some (.obj c ns xs)=>ρ.set i (.im (.ins c ns xs))
 | _=>ρ
noncomputable def ze5 (i : Nat) (F : List Sl -> Option Fl) (ρ : List Sl) : Option Fl:=F (znu i ρ)
noncomputable def ze9 (i : Nat) (f : List Sl -> Option D) (ρ : List Sl) : Option Fl:=(f ρ).bind fun d=>match ρ[i]? with
 | some (.own xs)=>if xs.length < 16777216 then some (.nx (ρ.set i (.own (xs ++ [d])))) else none
 | _=>none
noncomputable def zh1 (f : List Sl -> Option D) (ρ : List Sl) : Option (List D):=(f ρ).bind fun d=>match d with
 | .lst xs=>some xs
 | _=>none
noncomputable def zit (i : Nat) (f : List Sl -> Option (List D)) (ρ : List Sl) : Option Fl:=(f ρ).bind fun ds=>match ρ[i]? with
 | some (.own xs)=>if xs.length + ds.length <= 16777216 then some (.nx (ρ.set i (.own (xs ++ ds)))) else none
 | _=>none
section
variable {c : Str -> Addr} {X : Cx} {st : Stmt} {sts a b : List Stmt} {e cd tg iter : Expr} {pos : Pos} {F F' : List Sl -> Option Fl}
theorem zbj : DSs c X [] zbf:=PSs.imp zsd fun E σ H q_=>by
 obtain ⟨Hf0,H0,Hf,ρ,o,so,ef,k⟩:=q_
 exact (by cases ef; exact k σ Hf H (za5.refl _) so)
theorem zmm.up {G : Gc} {Hf0 H0 Hf Hf' : Hp} {E : zhz} {o : Fl} (h : zmm G Hf0 H0 Hf E o) (s : za5 Hf Hf') : zmm G Hf0 H0 Hf' E o:=by
 cases o with
 | nx ρ=>exact fun σ' Hf2 H2 s2 q=>h σ' Hf2 H2 (s.trans s2) q
 | bk ρ=>exact fun σ' Hf2 H2 s2 q=>h σ' Hf2 H2 (s.trans s2) q
 | ct ρ=>exact fun σ' Hf2 H2 s2 q=>h σ' Hf2 H2 (s.trans s2) q
 | rt d=>exact h
 | rtO d=>exact h
 | rtS d ρ=>exact h
theorem zaj (h1 : DS c X st F) (h2 : DSs c X sts F') : DSs c X (st :: sts) (zai F F'):=PSs.imp (ztq h1 h2) fun E σ H q_=>by
 obtain ⟨Hf0,H0,Hf,ρ,o,so,ef,k⟩:=q_
 unfold zai at ef
 cases e1 : F ρ with
 | none=>rw [e1] at ef; cases ef
 | some o1 =>
  rw [e1] at ef
  refine ⟨Hf0,H0,Hf,ρ,o1,so,e1,?_⟩
  cases o1 with
  | nx ρ1=>exact fun σ1 Hf1 H1 s1 so1=>⟨Hf0,H0,Hf1,ρ1,o,so1,ef,k.up s1⟩
  | bk ρ1=>cases ef; exact k
  | ct ρ1=>cases ef; exact k
  | rt d=>cases ef; exact k
  | rtO d=>cases ef; exact k
  | rtS d ρ1=>cases ef; exact k
theorem zan (h1 : DS c X st F) : DSs c X [st] F:=zw8 h1
theorem zbg {t : List Sl -> Option Bool} (hc : DT c X cd t) (ha : DSs c X a F) (hb : DSs c X b F') : DS c X (.If cd a b pos) (za4 t F F'):=PS.imp (zzo hc ha hb) fun E σ H q_=>by
 obtain ⟨Hf0,H0,Hf,ρ,o,so,ef,k⟩:=q_
 unfold za4 at ef
 cases e1 : t ρ with
 | none=>rw [e1] at ef; cases ef
 | some x =>
  rw [e1] at ef
  refine ⟨Hf0,H0,Hf,ρ,x,so,e1,fun Hf1 H1 x1=>?_⟩
  cases x with
  | true=>rw [if_pos rfl]; exact ⟨Hf0,H0,Hf1,ρ,o,so.step x1,ef,k.up x1.f⟩
  | false=>rw [if_neg Bool.false_ne_true]; exact ⟨Hf0,H0,Hf1,ρ,o,so.step x1,ef,k.up x1.f⟩
theorem zs2 {te : TE} {i : Nat} {f : List Sl -> Option D} (hp : PS X st (zig te (zhi i))) (hi : ∀ σ H Q,tD (Gx c X) f σ H Q -> te σ H Q) : DS c X st (zbd i f):=PS.imp hp fun E σ H q_=>by
 obtain ⟨Hf0,H0,Hf,ρ,o,so,ef,k⟩:=q_
 unfold zbd at ef
 cases e1 : f ρ with
 | none=>rw [e1] at ef; cases ef
 | some d =>
  rw [e1] at ef
  cases ef
  exact hi _ _ _ ⟨Hf0,H0,Hf,ρ,d,so,e1,fun v Hf' H' x r=>k _ Hf' H' x.f ((so.step x).setIm r)⟩
theorem zv7 {te : TE} {i : Nat} {f : List Sl -> Option (List D)} (hp : PS X st (zig te (zhi i))) (hi : ∀ σ H Q,tDO (Gx c X) f σ H Q -> te σ H Q) : DS c X st (zdb i f):=PS.imp hp fun E σ H q_=>by
 obtain ⟨Hf0,H0,Hf,ρ,o,so,ef,k⟩:=q_
 unfold zdb at ef
 cases e1 : f ρ with
 | none=>rw [e1] at ef; cases ef
 | some d =>
  rw [e1] at ef
  cases ef
  exact hi _ _ _ ⟨Hf0,H0,Hf,ρ,d,so,e1,fun l vs Hf' H' x hn hf hl r=>k _ Hf' H' x.f (so.setOwn (s:=.own d) rfl x hn hf ⟨vs,hl,r⟩)⟩
theorem zb5 (i : Nat) {x : Str} {f : List Sl -> Option D} {pos' : Pos} (hN : X.N.Nodup) (he : DE c X e f) (hi : X.N[i]? = some x:=by rfl) (hx : Loc X.env.scope x:=by first | exact Or.inl rfl | exact Or.inr rfl) (hs : swapsWith e (some (.Name x pos')) pos.line X.env = pure false:=by rfl) (hf : X.fn x = true \/ X.env.scope.names.lookup x = some .local:=by first | exact .inl rfl | exact .inr rfl) :
  DS c X (.Assign [.Name x pos'] e pos) (zbd i f):=zs2 (znb hN hi hx he hs hf) fun _ _ _ h=>h
theorem zfq (i : Nat) {x : Str} {f : List Sl -> Option (List D)} {pos' : Pos} (hN : X.N.Nodup) (he : DO c X e f) (hi : X.N[i]? = some x:=by rfl) (hx : Loc X.env.scope x:=by first | exact Or.inl rfl | exact Or.inr rfl) (hs : swapsWith e (some (.Name x pos')) pos.line X.env = pure false:=by rfl) (hf : X.fn x = true \/ X.env.scope.names.lookup x = some .local:=by first | exact .inl rfl | exact .inr rfl) :
  DS c X (.Assign [.Name x pos'] e pos) (zdb i f):=zv7 (znb hN hi hx he hs hf) fun _ _ _ h=>h
theorem z78 {G : Gc} {f : List Sl -> Option (List D)} {σ : St} {H : Hp} {Q : VK} (h : tD G (zal f) σ H Q) : tDO G f σ H Q:=by
 obtain ⟨Hf0,H0,Hf,ρ,d,st,ef,k⟩:=h
 unfold zal at ef
 cases ed : f ρ with
 | none=>rw [ed] at ef; cases ef
 | some ds =>
  rw [ed] at ef
  have ef : D.lst ds = d:=Option.some.inj ef
  subst ef
  exact ⟨Hf0,H0,Hf,ρ,ds,st,ed,fun l vs Hf' H' x hn hf hl r=>k _ (upd Hf' l (.lst vs)) H' (x.fix hn hf hl) ⟨l,vs,rfl,zcg,r.up (zc2 hf)⟩⟩
theorem znt (i : Nat) {x : Str} {pos' spos : Pos} {elt : Expr} {ifs : List Expr} {scope : Scope} {fi : List Sl -> Option (List D)} {g : D -> List Sl -> Option (List Sl)} {ft : List Sl -> Option Bool} {fe : List Sl -> Option D} (k : Nat) (js : List Nat) (Nc : List Str) (hN : X.N.Nodup) (hc : X.calm = true) (hi : DIe c X tg iter fi)
  (hg : ∀ cl C ex s₂ H₂,DG c (X.comp scope Nc cl C ex s₂ H₂) tg k g) (ht : ∀ cl C ex s₂ H₂,DTs c (X.comp scope Nc cl C ex s₂ H₂) ifs ft) (he : ∀ cl C ex s₂ H₂,DE c (X.comp scope Nc cl C ex s₂ H₂) elt fe)
  (hi' : X.N[i]? = some x:=by rfl) (hx : Loc X.env.scope x:=by first | exact Or.inl rfl | exact Or.inr rfl)
  (hsw : swapsWith (.ListComp elt [⟨tg,iter,ifs,0⟩] scope pos) (some (.Name x pos')) spos.line X.env = pure true:=by rfl)
  (ck : zil scope X.env.scope.names X.N Nc k js = true:=by rfl) (hs : ∀ x,foldedSetIterable iter X.env x = pure x:=by intro _; rfl) (hj : js.Nodup:=by decide)
  (hf : X.fn x = true \/ X.env.scope.names.lookup x = some .local:=by first | exact .inl rfl | exact .inr rfl) :
  DS c X (.Assign [.Name x pos'] (.ListComp elt [⟨tg,iter,ifs,0⟩] scope pos) spos) (zdb i (za7 k js fi g ft fe)) :=
 zv7 (zu0 (g:=tDG (Gx c X) g) (tt:=tDT (Gx c X) ft) (te:=tD (Gx c X) fe) k js Nc hN hi' hx hc hi (fun cl C ex s₂ H₂=>(hg cl C ex s₂ H₂).pg) ht he hsw ck hs hf) fun σ H Q h=>zrv hj (hg [] 0 [] X.s₀ X.H₀).keep (hg [] 0 [] X.s₀ X.H₀).len h
theorem zgi (i : Nat) {x : Str} {pos' spos : Pos} {elt : Expr} {ifs : List Expr} {scope : Scope} {fi : List Sl -> Option (List D)} {g : D -> List Sl -> Option (List Sl)} {ft : List Sl -> Option Bool} {fe : List Sl -> Option D} (k : Nat) (js : List Nat) (Nc : List Str) (hN : X.N.Nodup) (hc : X.calm = true) (hi : DIe c X tg iter fi)
  (hg : ∀ cl C ex s₂ H₂,DG c (X.comp scope Nc cl C ex s₂ H₂) tg k g) (ht : ∀ cl C ex s₂ H₂,DTs c (X.comp scope Nc cl C ex s₂ H₂) ifs ft) (he : ∀ cl C ex s₂ H₂,DE c (X.comp scope Nc cl C ex s₂ H₂) elt fe)
  (hi' : X.N[i]? = some x:=by rfl) (hx : Loc X.env.scope x:=by first | exact Or.inl rfl | exact Or.inr rfl)
  (hsw : swapsWith (.ListComp elt [⟨tg,iter,ifs,0⟩] scope pos) (some (.Name x pos')) spos.line X.env = pure true:=by rfl)
  (ck : zil scope X.env.scope.names X.N Nc k js = true:=by rfl) (hs : ∀ x,foldedSetIterable iter X.env x = pure x:=by intro _; rfl) (hj : js.Nodup:=by decide)
  (hf : X.fn x = true \/ X.env.scope.names.lookup x = some .local:=by first | exact .inl rfl | exact .inr rfl) :
  DS c X (.Assign [.Name x pos'] (.ListComp elt [⟨tg,iter,ifs,0⟩] scope pos) spos) (zbd i (zal (za7 k js fi g ft fe))) :=
 zs2 (zu0 (g:=tDG (Gx c X) g) (tt:=tDT (Gx c X) ft) (te:=tD (Gx c X) fe) k js Nc hN hi' hx hc hi (fun cl C ex s₂ H₂=>(hg cl C ex s₂ H₂).pg) ht he hsw ck hs hf) fun σ H Q h=>zrv hj (hg [] 0 [] X.s₀ X.H₀).keep (hg [] 0 [] X.s₀ X.H₀).len (z78 h)
theorem zaw {f : List Sl -> Option D} (he : DE c X e f) : DS c X (.Return (some e) pos) (zav f):=PS.imp (zn6 he) fun E σ H q_=>by
 obtain ⟨Hf0,H0,Hf,ρ,o,so,ef,k⟩:=q_
 unfold zav at ef
 cases e1 : f ρ with
 | none=>rw [e1] at ef; cases ef
 | some d =>
  rw [e1] at ef
  cases ef
  exact ⟨Hf0,H0,Hf,ρ,d,so,e1,fun v Hf' H' x r=>k v Hf' H' (so.ext.trans x) r⟩
noncomputable def zi4 (f : List Sl -> Option D) (ρ : List Sl) : Option Fl:=(f ρ).map fun d=>.rtS d ρ
theorem zuz {f : List Sl -> Option D} (he : DE c X e f) : DS c X (.Return (some e) pos) (zi4 f):=PS.imp (zn6 he) fun E σ H q_=>by
 obtain ⟨Hf0,H0,Hf,ρ,o,so,ef,k⟩:=q_
 unfold zi4 at ef
 cases e1 : f ρ with
 | none=>rw [e1] at ef; cases ef
 | some d =>
  rw [e1] at ef
  cases ef
  exact ⟨Hf0,H0,Hf,ρ,d,so,e1,fun v Hf' H' x r=>k v σ Hf' H' (so.step x) r⟩
theorem zlo {f : List Sl -> Option (List D)} (he : DO c X e f) : DS c X (.Return (some e) pos) (zgq f):=PS.imp (zn6 he) fun E σ H q_=>by
 obtain ⟨Hf0,H0,Hf,ρ,o,so,ef,k⟩:=q_
 unfold zgq at ef
 cases e1 : f ρ with
 | none=>rw [e1] at ef; cases ef
 | some d =>
  rw [e1] at ef
  cases ef
  exact ⟨Hf0,H0,Hf,ρ,d,so,e1,fun l vs Hf' H' x hn hf hl r=>k l vs Hf' H' (so.ext.trans x) (so.ext.h.free hn) hf hl r⟩
theorem zwt {i : Nat} (he : PE X e (zei i)) : DS c X (.Return (some e) pos) (zet i):=PS.imp (zn6 he) fun E σ H q_=>by
 obtain ⟨Hf0,H0,Hf,ρ,o,so,ef,k⟩:=q_
 unfold zet at ef
 cases es : ρ[i]? with
 | none=>rw [es] at ef; cases ef
 | some s =>
  rw [es] at ef
  cases s with
  | im d =>
   cases ef
   obtain ⟨v,e1,r⟩:=so.imm es
   exact ⟨_,e1,k v Hf H so.ext r⟩
  | own xs =>
   cases ef
   obtain ⟨l,e1,h0,hf,vs,q,r⟩:=so.ownAt rfl es
   exact ⟨_,e1,k l vs Hf H so.ext h0 hf q r⟩
  | _=>cases ef
theorem zg2 (i : Nat) {x : Str} {p : Pos} (hN : X.N[i]? = some x:=by rfl) (hv : Vis X.env.scope x:=by first | exact Or.inl rfl | exact Or.inr (Or.inl rfl) | exact Or.inr (Or.inr rfl)) (hd : (x == ("__debug__" : Str)) = false:=by decide)
  (hcd : (x == ("__classdict__" : Str)) = false:=by decide) : DS c X (.Return (some (.Name x p)) pos) (zet i):=zwt (zgu hN hv hd hcd)
theorem zd5 {fi : List Sl -> Option (List D)} {g : D -> List Sl -> Option (List Sl)} {kk : Nat} (hp : PassesOwn (model X.prog X.w) X.A X.env X.xe) (hc : X.calm = true) (hi : DI c X tg iter fi) (hg : DG c X tg kk g) (hb : DSs c X a F) (hs : ∀ x,foldedSetIterable iter X.env x = pure x:=by intro _; rfl) :
  DS c X (.For tg iter a [] pos) (zc5 fi g F):=PS.imp (zyy hp hc hi hg.pg hb hs) fun E σ H q_=>by
 obtain ⟨Hf0,H0,Hf,ρ,o,so,ef,k⟩:=q_
 unfold zc5 at ef
 cases e1 : fi ρ with
 | none=>rw [e1] at ef; cases ef
 | some ds =>
  rw [e1] at ef
  replace ef : zfk g F ds ρ = some o:=ef
  refine ⟨Hf0,H0,Hf,ρ,ds,so,e1,fun J Hf1 H1 x1 it=>?_⟩
  refine ⟨fun i m σ' H'=>m = ds.length - i /\ i <= ds.length /\ ∃ Hf' ρ',za0 (Gx c X) Hf0 H0 Hf' H' σ' ρ' /\ za5 Hf1 Hf' /\ zfk g F (ds.drop i) ρ' = some o,⟨ds.length,rfl,Nat.zero_le _,Hf1,ρ,so.step x1,za5.refl _,ef⟩,?_⟩
  rintro i m σ' H' ⟨rfl,hi',Hf',ρ',so',s1,em⟩
  obtain ⟨it1,it2⟩:=it Hf' H' s1 so'.sub i
  by_cases hlt : i < ds.length
  ·obtain ⟨d,ed,edr⟩:=zug hlt
   obtain ⟨go,yl⟩:=it1 d ed
   rw [edr] at em
   unfold zfk at em
   refine .inr ⟨go,fun σ2 H2=>ds.length - (i + 1) = ds.length - (i + 1) /\ i + 1 <= ds.length /\ ∃ Hf' ρ',za0 (Gx c X) Hf0 H0 Hf' H2 σ2 ρ' /\ za5 Hf1 Hf' /\ zfk g F (ds.drop (i + 1)) ρ' = some o,fun σ2 H2 w=>⟨ds.length - (i + 1),by omega,w⟩,fun x H2 y=>?_⟩
   obtain ⟨Hf2,x2,rx⟩:=yl x H2 y
   cases eg : g d ρ' with
   | none=>rw [eg] at em; cases em
   | some ρ1 =>
    rw [eg] at em
    replace em : (F ρ1).bind _ = _:=em
    cases eF : F ρ1 with
    | none=>rw [eF] at em; cases em
    | some o1 =>
     rw [eF] at em
     refine ⟨Hf0,H0,Hf2,ρ',d,ρ1,so'.step x2,rx,eg,fun σ3 so3=>⟨Hf0,H0,Hf2,ρ1,o1,so3,eF,?_⟩⟩
     have sf:=s1.trans x2.f
     cases o1 with
     | nx ρ2=>exact fun σ4 Hf4 H4 s4 so4=>⟨rfl,hlt,Hf4,ρ2,so4,sf.trans s4,em⟩
     | ct ρ2=>exact fun σ4 Hf4 H4 s4 so4=>⟨rfl,hlt,Hf4,ρ2,so4,sf.trans s4,em⟩
     | bk ρ2=>cases em; exact fun σ4 Hf4 H4 s4 so4=>k σ4 Hf4 H4 ((x1.f.trans sf).trans s4) so4
     | rt d=>cases em; exact k
     | rtO d=>cases em; exact k
     | rtS d ρ2=>cases em; exact k
  ·have ei : i = ds.length:=by omega
   subst ei
   rw [List.drop_eq_nil_of_le (Nat.le_refl _)] at em
   cases em
   exact .inl ⟨it2 rfl,k σ' Hf' H' (x1.f.trans s1) so'⟩
theorem z7y (n : Nat) {t : List Sl -> Option Bool} (hp : PassesOwn (model X.prog X.w) X.A X.env X.xe) (hc : DT c X cd t) (hb : DSs c X a F) : DS c X (.While cd a [] pos) (zge t F n):=PS.imp (zyd hp hc hb) fun E σ H q_=>by
 obtain ⟨Hf0,H0,Hf,ρ,o,so,ef,k⟩:=q_
 refine ⟨fun m σ' H'=>∃ Hf' ρ',za0 (Gx c X) Hf0 H0 Hf' H' σ' ρ' /\ za5 Hf Hf' /\ zge t F m ρ' = some o,⟨n,Hf,ρ,so,za5.refl _,ef⟩,?_⟩
 rintro m σ' H' ⟨Hf',ρ',so',s1,em⟩
 cases m with
 | zero=>cases em
 | succ m =>
  unfold zge at em
  cases et : t ρ' with
  | none=>rw [et] at em; cases em
  | some b =>
   rw [et] at em
   replace em : (if b = true then (F ρ').bind _ else some (.nx ρ')) = some o:=em
   refine ⟨Hf0,H0,Hf',ρ',b,so',et,fun Hf2 H2 x2=>?_⟩
   cases b with
   | false =>
    rw [if_neg Bool.false_ne_true] at em
    refine zse ?_
    cases em
    exact k σ' Hf2 H2 (s1.trans x2.f) (so'.step x2)
   | true =>
    rw [if_pos rfl] at em
    refine zuk ?_
    cases eF : F ρ' with
    | none=>rw [eF] at em; cases em
    | some o1 =>
     rw [eF] at em
     refine ⟨fun σ3 H3=>∃ Hf' ρ',za0 (Gx c X) Hf0 H0 Hf' H3 σ3 ρ' /\ za5 Hf Hf' /\ zge t F m ρ' = some o,fun σ3 H3 w=>⟨m,Nat.lt_succ_self _,w⟩,Hf0,H0,Hf2,ρ',o1,so'.step x2,eF,?_⟩
     have sf:=s1.trans x2.f
     cases o1 with
     | nx ρ2=>exact fun σ4 Hf4 H4 s4 so4=>⟨Hf4,ρ2,so4,sf.trans s4,em⟩
     | ct ρ2=>exact fun σ4 Hf4 H4 s4 so4=>⟨Hf4,ρ2,so4,sf.trans s4,em⟩
     | bk ρ2=>cases em; exact fun σ4 Hf4 H4 s4 so4=>k σ4 Hf4 H4 (sf.trans s4) so4
     | rt d=>cases em; exact k
     | rtO d=>cases em; exact k
     | rtS d ρ2=>cases em; exact k
theorem z6y {G : Gc} {i : Nat} {E : zhz} {σ : St} {H : Hp} (h : tDS G (ze5 i F) E σ H) : tDS G F E σ H:=by
 obtain ⟨Hf0,H0,Hf,ρ,o,so,ef,k⟩:=h
 unfold ze5 znu at ef
 split at ef
 ·rename_i xs es
  obtain ⟨l,e1,h0,hf,vs,q,r⟩:=so.ownAt rfl es
  exact ⟨Hf0,H0,_,_,o,so.fixd (d:=.lst xs) rfl es e1 q ⟨l,vs,rfl,zcg,r.up (zc2 hf)⟩,ef,k.up (zc2 hf)⟩
 ·rename_i ks xs es
  obtain ⟨l,e1,h0,hf,vs,q,z,r⟩:=so.ownAt rfl es
  exact ⟨Hf0,H0,_,_,o,so.fixd (d:=.dic ks xs) rfl es e1 q ⟨l,vs,rfl,zcg,z,r.up (zc2 hf)⟩,ef,k.up (zc2 hf)⟩
 ·rename_i c' ns xs es
  obtain ⟨l,e1,h0,hf,dx,vs,q,z,r⟩:=so.ownAt rfl es
  exact ⟨Hf0,H0,_,_,o,so.fixd (d:=.ins c' ns xs) rfl es e1 q ⟨l,dx,vs,rfl,zcg,z,r.up (zc2 hf)⟩,ef,k.up (zc2 hf)⟩
 ·exact ⟨Hf0,H0,Hf,ρ,o,so,ef,k⟩
theorem zg8 (i : Nat) (h : DS c X st F) : DS c X st (ze5 i F):=PS.imp h fun _ _ _=>z6y
theorem zhe {i : Nat} {f : List Sl -> Option D} (h : PS X st (zm3 (tBM X.K "list" zq8 (zei i) (znp (tD (Gx c X) f) zn7)))) : DS c X st (ze9 i f):=PS.imp h fun E σ H q_=>by
 obtain ⟨Hf0,H0,Hf,ρ,o,so,ef,k⟩:=q_
 unfold ze9 at ef
 cases e1 : f ρ with
 | none=>rw [e1] at ef; cases ef
 | some d =>
  rw [e1] at ef
  replace ef : (match ρ[i]? with | some (.own xs)=>if xs.length < 16777216 then some (Fl.nx (ρ.set i (.own (xs ++ [d])))) else none | _=>none) = some o:=ef
  split at ef
  ·rename_i xs es
   split at ef
   ·rename_i hl
    cases ef
    obtain ⟨l,e2,h0,hf,vs,q,r⟩:=so.ownAt rfl es
    refine ⟨_,e2,.inl ⟨rfl,_,SqL.of q⟩,Hf0,H0,Hf,ρ,d,so,e1,fun v Hf' H' x r'=>?_⟩
    have so':=so.step x
    have q':=x.h _ _ q
    refine ⟨l,vs,v,rfl,rfl,q',by rw [sizeLine_eq,<- r.length]; exact hl,k σ Hf' _ x.f (so'.mutd (s:=.own xs) (s':=.own (xs ++ [d])) rfl rfl es e2 ⟨vs ++ [v],zcg,(r.up x.f).append (.cons r' .nil)⟩)⟩
   ·cases ef
  ·cases ef
theorem zvf {i : Nat} {f : List Sl -> Option D} (h : PS X st (zm3 (tBM X.K "list" zwi (zei i) (znp (tD (Gx c X) f) zn7)))) : DS c X st (zit i (zh1 f)):=PS.imp h fun E σ H q_=>by
 obtain ⟨Hf0,H0,Hf,ρ,o,so,ef,k⟩:=q_
 unfold zit zh1 at ef
 cases e1 : f ρ with
 | none=>rw [e1] at ef; cases ef
 | some d =>
  rw [e1] at ef
  cases d with
  | lst ds =>
   replace ef : (match ρ[i]? with | some (.own xs)=>if xs.length + ds.length <= 16777216 then some (Fl.nx (ρ.set i (.own (xs ++ ds)))) else none | _=>none) = some o:=ef
   split at ef
   ·rename_i xs es
    split at ef
    ·rename_i hl
     cases ef
     obtain ⟨l,e2,h0,hf,vs,q,r⟩:=so.ownAt rfl es
     refine ⟨_,e2,.inl ⟨rfl,_,SqL.of q⟩,Hf0,H0,Hf,ρ,.lst ds,so,e1,fun v Hf' H' x r'=>?_⟩
     obtain ⟨a,us,ea,qa,ra⟩:=r'
     subst ea
     have so':=so.step x
     have q':=x.h _ _ q
     refine ⟨l,a,vs,us,rfl,rfl,q',x.s _ _ qa,by rw [sizeLine_eq,<- r.length,<- ra.length]; exact hl,k σ Hf' _ x.f (so'.mutd (s:=.own xs) (s':=.own (xs ++ ds)) rfl rfl es e2 ⟨vs ++ us,zcg,(r.up x.f).append ra⟩)⟩
    ·cases ef
   ·cases ef
  | _=>cases ef
end
noncomputable def zpa : Fl -> Option D
 | .rt d=>some d
 | .rtO ds=>some (.lst ds)
 | .rtS d _=>some d
 | .nx _=>some .non
 | _=>none
noncomputable def zdx (n : Nat) (ds : List D) : List Sl:=ds.map .im ++ List.replicate (n - ds.length) .no
noncomputable def zbk (n : Nat) (F : List Sl -> Option Fl) (ds : List D) : Option D:=(F (zdx n ds)).bind zpa
noncomputable def zk3 (n : Nat) (F : List Sl -> Option Fl) (ds : List D) : Option (List D):=(F (zdx n ds)).bind fun o=>match o with
 | .rtO ds=>some ds
 | _=>none
noncomputable def spD (G : Gc) (n : Nat) (m : List D -> Option D) : Sp:=fun vs H Q _=>∃ Hf ds d,za5 Hf H /\ zas G Hf ds vs /\ ds.length = n /\ m ds = some d /\ ∀ v Hf' H',Ext Hf H Hf' H' -> Rep G Hf' d v -> Q v H'
noncomputable def spO (G : Gc) (n : Nat) (m : List D -> Option (List D)) : Sp:=fun vs H Q _=>∃ Hf ds rs,za5 Hf H /\ zas G Hf ds vs /\ ds.length = n /\ m ds = some rs /\
 ∀ l us Hf' H',Ext Hf H Hf' H' -> H l = none -> Hf' l = none -> H' l = some (.lst us) -> zas G Hf' rs us -> Q (.ref l) H'
theorem za0.start {G : Gc} {Hf H : Hp} {N : List Str} {ds : List D} {vs : List V} (s0 : za5 Hf H) (r : zas G Hf ds vs) : za0 G Hf H Hf H (start N vs) (zdx N.length ds):=by
 have hl:=r.length
 have im : ∀ (i : Nat) (s : Sl),(zdx N.length ds)[i]? = some s -> s = .no \/ ∃ d,ds[i]? = some d /\ s = .im d:=fun i s b=>by
  unfold zdx at b
  by_cases hi : i < ds.length
  ·rw [List.getElem?_append_left (by simpa using hi)] at b
   obtain ⟨d,ed,es⟩:=zif b
   exact .inr ⟨d,ed,es⟩
  ·rw [List.getElem?_append_right (by simpa using Nat.le_of_not_lt hi)] at b
   obtain ⟨_,e⟩:=List.getElem?_eq_some_iff.mp b
   rw [List.getElem_replicate] at e
   exact .inl e.symm
 refine ⟨Ext.refl s0,by simp [L2.start,zdx,hl],fun i v s a b=>?_,fun i j s t l a b hs ht c d=>?_⟩
 ·rcases im i s b with e | ⟨d,ed,es⟩
  ·subst e; trivial
  ·subst es
   obtain ⟨u,eu,ru⟩:=r.get ed
   refine ⟨u,?_,ru⟩
   have hi : i < vs.length:=(List.getElem?_eq_some_iff.mp eu).1
   unfold L2.start at a
   rw [List.getElem?_append_left (by simpa using hi),List.getElem?_map,eu] at a
   exact (Option.some.inj a).symm
 ·rcases im i s a with e | ⟨d,ed,es⟩
  ·subst e; cases hs
  ·subst es; cases hs
section
variable {P : Program} {w : World} {K : PySem.W.Frag} {mg : Str -> Option Value} {base : Heap} {c : Str -> Addr}
theorem zbt {x qual : Str} {st : Stmt} {f : Addr} {fd : FuncData} {N ps : List Str} {k : Nat} {F : List Sl -> Option Fl} (Fn : Fun K x qual st f fd) (S : zba N ps (zao st))
  (h : ∀ (cdv : Value) (A : Around) (outer : List Env) (s : Shared) (H : Hp) (E : XK),zce k (A.deeper (envOfC qual (zao st) s.heap.objs.size f cdv)) -> DSs c (zgb CX0 P w K mg base N qual (zao st) f cdv A outer s H E).nox (za9 st) F) :
  zax P w K mg base CX0 (k + 1) f fd ps (spD ⟨K,c⟩ ps.length (zbk N.length F)):=by
 refine Fn.ok S (fun vs H Q E ⟨Hf,ds,d,s0,r,hl,_⟩=>by rw [<- r.length]; exact hl) fun cdv A outer s H vs Q E hr ⟨Hf,ds,d,s0,r,hl,e,kq⟩=>⟨_,h cdv A outer s H E hr,?_⟩
 unfold zbk at e
 cases eF : F (zdx N.length ds) with
 | none=>rw [eF] at e; cases e
 | some o =>
  rw [eF] at e
  replace e : zpa o = some d:=e
  refine ⟨Hf,H,Hf,_,o,za0.start s0 r,eF,?_⟩
  cases o with
  | nx ρ=>cases e; exact fun σ' Hf' H' _ so=>kq _ Hf' H' so.ext rfl
  | bk ρ=>cases e
  | ct ρ=>cases e
  | rt d=>cases e; exact kq
  | rtO rs=>cases e; exact fun l vs Hf' H' x hn hf hl r=>kq _ (upd Hf' l (.lst vs)) H' (x.fix hn hf hl) ⟨l,vs,rfl,zcg,r.up (zc2 hf)⟩
  | rtS d ρ=>cases e; exact fun v σ' Hf' H' so r=>kq v Hf' H' so.ext r
theorem zuo {x qual : Str} {st : Stmt} {f : Addr} {fd : FuncData} {N ps : List Str} {k : Nat} {F : List Sl -> Option Fl} (Fn : Fun K x qual st f fd) (S : zba N ps (zao st))
  (h : ∀ (cdv : Value) (A : Around) (outer : List Env) (s : Shared) (H : Hp) (E : XK),zce k (A.deeper (envOfC qual (zao st) s.heap.objs.size f cdv)) -> DSs c (zgb CX0 P w K mg base N qual (zao st) f cdv A outer s H E).nox (za9 st) F) :
  zax P w K mg base CX0 (k + 1) f fd ps (spO ⟨K,c⟩ ps.length (zk3 N.length F)):=by
 refine Fn.ok S (fun vs H Q E ⟨Hf,ds,d,s0,r,hl,_⟩=>by rw [<- r.length]; exact hl) fun cdv A outer s H vs Q E hr ⟨Hf,ds,rs,s0,r,hl,e,kq⟩=>⟨_,h cdv A outer s H E hr,?_⟩
 unfold zk3 at e
 cases eF : F (zdx N.length ds) with
 | none=>rw [eF] at e; cases e
 | some o =>
  rw [eF] at e
  refine ⟨Hf,H,Hf,_,o,za0.start s0 r,eF,?_⟩
  cases o with
  | rtO rs'=>cases e; exact kq
  | _=>cases e
end
section
variable {c : Str -> Addr} {X : Cx} {k : Nat} {f C : Addr} {fd : FuncData} {ps : List Str} {x : Str} {p pos apos : Pos} {e o : Expr} {es : List Expr} {fa : List Sl -> Option (List D)}
theorem zbp {m : List D -> Option D} (F : zax X.prog X.w X.K X.mg X.base CX0 k f fd ps (spD (Gx c X) ps.length m)) (hr : zce k X.A) (hg : Gl X x) (hm : X.mg x = some (.ref f)) (hk : PySem.W.keepIn X.K (.ref f) = true) (hb : za2 X.K fd ps []) (ha : DA c X (e :: es) fa)
  (hl : (e :: es).length = ps.length:=by rfl) (hdb : (x == ("__debug__" : Str)) = false:=by decide) (he : starEach (e :: es) X.env = (false,eval e X.env) :: starEach es X.env:=by rfl) (hpl : (backTo pos (starEach es X.env)).any (·.1) = false:=by rfl) :
  DE c X (.Call (.Name x p) (e :: es) [] pos) (zap m fa):=PE.imp (zik F hr hg hm hk hb .nil zg6 ha.pa hdb he hpl) fun σ H Q q_=>by
 obtain ⟨Hf0,H0,Hf,ρ,d,st,ef,kq⟩:=q_
 obtain ⟨ds,e1,e2⟩:=zo5 ef
 refine ⟨Hf0,H0,Hf,ρ,ds,st,e1,fun vs Hf' H' x r=>?_⟩
 dsimp only
 rw [List.append_nil]
 exact ⟨Hf',ds,d,x.s,r,(ha.len ρ ds e1).trans hl,e2,fun v Hf2 H2 x2 r2=>kq v Hf2 H2 (x.trans x2) r2⟩
noncomputable def zky (m : List D -> Option (List D)) (f : List Sl -> Option (List D)) (ρ : List Sl) : Option (List D):=(f ρ).bind m
theorem zr9 {m : List D -> Option (List D)} (F : zax X.prog X.w X.K X.mg X.base CX0 k f fd ps (spO (Gx c X) ps.length m)) (hr : zce k X.A) (hg : Gl X x) (hm : X.mg x = some (.ref f)) (hk : PySem.W.keepIn X.K (.ref f) = true) (hb : za2 X.K fd ps []) (ha : DA c X (e :: es) fa)
  (hl : (e :: es).length = ps.length:=by rfl) (hdb : (x == ("__debug__" : Str)) = false:=by decide) (he : starEach (e :: es) X.env = (false,eval e X.env) :: starEach es X.env:=by rfl) (hpl : (backTo pos (starEach es X.env)).any (·.1) = false:=by rfl) :
  DO c X (.Call (.Name x p) (e :: es) [] pos) (zky m fa):=PE.imp (zik F hr hg hm hk hb .nil zg6 ha.pa hdb he hpl) fun σ H Q q_=>by
 obtain ⟨Hf0,H0,Hf,ρ,rs,st,ef,kq⟩:=q_
 unfold zky at ef
 cases e1 : fa ρ with
 | none=>rw [e1] at ef; cases ef
 | some ds =>
  rw [e1] at ef
  refine ⟨Hf0,H0,Hf,ρ,ds,st,e1,fun vs Hf' H' x r=>?_⟩
  dsimp only
  rw [List.append_nil]
  exact ⟨Hf',ds,rs,x.s,r,(ha.len ρ ds e1).trans hl,ef,fun l us Hf2 H2 x2 hn hf hl' r2=>kq l us Hf2 H2 (x.trans x2) (x.h.free hn) hf hl' r2⟩
noncomputable def zhj (m : List D -> Option D) (f : List Sl -> Option (List D)) (ρ : List Sl) : Option D:=(f ρ).bind fun ds=>(m ds).bind fun d=>if d.scalar then some d else none
theorem zm8 {m : List D -> Option D} (F : zax X.prog X.w X.K X.mg X.base CX0 k f fd ps (spD (Gx c X) ps.length m)) (hr : zce k X.A) (hg : Gl X x) (hm : X.mg x = some (.ref f)) (hk : PySem.W.keepIn X.K (.ref f) = true) (hb : za2 X.K fd ps []) (ha : DAB c X (e :: es) fa)
  (hl : (e :: es).length = ps.length:=by rfl) (hdb : (x == ("__debug__" : Str)) = false:=by decide) (he : starEach (e :: es) X.env = (false,eval e X.env) :: starEach es X.env:=by rfl) (hpl : (backTo pos (starEach es X.env)).any (·.1) = false:=by rfl) :
  DE c X (.Call (.Name x p) (e :: es) [] pos) (zhj m fa):=PE.imp (zik F hr hg hm hk hb .nil zg6 ha.pa hdb he hpl) fun σ H Q q_=>by
 obtain ⟨Hf0,H0,Hf,ρ,d,st,ef,kq⟩:=q_
 unfold zhj at ef
 cases e1 : fa ρ with
 | none=>rw [e1] at ef; cases ef
 | some ds =>
  rw [e1] at ef
  replace ef : (m ds).bind _ = _:=ef
  cases e2 : m ds with
  | none=>rw [e2] at ef; cases ef
  | some d' =>
   rw [e2] at ef
   replace ef : (if d'.scalar = true then some d' else none) = some d:=ef
   split at ef
   ·rename_i hs
    cases ef
    refine ⟨Hf0,H0,Hf,ρ,ds,st,e1,fun vs Hf' H' x r=>?_⟩
    dsimp only
    rw [List.append_nil]
    exact ⟨H',ds,_,za5.refl _,r,(ha.len ρ ds e1).trans hl,e2,fun v Hf2 H2 x2 r2=>kq v Hf' H2 (x.trans (Ext.grow x.s x2.h)) (r2.sc hs)⟩
   ·cases ef
end
theorem zwk {G : Gc} {H : Hp} {f : Str} {d : D} : ∀ {ns : List Str} {ds : List D} {vs : List V},(ns.zip ds).lookup f = some d -> zas G H ds vs -> ∃ v,(ns.zip vs).lookup f = some v /\ Rep G H d v
 | [],_,_,e,_=>by simp at e
 | n :: ns,[],_,e,_=>by simp at e
 | n :: ns,x :: ds,_,e,⟨v,r,ev,h1,h2⟩=>by
  subst ev
  rw [List.zip_cons_cons,List.lookup_cons] at e
  rw [List.zip_cons_cons,List.lookup_cons]
  cases hf : f == n with
  | true=>rw [hf] at e; cases e; exact ⟨v,rfl,h1⟩
  | false=>rw [hf] at e; exact zwk e h2
theorem zuq {f : Str} : ∀ {ns : List Str} {vs : List V},ns.contains f = false -> (ns.zip vs).lookup f = none
 | [],_,_=>by simp
 | n :: ns,[],_=>by simp
 | n :: ns,v :: vs,h=>by
  rw [List.contains_cons,Bool.or_eq_false_iff] at h
  rw [List.zip_cons_cons,List.lookup_cons,h.1]
  exact zuq h.2
noncomputable def zu9 (cn f : Str) : D -> Option D
 | .ins c' ns ds=>if c' = cn then (ns.zip ds).lookup f else none
 | _=>none
noncomputable def zek (cn f : Str) (m : List Sl -> Option D) (ρ : List Sl) : Option D:=(m ρ).bind (zu9 cn f)
noncomputable def zdf (cn f : Str) (m : List D -> Option D) (fo : List Sl -> Option D) (fa : List Sl -> Option (List D)) (ρ : List Sl) : Option D:=(fo ρ).bind fun d=>match d with
 | .ins c' ns ds=>if c' = cn /\ ns.contains f = false then (fa ρ).bind fun as=>m (.ins c' ns ds :: as) else none
 | _=>none
section
variable {c : Str -> Addr} {X : Cx} {k : Nat} {f C : Addr} {fd : FuncData} {ps : List Str} {x fl cn : Str} {p pos apos : Pos} {e o : Expr} {es : List Expr} {fo : List Sl -> Option D} {fa : List Sl -> Option (List D)}
theorem ze3 (cn : Str) (hc : Cls X.K (c cn)) (hn : zdn X.K (c cn) fl) (ho : DE c X o fo) (hb : attributeBase o fl X.env (eval o X.env) = eval o X.env:=by rfl) : DE c X (.Attribute o fl pos) (zek cn fl fo) :=
 PE.imp (z0t ho hb) fun σ H Q q_=>by
  obtain ⟨Hf0,H0,Hf,ρ,d,st,ef,k⟩:=q_
  unfold zek at ef
  cases e1 : fo ρ with
  | none=>rw [e1] at ef; cases ef
  | some y =>
   rw [e1] at ef
   replace ef : zu9 cn fl y = some d:=ef
   cases y with
   | ins c' ns ds =>
    replace ef : (if c' = cn then (ns.zip ds).lookup fl else none) = some d:=ef
    split at ef
    ·rename_i hcc
     subst hcc
     refine ⟨Hf0,H0,Hf,ρ,_,st,e1,fun v Hf' H' x r=>?_⟩
     obtain ⟨a,dx,vs,ev,q,hl,rs⟩:=r
     obtain ⟨u,eu,ru⟩:=zwk ef rs
     exact ⟨a,c c',dx,ns.zip vs,u,ev,x.s _ _ q,hc,hn,eu,k u Hf' H' x ru⟩
    ·cases ef
   | _=>cases ef
theorem zhp {m : List D -> Option D} {pl : Sem Bool} (cn : Str) (ho : DE c X o fo) (hc : Cls X.K (c cn)) (hm : zdv X.K (c cn) fl f) (F : zax X.prog X.w X.K X.mg X.base CX0 k f fd ps (spD (Gx c X) ps.length m)) (hr : zce k X.A) (hb : za2 X.K fd ps []) (ha : DA c X (e :: es) fa)
  (hl : (e :: es).length + 1 = ps.length:=by rfl)
  (hst : starEach (e :: es) X.env = (false,eval e X.env) :: starEach es X.env:=by rfl) (hpl : (backTo pos (starEach es X.env)).any (·.1) = false:=by rfl)
  (ht : eval (.Call (.Attribute o fl apos) (e :: es) [] pos) X.env = (do
   let ov <- eval o X.env
   standAt apos.atName
   let (f,first) <- holding [ov] (getMethod ov fl pl)
   callWith pos f first (backTo pos (starEach (e :: es) X.env)) (backToKw pos (keywordEach [] X.env))):=by rfl) :
  DE c X (.Call (.Attribute o fl apos) (e :: es) [] pos) (zdf cn fl m fo fa):=PE.imp (z5t ho hc hm F hr hb .nil zg6 ha.pa hst hpl ht) fun σ H Q q_=>by
 obtain ⟨Hf0,H0,Hf,ρ,d,st,ef,kq⟩:=q_
 unfold zdf at ef
 cases e1 : fo ρ with
 | none=>rw [e1] at ef; cases ef
 | some y =>
  rw [e1] at ef
  cases y with
  | ins c' ns ds =>
   replace ef : (if c' = cn /\ ns.contains fl = false then (fa ρ).bind fun as=>m (.ins c' ns ds :: as) else none) = some d:=ef
   split at ef
   ·rename_i hcc
    obtain ⟨rfl,hno⟩:=hcc
    cases e2 : fa ρ with
    | none=>rw [e2] at ef; cases ef
    | some as =>
     rw [e2] at ef
     replace ef : m (.ins c' ns ds :: as) = some d:=ef
     refine ⟨Hf0,H0,Hf,ρ,_,st,e1,fun v Hf' H' x r=>?_⟩
     obtain ⟨a,dx,vs,ev,q,hlen,rs⟩:=id r
     refine ⟨a,dx,ns.zip vs,ev,x.s _ _ q,zuq hno,Hf0,H0,Hf',ρ,as,st.step x,e2,fun ws Hf2 H2 x2 r2=>?_⟩
     dsimp only
     rw [List.append_nil]
     exact ⟨Hf2,.ins c' ns ds :: as,d,x2.s,.cons (r.up x2.f) r2,by rw [List.length_cons,ha.len ρ as e2]; exact hl,ef,fun u Hf3 H3 x3 r3=>kq u Hf3 H3 ((x.trans x2).trans x3) r3⟩
   ·cases ef
  | _=>cases ef
end
noncomputable def zll : List (Str × (List Sl -> Option D)) -> List Sl -> List Str -> List D -> Option (List Str × List D)
 | [],_,ns,ds=>some (ns,ds)
 | (f,m) :: r,ρ,ns,ds=>(m ρ).bind fun d=>if ns.contains f then none else zll r ρ (ns ++ [f]) (ds ++ [d])
noncomputable def z1x (G : Gc) (cn : Str) (fs : List (Str × (List Sl -> Option D))) : TS:=fun E σ H=>∃ x dx Hf0 H0 Hf ρ ns us ds r,σ[0]? = some (some (.ref x)) /\ (∀ s ∈ ρ,Sl.isOwn s = false) /\ za0 G Hf0 H0 Hf H σ ρ /\ H0 x = none /\ Hf x = none /\
 H x = some (.ins (G.cl cn) dx (ns.zip us)) /\ ns.length = us.length /\ ns.length + fs.length <= 900 /\ zas G Hf ds us /\ zll fs ρ ns ds = some r /\
 ∀ us' Hf' H',Ext Hf0 H0 Hf' H' -> Hf' x = none -> H' x = some (.ins (G.cl cn) dx (r.1.zip us')) -> r.1.length = us'.length -> zas G Hf' r.2 us' -> E.nx σ H'
noncomputable def DSI (c : Str -> Addr) (X : Cx) (cn : Str) (sts : List Stmt) (fs : List (Str × (List Sl -> Option D))) : Prop:=PSs X sts (z1x (Gx c X) cn fs)
theorem zl9 {f : Str} {v : V} : ∀ {ns : List Str} {us : List V},ns.length = us.length -> ns.contains f = false -> zd0 f v (ns.zip us) = (ns ++ [f]).zip (us ++ [v])
 | [],[],_,_=>rfl
 | n :: ns,u :: us,hl,h=>by
  rw [List.contains_cons,Bool.or_eq_false_iff] at h
  have h1 : ¬ (n = f):=fun z=>by rw [z,beq_self_eq_true] at h; cases h.1
  rw [List.zip_cons_cons]
  unfold zd0
  first
   | (rw [if_neg h1,zl9 (by simpa using hl) h.2]; rfl)
   | (rw [if_neg (fun z=>h1 (Eq.symm z)),zl9 (by simpa using hl) h.2]; rfl)
   | (rw [if_neg (by simpa using h1),zl9 (by simpa using hl) h.2]; rfl)
   | (rw [if_neg (by simpa using fun z=>h1 (Eq.symm z)),zl9 (by simpa using hl) h.2]; rfl)
 | [],_ :: _,hl,_=>by cases hl
 | _ :: _,[],hl,_=>by cases hl
section
variable {c : Str -> Addr} {X : Cx} {cn fl : Str} {e o : Expr} {sts : List Stmt} {pos pos' : Pos} {m : List Sl -> Option D} {fs : List (Str × (List Sl -> Option D))}
theorem zm6 : DSI c X cn [] []:=PSs.imp zsd fun E σ H q=>by
 obtain ⟨x,dx,Hf0,H0,Hf,ρ,ns,us,ds,r,e0,no,so,h0,hf,hx,hl,hz,rd,em,k⟩:=q
 cases em
 exact k us Hf H so.ext hf hx hl rd
theorem zj1 (hc : Cls X.K (c cn)) (hn : zdn X.K (c cn) fl) (ho : PE X o (zei 0)) (he : DE c X e m) (h : DSI c X cn sts fs) (hs : swapsWith e (some (.Attribute o fl pos')) pos.line X.env = pure false:=by rfl) :
  DSI c X cn (.Assign [.Attribute o fl pos'] e pos :: sts) ((fl,m) :: fs):=PSs.imp (ztq (zyq ho he hs) h) fun E σ H q=>by
 obtain ⟨x,dx,Hf0,H0,Hf,ρ,ns,us,ds,r,e0,no,so,h0,hf,hx,hl,hz,rd,em,k⟩:=q
 unfold zll at em
 cases e1 : m ρ with
 | none=>rw [e1] at em; cases em
 | some d =>
  rw [e1] at em
  replace em : (if ns.contains fl = true then none else zll fs ρ (ns ++ [fl]) (ds ++ [d])) = some r:=em
  split at em
  ·cases em
  ·rename_i hnc
   have hnc : ns.contains fl = false:=by simpa using hnc
   refine ⟨Hf0,H0,Hf,ρ,d,so,e1,fun v Hf' H' xx rv=>⟨_,e0,x,c cn,dx,ns.zip us,rfl,xx.h _ _ hx,hc,hn,?_,?_⟩⟩
   ·have h1:=List.length_zip (l₁:=ns) (l₂:=us)
    rw [List.length_cons] at hz
    omega
   ·have hf' : Hf' x = none:=by rw [xx.n _ _ hx rfl]; exact hf
    have so':=so.step xx
    have so2 : za0 (Gx c X) Hf0 H0 Hf' (upd H' x (.ins (c cn) dx (zd0 fl v (ns.zip us)))) σ ρ:=by
     refine ⟨⟨so'.ext.f,fun b u e=>?_,fun b u e=>?_,so'.ext.n⟩,so'.len,fun i w s a b=>?_,so'.inj⟩
     ·rw [zb0 (zdq e h0)]; exact so'.ext.h b u e
     ·rw [zb0 (zdq e hf')]; exact so'.ext.s b u e
     ·have hs:=no s (List.mem_of_getElem? b)
      have q:=so'.at' i w s a b
      cases s with
      | no=>trivial
      | im d=>exact q
      | _=>cases hs
    refine ⟨x,dx,Hf0,H0,Hf',ρ,ns ++ [fl],us ++ [v],ds ++ [d],r,e0,no,so2,h0,hf',?_,by rw [List.length_append,List.length_append,hl]; rfl,by rw [List.length_cons] at hz; rw [List.length_append,List.length_singleton]; omega,(rd.up xx.f).append (.cons rv .nil),em,k⟩
    rw [zcg,zl9 hl hnc]
end
noncomputable def del (H : Hp) (x : Addr) : Hp:=fun b=>if b = x then none else H b
theorem zui {H : Hp} {x : Addr} : del H x x = none:=if_pos rfl
theorem zur {H : Hp} {x b : Addr} (h : b ≠ x) : del H x b = H b:=if_neg h
noncomputable def zlj (n : Nat) (fs : List (Str × (List Sl -> Option D))) (as : List D) : Option (List Str × List D):=zll fs (.no :: (as.map .im ++ List.replicate (n - 1 - as.length) .no)) [] []
noncomputable def spI (G : Gc) (cn : Str) (n : Nat) (m : List D -> Option (List Str × List D)) : Sp:=fun vs H Q _=>∃ x dx Hf as vs' r,vs = .ref x :: vs' /\ H x = some (.ins (G.cl cn) dx []) /\ Hf x = none /\ za5 Hf H /\ zas G Hf as vs' /\ as.length + 1 = n /\ m as = some r /\
 ∀ us Hf' H',Ext Hf (del H x) Hf' H' -> Hf' x = none -> H' x = some (.ins (G.cl cn) dx (r.1.zip us)) -> r.1.length = us.length -> zas G Hf' r.2 us -> Q .non H'
section
variable {P : Program} {w : World} {K : PySem.W.Frag} {mg : Str -> Option Value} {base : Heap} {c : Str -> Addr}
theorem zni {x qual cn : Str} {st : Stmt} {f : Addr} {fd : FuncData} {N ps : List Str} {k : Nat} {fs : List (Str × (List Sl -> Option D))} (Fn : Fun K x qual st f fd) (S : zba N ps (zao st))
  (h : ∀ (cdv : Value) (A : Around) (outer : List Env) (s : Shared) (H : Hp) (E : XK),zce k (A.deeper (envOfC qual (zao st) s.heap.objs.size f cdv)) -> DSI c (zgb CX0 P w K mg base N qual (zao st) f cdv A outer s H E).nox cn (za9 st) fs)
  (hz : fs.length <= 900:=by decide) : zax P w K mg base CX0 (k + 1) f fd ps (spI ⟨K,c⟩ cn ps.length (zlj N.length fs)):=by
 refine Fn.ok S (fun vs H Q E q=>by obtain ⟨x,dx,Hf,as,vs',r,ev,_,_,_,ra,hl,_⟩:=q; subst ev; rw [List.length_cons,<- ra.length]; exact hl) fun cdv A outer s H vs Q E hr q=>⟨_,h cdv A outer s H E hr,?_⟩
 obtain ⟨x,dx,Hf,as,vs',r,ev,hx,hf,s0,ra,hl,e,kq⟩:=q
 subst ev
 have la:=ra.length
 have im : ∀ (i : Nat) (s : Sl),(Sl.no :: (as.map Sl.im ++ List.replicate (N.length - 1 - as.length) .no))[i]? = some s -> s = .no \/ ∃ d j,i = j + 1 /\ as[j]? = some d /\ s = .im d:=fun i s b=>by
  cases i with
  | zero=>left; simpa using b.symm
  | succ i =>
   rw [List.getElem?_cons_succ] at b
   by_cases hi : i < as.length
   ·rw [List.getElem?_append_left (by simpa using hi)] at b
    obtain ⟨d,ed,es⟩:=zif b
    exact .inr ⟨d,i,rfl,ed,es⟩
   ·rw [List.getElem?_append_right (by simpa using Nat.le_of_not_lt hi)] at b
    obtain ⟨_,e⟩:=List.getElem?_eq_some_iff.mp b
    rw [List.getElem_replicate] at e
    exact .inl e.symm
 have no : ∀ s ∈ (Sl.no :: (as.map Sl.im ++ List.replicate (N.length - 1 - as.length) .no)),Sl.isOwn s = false:=fun s hs=>by
  obtain ⟨i,hi⟩:=List.getElem?_of_mem hs
  rcases im i s hi with e | ⟨d,_,_,_,e⟩ <;> (subst e; rfl)
 refine ⟨x,dx,Hf,del H x,Hf,_,[],[],[],r,rfl,no,⟨⟨za5.refl _,fun b o e=>?_,s0,fun _ _ _ _=>rfl⟩,?_,fun i v s a b=>?_,fun i j s t l a b hs ht _ _=>?_⟩,zui,hf,hx,rfl,by simpa using hz,rfl,e,fun us Hf' H' xx h1 h2 h3 h4=>kq us Hf' H' xx h1 h2 h3 h4⟩
 ·by_cases hb : b = x
  ·subst hb; rw [zui] at e; cases e
  ·rw [zur hb] at e; exact e
 ·unfold L2.start
  simp only [List.length_append,List.length_map,List.length_cons,List.length_replicate]
  omega
 ·rcases im i s b with e | ⟨d,j,ei,ed,es⟩
  ·subst e; trivial
  ·subst es ei
   obtain ⟨u,eu,ru⟩:=ra.get ed
   refine ⟨u,?_,ru⟩
   have hi : j < vs'.length:=(List.getElem?_eq_some_iff.mp eu).1
   unfold L2.start at a
   rw [List.map_cons,List.cons_append,List.getElem?_cons_succ,List.getElem?_append_left (by simpa using hi),List.getElem?_map,eu] at a
   exact (Option.some.inj a).symm
 ·have:=no s (List.mem_of_getElem? a)
  rw [this] at hs; cases hs
end
section
variable {c : Str -> Addr} {X : Cx} {k : Nat} {f : Addr} {fd : FuncData} {ps : List Str} {x cn : Str} {p pos : Pos} {e : Expr} {es : List Expr} {fa : List Sl -> Option (List D)}
noncomputable def zi1 (cn : Str) (m : List D -> Option (List Str × List D)) (fa : List Sl -> Option (List D)) (ρ : List Sl) : Option D:=(fa ρ).bind fun as=>(m as).map fun r=>.ins cn r.1 r.2
theorem zno {m : List D -> Option (List Str × List D)} (cn : Str) (M : Mk X.K (c cn) f) (F : zax X.prog X.w X.K X.mg X.base CX0 k f fd ps (spI (Gx c X) cn ps.length m)) (hr : zce (k + 1) X.A) (hg : Gl X x) (hm : X.mg x = some (.ref (c cn))) (hb : za2 X.K fd ps []) (ha : DA c X (e :: es) fa)
  (hl : (e :: es).length + 1 = ps.length:=by rfl) (hdb : (x == ("__debug__" : Str)) = false:=by decide) (he : starEach (e :: es) X.env = (false,eval e X.env) :: starEach es X.env:=by rfl) (hpl : (backTo pos (starEach es X.env)).any (·.1) = false:=by rfl) :
  DE c X (.Call (.Name x p) (e :: es) [] pos) (zi1 cn m fa):=PE.imp (z81 M F hr hg hm hb .nil zg6 ha.pa hdb he hpl) fun σ H Q q_=>by
 obtain ⟨Hf0,H0,Hf,ρ,d,st,ef,kq⟩:=q_
 unfold zi1 at ef
 cases e1 : fa ρ with
 | none=>rw [e1] at ef; cases ef
 | some as =>
  rw [e1] at ef
  replace ef : (m as).map _ = _:=ef
  cases e2 : m as with
  | none=>rw [e2] at ef; cases ef
  | some r =>
   rw [e2] at ef
   cases ef
   refine ⟨Hf0,H0,Hf,ρ,as,st,e1,fun vs Hf' H' xx rv y dx ny ndx nex=>?_⟩
   try dsimp only
   rw [List.append_nil]
   have hy : (upd H' dx (.own y)) y = none:=by rw [zb0 nex.symm]; exact ny
   have s1 : za5 H' (upd H' dx (.own y)):=zc2 ndx
   have s2:=s1.trans (zc2 (o:=.ins (c cn) dx []) hy)
   have s3 : za5 H' (del (upd (upd H' dx (.own y)) y (.ins (c cn) dx [])) y):=fun b u q=>by
    have:=zdq q ny
    rw [zur this]
    exact s2 b u q
   refine ⟨y,dx,Hf',as,vs,r,rfl,zcg,xx.s.free ny,xx.s.trans s2,rv,by rw [ha.len ρ as e1]; exact hl,e2,fun us Hf2 H2 x2 hf2 hy2 hlen r2=>⟨rfl,?_⟩⟩
   have x3 : Ext Hf' H' Hf2 H2:=⟨x2.f,s3.trans x2.h,x2.s,fun l u q t=>x2.n l u (s3 l u q) t⟩
   exact kq _ _ H2 ((xx.trans x3).fix (xx.h.free ny) hf2 hy2) ⟨y,dx,us,rfl,zcg,hlen,r2.up (zc2 hf2)⟩
end
theorem zcr {F F' : List Sl -> Option Fl} {ρ ρ' : List Sl} {r : Option Fl} (h : F ρ = some (.nx ρ')) (h' : F' ρ' = r) : zai F F' ρ = r:=by
 unfold zai
 rw [h]
 exact h'
theorem zew {F F' : List Sl -> Option Fl} {ρ : List Sl} {d : D} (h : F ρ = some (.rt d)) : zai F F' ρ = some (.rt d):=by
 unfold zai
 rw [h]
 rfl
theorem zez {t : List Sl -> Option Bool} {F F' : List Sl -> Option Fl} {ρ : List Sl} {r : Option Fl} (h : t ρ = some true) (h' : F ρ = r) : za4 t F F' ρ = r:=by
 unfold za4
 rw [h]
 exact h'
theorem zc1 {t : List Sl -> Option Bool} {F F' : List Sl -> Option Fl} {ρ : List Sl} {r : Option Fl} (h : t ρ = some false) (h' : F' ρ = r) : za4 t F F' ρ = r:=by
 unfold za4
 rw [h]
 exact h'
theorem zt5 {i : Nat} {f : List Sl -> Option D} {ρ : List Sl} {d : D} (h : f ρ = some d) : zbd i f ρ = some (.nx (ρ.set i (.im d))):=by
 unfold zbd
 rw [h]
 rfl
theorem z46 {i : Nat} {f : List Sl -> Option (List D)} {ρ : List Sl} {d : List D} (h : f ρ = some d) : zdb i f ρ = some (.nx (ρ.set i (.own d))):=by
 unfold zdb
 rw [h]
 rfl
theorem zcj {f : List Sl -> Option D} {ρ : List Sl} {d : D} (h : f ρ = some d) : zav f ρ = some (.rt d):=by
 unfold zav
 rw [h]
 rfl
theorem zcb {n : Nat} {F : List Sl -> Option Fl} {ds : List D} {d : D} (h : F (zdx n ds) = some (.rt d)) : zbk n F ds = some d:=by
 unfold zbk
 rw [h]
 rfl
theorem zjy {n : Nat} {F : List Sl -> Option Fl} {ds : List D} {d : List D} (h : F (zdx n ds) = some (.rtO d)) : zbk n F ds = some (.lst d):=by
 unfold zbk
 rw [h]
 rfl
theorem zau {m : List D -> Option D} {f : List Sl -> Option (List D)} {ρ : List Sl} {ds : List D} {d : D} (h : f ρ = some ds) (h' : m ds = some d) : zap m f ρ = some d:=by
 unfold zap
 rw [h]
 exact h'
theorem zqj {α : Type} {h : D -> Option (Option D)} (f : α -> D) (p : α -> Bool) (q : α -> D) : ∀ (xs : List α),(∀ x ∈ xs,h (f x) = some (if p x then some (q x) else none)) -> zeu h (xs.map f) = some ((xs.filter p).map q)
 | [],_=>rfl
 | x :: xs,hh=>by
  rw [List.map_cons]
  unfold zeu
  rw [hh x List.mem_cons_self,zqj f p q xs fun y hy=>hh y (List.mem_cons_of_mem _ hy)]
  cases hp : p x with
  | true=>rw [List.filter_cons_of_pos hp]; rfl
  | false=>rw [List.filter_cons_of_neg (by rw [hp]; exact Bool.false_ne_true)]; rfl
theorem z7e {α : Type} {h : D -> Option (Option D)} (f : α -> D) (q : α -> D) (xs : List α) (hh : ∀ x ∈ xs,h (f x) = some (some (q x))) : zeu h (xs.map f) = some (xs.map q):=by
 have:=zqj (h:=h) f (fun _=>true) q xs fun x hx=>(hh x hx).trans rfl
 rw [this,List.filter_eq_self.mpr fun _ _=>rfl]
theorem zd3 {α : Type} {k : Nat} {js : List Nat} {fi : List Sl -> Option (List D)} {g : D -> List Sl -> Option (List Sl)} {ft : List Sl -> Option Bool} {fe : List Sl -> Option D} {ρ : List Sl} (xs : List α) (f : α -> D) (p : α -> Bool) (q : α -> D)
  (hi : fi ρ = some (xs.map f)) (hz : xs.length <= 16777216) (hh : ∀ x ∈ xs,zfc g ft fe (zdi k js ρ) (f x) = some (if p x then some (q x) else none)) : za7 k js fi g ft fe ρ = some ((xs.filter p).map q):=by
 unfold za7
 rw [hi]
 show (if (xs.map f).length <= 16777216 then _ else none) = _
 rw [List.length_map,if_pos hz]
 exact zqj f p q xs hh
theorem zcs {α : Type} {k : Nat} {js : List Nat} {fi : List Sl -> Option (List D)} {g : D -> List Sl -> Option (List Sl)} {ft : List Sl -> Option Bool} {fe : List Sl -> Option D} {ρ : List Sl} (xs : List α) (f : α -> D) (q : α -> D)
  (hi : fi ρ = some (xs.map f)) (hz : xs.length <= 16777216) (hh : ∀ x ∈ xs,zfc g ft fe (zdi k js ρ) (f x) = some (some (q x))) : za7 k js fi g ft fe ρ = some (xs.map q):=by
 unfold za7
 rw [hi]
 show (if (xs.map f).length <= 16777216 then _ else none) = _
 rw [List.length_map,if_pos hz]
 exact z7e f q xs hh
theorem zvd {α : Type} {g : D -> List Sl -> Option (List Sl)} {F : List Sl -> Option Fl} (f : α -> D) (I : List α -> List Sl -> Prop) : ∀ (post pre : List α) (ρ : List Sl),I pre ρ ->
  (∀ pre' x post' ρ,pre ++ post = pre' ++ x :: post' -> I pre' ρ -> ∃ ρ1 ρ2,g (f x) ρ = some ρ1 /\ (F ρ1 = some (.nx ρ2) \/ F ρ1 = some (.ct ρ2)) /\ I (pre' ++ [x]) ρ2) -> ∃ ρ',zfk g F (post.map f) ρ = some (.nx ρ') /\ I (pre ++ post) ρ'
 | [],pre,ρ,h,_=>⟨ρ,rfl,by rw [List.append_nil]; exact h⟩
 | x :: post,pre,ρ,h,hs=>by
  obtain ⟨ρ1,ρ2,e1,e2,h2⟩:=hs pre x post ρ rfl h
  obtain ⟨ρ',e3,h3⟩:=zvd f I post (pre ++ [x]) ρ2 h2 (by rw [List.append_assoc]; exact hs)
  refine ⟨ρ',?_,by rw [List.append_assoc] at h3; exact h3⟩
  rw [List.map_cons]
  unfold zfk
  rw [e1]
  show (F ρ1).bind _ = _
  rcases e2 with e2 | e2
  ·rw [e2]; exact e3
  ·rw [e2]; exact e3
theorem z3x {α : Type} {fi : List Sl -> Option (List D)} {g : D -> List Sl -> Option (List Sl)} {F : List Sl -> Option Fl} {ρ : List Sl} (xs : List α) (f : α -> D) (I : List α -> List Sl -> Prop) (hi : fi ρ = some (xs.map f)) (h0 : I [] ρ)
  (hs : ∀ pre x post ρ,xs = pre ++ x :: post -> I pre ρ -> ∃ ρ1 ρ2,g (f x) ρ = some ρ1 /\ (F ρ1 = some (.nx ρ2) \/ F ρ1 = some (.ct ρ2)) /\ I (pre ++ [x]) ρ2) : ∃ ρ',zc5 fi g F ρ = some (.nx ρ') /\ I xs ρ':=by
 unfold zc5
 rw [hi]
 exact zvd f I xs [] ρ h0 hs
theorem z1c (lo : Int) (n : Nat) : rng lo n = (List.range n).map fun (i : Nat)=>D.int (lo + i):=rfl
theorem zsg {ns : List Int} : zd2 [.lst (ns.map D.int)] = some (.int ns.sum):=by
 unfold zd2 lsD
 show (zex (ns.map D.int)).map _ = _
 rw [z7m]
 rfl
theorem zb4 {α : Type} {f : α -> D} {xs : List α} {i : Int} (h0 : 0 <= i) (h1 : i < xs.length) : ∃ x,xs[i.toNat]? = some x /\ atI (xs.map f) i = some (f x):=by
 have hl : i.toNat < xs.length:=by omega
 refine ⟨xs[i.toNat],by simp [hl],?_⟩
 have:=z7n (xs:=xs.map f) (j:=i.toNat) (v:=f xs[i.toNat]) (by simp [hl])
 rw [show ((i.toNat : Nat) : Int) = i by omega] at this
 exact this
theorem zt4 {α : Type} {f : α -> D} {xs : List α} {i : Int} (d : α) (h0 : 0 <= i) (h1 : i < xs.length) : atI (xs.map f) i = some (f (xs.getD i.toNat d)):=by
 obtain ⟨x,e1,e2⟩:=zb4 (f:=f) h0 h1
 rw [e2,List.getD_eq_getElem?_getD,e1]
 rfl
noncomputable def zc0 : Nat -> D -> Prop
 | 0,_=>False
 | n + 1,d=>match d with
  | .lst xs=>∀ x ∈ xs,zc0 n x
  | .tup xs=>∀ x ∈ xs,zc0 n x
  | d=>d.scalar = true
theorem zow {f : D -> D -> Option Bool} : ∀ (xs : List D),(∀ x ∈ xs,f x x = some true) -> zcw f xs xs = some true
 | [],_=>rfl
 | x :: xs,h=>by
  unfold zcw
  rw [h x List.mem_cons_self,zow xs fun y hy=>h y (List.mem_cons_of_mem _ hy)]
  rfl
theorem zrs : ∀ (n : Nat) (d : D),zc0 n d -> deq n d d = some true
 | 0,_,h=>h.elim
 | n + 1,d,h=>by
  show zne (deq n) d d = some true
  cases d with
  | lst xs =>
   show (if xs.length = xs.length then zcw (deq n) xs xs else some false) = _
   rw [if_pos rfl]
   exact zow xs fun x hx=>zrs n x (h x hx)
  | tup xs =>
   show (if xs.length = xs.length then zcw (deq n) xs xs else none) = _
   rw [if_pos rfl]
   exact zow xs fun x hx=>zrs n x (h x hx)
  | non=>rfl
  | bl b=>show some (b == b) = _; rw [beq_self_eq_true]
  | int b=>show some (b == b) = _; rw [beq_self_eq_true]
  | str b=>show some (b == b) = _; rw [beq_self_eq_true]
  | _=>cases h
theorem zc0.mono : ∀ (n : Nat) (d : D),zc0 n d -> zc0 (n + 1) d
 | 0,_,h=>h.elim
 | n + 1,d,h=>by
  cases d with
  | lst xs=>exact fun x hx=>zc0.mono n x (h x hx)
  | tup xs=>exact fun x hx=>zc0.mono n x (h x hx)
  | _=>exact h
theorem zc0.le {n m : Nat} {d : D} (h : zc0 n d) (hm : n <= m) : zc0 m d:=by
 induction hm with
 | refl=>exact h
 | step _ ih=>exact zc0.mono _ _ ih
theorem zwj {d : D} (h : zc0 20 d) : dEq d d = some (.bl true):=by
 unfold dEq
 rw [zrs 20 d h]
 rfl
theorem zdt (i j : Int) : dEq (.int i) (.int j) = some (.bl (i == j)):=rfl
theorem zng (i j : Str) : dEq (.str i) (.str j) = some (.bl (i == j)):=rfl
theorem zvr (i j : Int) : dNe (.int i) (.int j) = some (.bl (!(i == j))):=rfl
theorem z28 (i j : Bool) : dNe (.bl i) (.bl j) = some (.bl (!(i == j))):=rfl
theorem zar {m : D -> D -> Option D} {f g : List Sl -> Option D} {ρ : List Sl} {x y d : D} (h1 : f ρ = some x) (h2 : g ρ = some y) (h3 : m x y = some d) : m2 m f g ρ = some d:=by
 unfold m2
 rw [h1,h2]
 exact h3
theorem zb1 {f : List Sl -> Option D} {ρ : List Sl} {b : Bool} (h : f ρ = some (.bl b)) : mB f ρ = some b:=by
 unfold mB
 rw [h]
 rfl
theorem zde {f : List Sl -> Option D} {ρ : List Sl} {d : D} {b : Bool} (h : f ρ = some d) (h' : zre d = some b) : zcn f ρ = some b:=by
 unfold zcn
 rw [h]
 exact h'
theorem zfo {f : List Sl -> Option Bool} {ρ : List Sl} {b : Bool} (h : f ρ = some b) : zd9 f ρ = some (!b):=by
 unfold zd9
 rw [h]
 rfl
theorem zh7 {f g : List Sl -> Option Bool} {ρ : List Sl} {r : Option Bool} (h : f ρ = some true) (h' : g ρ = r) : zdp f g ρ = r:=by
 unfold zdp
 rw [h]
 exact h'
theorem zlg {f g : List Sl -> Option Bool} {ρ : List Sl} (h : f ρ = some false) : zdp f g ρ = some false:=by
 unfold zdp
 rw [h]
 rfl
theorem zlr {f g : List Sl -> Option Bool} {ρ : List Sl} (h : f ρ = some true) : mOr f g ρ = some true:=by
 unfold mOr
 rw [h]
 rfl
theorem zhl {f g : List Sl -> Option Bool} {ρ : List Sl} {r : Option Bool} (h : f ρ = some false) (h' : g ρ = r) : mOr f g ρ = r:=by
 unfold mOr
 rw [h]
 exact h'
theorem zie {f g : List Sl -> Option Bool} {ρ : List Sl} {a b : Bool} (h : f ρ = some a) (h' : g ρ = some b) : zdp f g ρ = some (a && b):=by
 cases a with
 | true=>exact zh7 h h'
 | false=>exact zlg h
theorem zmn {f g : List Sl -> Option Bool} {ρ : List Sl} {a b : Bool} (h : f ρ = some a) (h' : g ρ = some b) : mOr f g ρ = some (a || b):=by
 cases a with
 | true=>exact zlr h
 | false=>exact zhl h h'
theorem zhn {f g : List Sl -> Option D} {ρ : List Sl} {a b : Bool} (h : f ρ = some (.bl a)) (h' : g ρ = some (.bl b)) : zd6 f g ρ = some (.bl (a && b)):=by
 unfold zd6
 rw [zb1 h]
 cases a with
 | true=>exact h'
 | false=>rfl
theorem zoo {f g : List Sl -> Option D} {ρ : List Sl} {a b : Bool} (h : f ρ = some (.bl a)) (h' : g ρ = some (.bl b)) : vOr f g ρ = some (.bl (a || b)):=by
 unfold vOr
 rw [zb1 h]
 cases a with
 | true=>rfl
 | false=>exact h'
theorem zf9 {f : List Sl -> Option D} {ρ : List Sl} {a : Bool} (h : f ρ = some (.bl a)) : zfb f ρ = some (.bl (!a)):=by
 unfold zfb
 rw [zb1 h]
 rfl
theorem zad {f : List Sl -> Option D} {g : List Sl -> Option (List D)} {ρ : List Sl} {d : D} {ds : List D} (h : f ρ = some d) (h' : g ρ = some ds) : zab f g ρ = some (d :: ds):=by
 unfold zab
 rw [h,h']
 rfl
theorem zb7 {f : List Sl -> Option (List D)} {ρ : List Sl} {ds : List D} (h : f ρ = some ds) : zbm f ρ = some (.tup ds):=by
 unfold zbm
 rw [h]
 rfl
theorem zat {f : List Sl -> Option (List D)} {ρ : List Sl} {ds : List D} (h : f ρ = some ds) : zal f ρ = some (.lst ds):=by
 unfold zal
 rw [h]
 rfl
theorem zak {f : List Sl -> Option (List D)} {g : List Sl -> Option D} {ρ : List Sl} {ds : List D} {i : Int} {r : Option D} (h : f ρ = some ds) (h' : g ρ = some (.int i)) (h2 : atI ds i = r) : mIx f g ρ = r:=by
 unfold mIx
 rw [h,h']
 exact h2
theorem zmp {C : Int -> Int -> Prop} [∀ i j,Decidable (C i j)] {g : Int -> Int -> D} {i j : Int} (h : C i j) : dI C g (.int i) (.int j) = some (g i j):=by
 show (if C i j then some (g i j) else none) = _
 rw [if_pos h]
theorem z6n {i : Nat} {f : List Sl -> Option D} {ρ : List Sl} {d : D} {xs : List D} (h : f ρ = some d) (h' : ρ[i]? = some (.own xs)) (hl : xs.length < 16777216) : ze9 i f ρ = some (.nx (ρ.set i (.own (xs ++ [d])))):=by
 unfold ze9
 rw [h]
 show (match ρ[i]? with | some (.own xs)=>if xs.length < 16777216 then some (Fl.nx (ρ.set i (.own (xs ++ [d])))) else none | _=>none) = _
 rw [h']
 show (if xs.length < 16777216 then _ else none) = _
 rw [if_pos hl]
theorem zd1 {g : D -> List Sl -> Option (List Sl)} {ft : List Sl -> Option Bool} {fe : List Sl -> Option D} {ρ ρ1 : List Sl} {d y : D} {b : Bool} (h1 : g d ρ = some ρ1) (h2 : ft ρ1 = some b) (h3 : b = true -> fe ρ1 = some y) : zfc g ft fe ρ d = some (if b then some y else none):=by
 unfold zfc
 rw [h1]
 show (ft ρ1).bind _ = _
 rw [h2]
 show (if b = true then (fe ρ1).map some else some none) = _
 cases b with
 | true=>rw [h3 rfl]; rfl
 | false=>rfl
theorem zcp {g : D -> List Sl -> Option (List Sl)} {ft : List Sl -> Option Bool} {fe : List Sl -> Option D} {ρ ρ1 : List Sl} {d y : D} (h1 : g d ρ = some ρ1) (h2 : ft ρ1 = some true) (h3 : fe ρ1 = some y) : zfc g ft fe ρ d = some (some y):=zd1 h1 h2 fun _=>h3
theorem zcq {f : List Sl -> Option D} {ρ : List Sl} {d : D} {ds : List D} (h : f ρ = some d) (h' : zha d = some ds) : zbl f ρ = some ds:=by
 unfold zbl
 rw [h]
 exact h'
theorem zjp {f g : List Sl -> Option D} {ρ : List Sl} {d : D} (h : f ρ = some d) : zd4 f g ρ = some d:=by
 unfold zd4
 rw [h]
 rfl
theorem zfp {f g : List Sl -> Option D} {ρ : List Sl} {r : Option D} (h : f ρ = none) (h' : g ρ = r) : zd4 f g ρ = r:=by
 unfold zd4
 rw [h]
 exact h'
theorem ze2 {f : List Sl -> Option (List D)} {ρ : List Sl} {n : Int} (h : f ρ = some [.int n]) (h0 : 0 <= n) (h1 : n < 2 ^ 62) : zdm f ρ = some ((List.range n.toNat).map fun (i : Nat)=>D.int i):=by
 unfold zdm
 rw [h]
 show (if -(2 ^ 62) <= n /\ n < 2 ^ 62 then some (rng 0 n.toNat) else none) = _
 rw [if_pos ⟨by omega,h1⟩,z1c]
 congr 1
 refine List.map_congr_left fun i _=>?_
 rw [Int.zero_add]
theorem zhu {cn f : Str} {m : List D -> Option D} {fo : List Sl -> Option D} {fa : List Sl -> Option (List D)} {ρ : List Sl} {ns : List Str} {ds as : List D} (h : fo ρ = some (.ins cn ns ds)) (hn : ns.contains f = false) (h' : fa ρ = some as) : zdf cn f m fo fa ρ = m (.ins cn ns ds :: as):=by
 unfold zdf
 rw [h]
 show (if cn = cn /\ ns.contains f = false then (fa ρ).bind fun as=>m (.ins cn ns ds :: as) else none) = _
 rw [if_pos ⟨rfl,hn⟩,h']
 rfl
theorem zfj {cn f c' : Str} {m : List D -> Option D} {fo : List Sl -> Option D} {fa : List Sl -> Option (List D)} {ρ : List Sl} {ns : List Str} {ds : List D} (h : fo ρ = some (.ins c' ns ds)) (hn : c' ≠ cn) : zdf cn f m fo fa ρ = none:=by
 unfold zdf
 rw [h]
 show (if c' = cn /\ ns.contains f = false then (fa ρ).bind fun as=>m (.ins c' ns ds :: as) else none) = _
 rw [if_neg fun z=>hn z.1]
noncomputable def itD (z : Int × Int) : D:=.tup [.int z.1,.int z.2]
noncomputable def shD : Option Bool -> D
 | none=>.non
 | some b=>.bl b
noncomputable def InN (n : Nat) (its : List (Int × Int)) : Prop:=∀ z ∈ its,0 <= z.1 /\ z.1 < (n : Int) /\ 0 <= z.2
theorem zsq (bs : List Int) : zc0 2 (.lst (bs.map D.int)):=fun x hx=>by
 obtain ⟨b,_,rfl⟩:=List.mem_map.mp hx
 exact rfl
theorem z1h (z : Int × Int) : zc0 2 (itD z):=fun x hx=>by
 simp only [List.mem_cons,List.not_mem_nil,or_false] at hx
 rcases hx with rfl | rfl <;> exact rfl
theorem zvu (its : List (Int × Int)) : zc0 3 (.lst (its.map itD)):=fun x hx=>by
 obtain ⟨z,_,rfl⟩:=List.mem_map.mp hx
 exact z1h z
theorem zdd {es : List (Option Bool)} {i : Int} (h0 : 0 <= i) (h1 : i < es.length) : atI (es.map shD) i = some (shD (es.getD i.toNat none)):=zt4 none h0 h1
theorem zf0 {es : List Bool} {i : Int} (h0 : 0 <= i) (h1 : i < es.length) : atI (es.map D.bl) i = some (.bl (es.getD i.toNat false)):=zt4 false h0 h1
theorem zep (e : Option Bool) (b : Bool) : dIs (shD e) (.bl b) = some (.bl (e == some b)):=by
 cases e with
 | none=>rfl
 | some c=>cases b <;> cases c <;> rfl
theorem zjl (e : Option Bool) (b : Bool) : zdl (shD e) (.bl b) = some (.bl (!(e == some b))):=by
 cases e with
 | none=>rfl
 | some c=>cases b <;> cases c <;> rfl
noncomputable def Prt.toD : Prt -> D
 | .inn t=>.tup [.str "in",.int t]
 | .out t=>.tup [.str "out",.int t]
 | .least k its=>.tup [.str "least",.int k,.lst (its.map itD)]
 | .most k its=>.tup [.str "most",.int k,.lst (its.map itD)]
noncomputable def Prt.obj : Prt -> D
 | .inn t=>.ins "In" ["thing"] [.int t]
 | .out t=>.ins "Out" ["thing"] [.int t]
 | .least k its=>.ins "Least" ["bound","pieces"] [.int k,.lst (its.map itD)]
 | .most k its=>.ins "Most" ["bound","pieces"] [.int k,.lst (its.map itD)]
noncomputable def Prt.Ok (n : Nat) : Prt -> Prop
 | .inn t=>0 <= t /\ t < (n : Int)
 | .out t=>0 <= t /\ t < (n : Int)
 | .least _ its=>InN n its /\ its.length <= 100000
 | .most _ its=>InN n its /\ its.length <= 100000
theorem zx2 (p : Prt) : zc0 4 p.toD:=by
 cases p with
 | inn t=>intro x hx; simp only [List.mem_cons,List.not_mem_nil,or_false] at hx; rcases hx with rfl | rfl <;> exact rfl
 | out t=>intro x hx; simp only [List.mem_cons,List.not_mem_nil,or_false] at hx; rcases hx with rfl | rfl <;> exact rfl
 | least k its =>
  intro x hx
  simp only [List.mem_cons,List.not_mem_nil,or_false] at hx
  rcases hx with rfl | rfl | rfl
  ·exact rfl
  ·exact rfl
  ·exact zvu its
 | most k its =>
  intro x hx
  simp only [List.mem_cons,List.not_mem_nil,or_false] at hx
  rcases hx with rfl | rfl | rfl
  ·exact rfl
  ·exact rfl
  ·exact zvu its
theorem z8n (p : Int -> Bool) (its : List (Int × Int)) : ((its.filter fun z=>p z.1).map fun z=>D.int z.2) = ((its.filter fun z=>p z.1).map (·.2)).map D.int:=by
 rw [List.map_map]
 rfl
theorem zh5 (p : Int -> Bool) (its : List (Int × Int)) : zd2 [.lst ((its.filter fun z=>p z.1).map fun z=>D.int z.2)] = some (.int (zfv p its)):=by
 rw [z8n,zsg]
 rfl
theorem zq4 : ∀ {bs : List Bool} {us : List Value},za8 (bs.map V.bl) us -> us = bs.map Value.bool
 | [],_,.nil=>rfl
 | b :: bs,_,.cons r t=>by
  rw [zq4 t]
  cases (show _ = Value.bool b from r)
  rfl
theorem zxk (bs : List Bool) : ((List.range bs.length).all fun i=>(bs[i]?).getD true) = bs.all id:=by
 rw [Bool.eq_iff_iff,List.all_eq_true,List.all_eq_true]
 constructor
 ·intro h b hb
  obtain ⟨i,hi,e⟩:=List.getElem_of_mem hb
  have:=h i (List.mem_range.mpr hi)
  simp only [List.getElem?_eq_getElem hi,Option.getD_some,e] at this
  exact this
 ·intro h i hi
  have hi':=List.mem_range.mp hi
  simp only [List.getElem?_eq_getElem hi',Option.getD_some]
  exact h _ (List.getElem_mem hi')
theorem z62 (bs : List Bool) : ((List.range bs.length).any fun i=>(bs[i]?).getD false) = bs.any id:=by
 rw [Bool.eq_iff_iff,List.any_eq_true,List.any_eq_true]
 constructor
 ·rintro ⟨i,hi,e⟩
  have hi':=List.mem_range.mp hi
  simp only [List.getElem?_eq_getElem hi',Option.getD_some] at e
  exact ⟨_,List.getElem_mem hi',e⟩
 ·rintro ⟨b,hb,e⟩
  obtain ⟨i,hi,rfl⟩:=List.getElem_of_mem hb
  exact ⟨i,List.mem_range.mpr hi,by simp only [List.getElem?_eq_getElem hi,Option.getD_some]; exact e⟩
section
variable {c : Str -> Addr} {X : Cx}
theorem ztj {h h' : Heap} {o : Obj} (hk : ∀ b x,b ∉ [h.objs.size] -> (h.push o).get? b = some x -> h'.get? b = some x) : ∀ b x,h.get? b = some x -> h'.get? b = some x :=
 fun b x e=>hk b x (fun hm=>by rw [List.mem_singleton.mp hm] at e; exact Nat.lt_irrefl _ (Heap.lt_size e)) (Heap.get?_push_of_some _ e)
theorem zz2 (hc : X.calm = true) : zf6 X (.builtin "all") (fun xs H Q=>∃ (p : Addr) (bs : List Bool),xs = [.ref p] /\ SqL X.K H p (bs.map V.bl) /\ Q (.bl (bs.all id)) H):=by
 intro pins s σ H xs us Q I r h
 obtain ⟨l,bs,rfl,hq,q⟩:=h
 obtain ⟨u,rfl,rx⟩:=zh6 r
 cases rx
 obtain ⟨its,r',pl,hz⟩:=I.list hq
 have e:=zq4 r'
 subst e
 have hl:=pl.isList
 have hlt : l < s.heap.objs.size:=by obtain ⟨_,e,_⟩:=hl; exact Heap.lt_size e
 refine call_all_walk (wpAny_pyIter_list hl ?_)
 refine ⟨s.heap.objs.size,[s.heap.objs.size,l],[s.heap.objs.size],(bs.map Value.bool).toArray.size,_,_,fun i=>(bs[i]?).getD true,rfl,Walks.list (A:=X.A.in1) (I.ok.hd hc) _ l (Nat.ne_of_lt hlt) (bs.map Value.bool).toArray,
  ⟨⟨_,Heap.get?_push_size _ rfl,rfl,rfl⟩,hl.push _⟩,fun i v s' Q' E' hP hQ=>?_,fun h' tk hk=>?_⟩
 ·have hP' : (bs.map Value.bool)[i]? = some v:=by simpa using hP
  obtain ⟨b,e,rfl⟩:=zif hP'
  simp only [e,Option.getD_some] at hQ
  exact wpAny_truthy_bool hQ
 ·have e : ((List.range (bs.map Value.bool).toArray.size).all fun i=>(bs[i]?).getD true) = bs.all id:=by
   rw [List.size_toArray,List.length_map]; exact zxk bs
  rw [e]
  exact ⟨.bl (bs.all id),H,I.kept (ztj hk),rfl,q⟩
theorem z40 (hc : X.calm = true) : zf6 X (.builtin "any") (fun xs H Q=>∃ (p : Addr) (bs : List Bool),xs = [.ref p] /\ SqL X.K H p (bs.map V.bl) /\ Q (.bl (bs.any id)) H):=by
 intro pins s σ H xs us Q I r h
 obtain ⟨l,bs,rfl,hq,q⟩:=h
 obtain ⟨u,rfl,rx⟩:=zh6 r
 cases rx
 obtain ⟨its,r',pl,hz⟩:=I.list hq
 have e:=zq4 r'
 subst e
 have hl:=pl.isList
 have hlt : l < s.heap.objs.size:=by obtain ⟨_,e,_⟩:=hl; exact Heap.lt_size e
 refine call_any_walk (wpAny_pyIter_list hl ?_)
 refine ⟨s.heap.objs.size,[s.heap.objs.size,l],[s.heap.objs.size],(bs.map Value.bool).toArray.size,_,_,fun i=>(bs[i]?).getD false,rfl,Walks.list (A:=X.A.in1) (I.ok.hd hc) _ l (Nat.ne_of_lt hlt) (bs.map Value.bool).toArray,
  ⟨⟨_,Heap.get?_push_size _ rfl,rfl,rfl⟩,hl.push _⟩,fun i v s' Q' E' hP hQ=>?_,fun h' tk hk=>?_⟩
 ·have hP' : (bs.map Value.bool)[i]? = some v:=by simpa using hP
  obtain ⟨b,e,rfl⟩:=zif hP'
  simp only [e,Option.getD_some] at hQ
  exact wpAny_truthy_bool hQ
 ·have e : ((List.range (bs.map Value.bool).toArray.size).any fun i=>(bs[i]?).getD false) = bs.any id:=by
   rw [List.size_toArray,List.length_map]; exact z62 bs
  rw [e]
  exact ⟨.bl (bs.any id),H,I.kept (ztj hk),rfl,q⟩
noncomputable def zem : List D -> Option (List Bool)
 | []=>some []
 | .bl b :: ds=>(zem ds).map fun r=>b :: r
 | _=>none
theorem ztv : ∀ {ds : List D} {bs : List Bool},zem ds = some bs -> ds = bs.map D.bl
 | [],_,e=>by cases e; rfl
 | .bl b :: ds,_,e=>by
  unfold zem at e
  cases es : zem ds with
  | none=>rw [es] at e; cases e
  | some r=>rw [es] at e; cases e; rw [ztv es]; rfl
 | .int _ :: _,_,e=>by cases e
 | .non :: _,_,e=>by cases e
 | .str _ :: _,_,e=>by cases e
 | .lst _ :: _,_,e=>by cases e
 | .tup _ :: _,_,e=>by cases e
 | .kl _ :: _,_,e=>by cases e
 | .kt _ :: _,_,e=>by cases e
 | .dic _ _ :: _,_,e=>by cases e
 | .ins _ _ _ :: _,_,e=>by cases e
theorem zm0 (bs : List Bool) : zem (bs.map D.bl) = some bs:=by
 induction bs with
 | nil=>rfl
 | cons n ns ih=>rw [List.map_cons,zem,ih]; rfl
theorem zas.bls {G : Gc} {H : Hp} : ∀ {bs : List Bool} {vs : List V},zas G H (bs.map D.bl) vs -> vs = bs.map V.bl
 | [],_,h=>h
 | b :: bs,_,⟨v,r,e,h1,h2⟩=>by
  subst e
  rw [zas.bls h2,show v = V.bl b from h1]
  rfl
noncomputable def zf5 : List D -> Option D
 | [d]=>(lsD d).bind fun ds=>(zem ds).map fun bs=>.bl (bs.all id)
 | _=>none
noncomputable def ze6 : List D -> Option D
 | [d]=>(lsD d).bind fun ds=>(zem ds).map fun bs=>.bl (bs.any id)
 | _=>none
theorem znl {f : List Bool -> D} {ds : List D} {d : D} (e : (match ds with | [d]=>(lsD d).bind fun ds=>(zem ds).map f | _=>none) = some d) : ∃ d0 xs bs,ds = [d0] /\ lsD d0 = some xs /\ xs = bs.map D.bl /\ d = f bs:=by
 split at e
 ·rename_i d0
  cases e1 : lsD d0 with
  | none=>rw [e1] at e; cases e
  | some xs =>
   rw [e1] at e
   replace e : (zem xs).map f = some d:=e
   cases e2 : zem xs with
   | none=>rw [e2] at e; cases e
   | some bs=>rw [e2] at e; cases e; exact ⟨d0,xs,bs,rfl,e1,ztv e2,rfl⟩
 ·cases e
theorem zla (hc : X.calm = true) : zmd c X (.builtin "all") zf5:=by
 rintro pins s σ H vs us Q I rv ⟨Hf,ds,d,s0,r,e,k⟩
 obtain ⟨d0,xs,bs,rfl,e1,rfl,rfl⟩:=znl e
 obtain ⟨v,ev,r1⟩:=r.one
 subst ev
 obtain ⟨a,ws,ea,q,rs⟩:=zgt e1 r1
 subst ea
 refine zz2 hc pins s σ H _ us Q I rv ⟨a,bs,rfl,?_,k _ Hf H (Ext.refl s0) rfl⟩
 rw [<- rs.bls]
 exact s0.seq q
theorem zhk (hc : X.calm = true) : zmd c X (.builtin "any") ze6:=by
 rintro pins s σ H vs us Q I rv ⟨Hf,ds,d,s0,r,e,k⟩
 obtain ⟨d0,xs,bs,rfl,e1,rfl,rfl⟩:=znl e
 obtain ⟨v,ev,r1⟩:=r.one
 subst ev
 obtain ⟨a,ws,ea,q,rs⟩:=zgt e1 r1
 subst ea
 refine z40 hc pins s σ H _ us Q I rv ⟨a,bs,rfl,?_,k _ Hf H (Ext.refl s0) rfl⟩
 rw [<- rs.bls]
 exact s0.seq q
theorem zli : ∀ ds d,zf5 ds = some d -> d.scalar = true:=fun ds d e=>by
 obtain ⟨d0,xs,bs,rfl,e1,rfl,rfl⟩:=znl e
 rfl
theorem zhx : ∀ ds d,ze6 ds = some d -> d.scalar = true:=fun ds d e=>by
 obtain ⟨d0,xs,bs,rfl,e1,rfl,rfl⟩:=znl e
 rfl
theorem z6i (bs : List Bool) : zf5 [.lst (bs.map D.bl)] = some (.bl (bs.all id)):=by
 show (zem (bs.map D.bl)).map _ = _
 rw [zm0]
 rfl
theorem zz5 (bs : List Bool) : ze6 [.lst (bs.map D.bl)] = some (.bl (bs.any id)):=by
 show (zem (bs.map D.bl)).map _ = _
 rw [zm0]
 rfl
end
inductive Wrd where
 | make | may | never
 deriving DecidableEq
noncomputable def Wrd.s : Wrd -> Str
 | .make=>"make"
 | .may=>"may"
 | .never=>"never"
structure Rul where
 w : Wrd
 hd : Int
 ps : List Prt
noncomputable def Rul.hdD (r : Rul) : D:=match r.w with
 | .never=>.non
 | _=>.int r.hd
noncomputable def Rul.toD (r : Rul) : D:=.tup [.str r.w.s,r.hdD,.lst (r.ps.map Prt.toD)]
structure Rul.Ok (n : Nat) (r : Rul) : Prop where
 hd : r.w ≠ .never -> 0 <= r.hd /\ r.hd < (n : Int)
 ps : ∀ p ∈ r.ps,p.Ok n
 len : r.ps.length <= 100000
theorem z2j (r : Rul) : zc0 6 r.toD:=by
 intro x hx
 simp only [List.mem_cons,List.not_mem_nil,or_false] at hx
 rcases hx with rfl | rfl | rfl
 ·exact rfl
 ·unfold Rul.hdD
  cases r.w <;> exact rfl
 ·intro x hx
  obtain ⟨p,_,rfl⟩:=List.mem_map.mp hx
  exact zx2 p
noncomputable def Rul.bodySure (r : Rul) (es : List (Option Bool)) : Bool:=r.ps.all fun p=>p.sure es
noncomputable def Rul.bodyLost (r : Rul) (es : List (Option Bool)) (ws : List Bool) : Bool:=r.ps.any fun p=>p.lost es ws
noncomputable def Rul.surely (r : Rul) (es : List (Option Bool)) : Bool:=match r.w with
 | .may=>false
 | .make=>(es.getD r.hd.toNat none == some false) && r.bodySure es
 | .never=>r.bodySure es
theorem zwe {α : Type} (f : α -> Bool) (xs : List α) : (xs.map fun x=>D.bl (f x)) = (xs.map f).map D.bl:=by
 rw [List.map_map]
 rfl
theorem all_map (f : Prt -> Bool) (xs : List Prt) : zf5 [.lst (xs.map fun x=>D.bl (f x))] = some (.bl (xs.all f)):=by
 rw [zwe,z6i,List.all_map]
 rfl
theorem any_map (f : Prt -> Bool) (xs : List Prt) : ze6 [.lst (xs.map fun x=>D.bl (f x))] = some (.bl (xs.any f)):=by
 rw [zwe,zz5,List.any_map]
 rfl
theorem z3m {l : List Bool} {i : Nat} (h : i < l.length) : (bs l).getD i none = some (l.getD i false):=by
 unfold bs
 rw [List.getD_eq_getElem?_getD,List.getD_eq_getElem?_getD,List.getElem?_map]
 simp [h]
noncomputable def Ite (K : PySem.W.Frag) (l : Addr) : It :=
  ⟨fun i H => ∃ xs x, SqL K H l xs /\ xs[i]? = some x,
   fun i H v H' => ∃ p x, v = .ref p /\ H p = none /\ H' = upd H p (.tup [.int i, x]) /\ (∀ xs, SqL K H l xs -> xs[i]? = some x),
   fun i H => ∃ xs, SqL K H l xs /\ xs.length <= i⟩
theorem z63 {P : Program} {w : World} {K : PySem.W.Frag} {elts : List Expr} {kx : Nat} {pos : Pos} (e it l : Addr) (ne : e ≠ it) :
  zh0 P w K (.Tuple elts kx pos) (Ite K l) [e,it] e (fun i h=>(∃ old,IsEnum h e it (i : Int) old) /\ h.IsListIter it l i) where
 mem:=by simp
 obj:=fun i h st b hb=>by
  obtain ⟨⟨old,he⟩,⟨o1,e1,_,d1⟩⟩:=st
  simp only [List.mem_cons,List.not_mem_nil,or_false] at hb
  rcases hb with rfl | rfl
  ·exact ⟨_,he,fun v q=>by cases q⟩
  ·exact ⟨o1,e1,fun v q=>by rw [d1] at q; cases q⟩
 keep:=fun i h h' st k=>by
  obtain ⟨⟨old,he⟩,h1⟩:=st
  exact ⟨⟨old,k e (by simp) _ he⟩,h1.at fun o q=>k it (by simp) o q⟩
 item:=by
  intro X hP hw hK hc i pins s σ H E I hf st hg
  subst hP hw hK
  obtain ⟨⟨old,he⟩,h1⟩:=st
  obtain ⟨xs,x,q1,hx⟩:=hg
  obtain ⟨its1,r1,p1,z1⟩:=I.list q1
  obtain ⟨u1,e1,ru1⟩:=r1.get hx
  refine wpAny_pyNext_enum_item he h1 p1.isList (x:=u1) (by simpa using e1) ne fun h' a1 a3 a5 a6 a7=>⟨_,rfl,?_⟩
  refine wpAny_letOwnedTupleGo_enum (s:={ s with heap:=h',toks:=s.toks + 1 }) a1 fun h'' b1 b2=>?_
  have lt : ∀ b ∈ [e,it],b < s.heap.objs.size:=fun b hb=>by
   simp only [List.mem_cons,List.not_mem_nil,or_false] at hb
   rcases hb with rfl | rfl
   ·exact Heap.lt_size he
   ·obtain ⟨o,e,_⟩:=h1; exact Heap.lt_size e
  have kk : ∀ b o,b ∉ [e,it] -> s.heap.get? b = some o -> h''.get? b = some o:=fun b o hb e=>by
   simp only [List.mem_cons,List.not_mem_nil,or_false,not_or] at hb
   obtain ⟨n1,n2⟩:=hb
   exact (b2.2 b n1).trans (a7 b o n1 n2 e)
  have fr : H s.heap.objs.size = none:=I.hok.fresh (Nat.le_refl _)
  have I1 : Inv X pins σ H { s with heap:=h'',toks:=s.toks + 1 }:=I.turnedMany (t':=s.toks + 1) kk hf
  have hp : h''.get? s.heap.objs.size = some { cls:=.type "tuple",data:=.seq #[.int i s.toks,u1] }:=(b2.2 _ (Nat.ne_of_gt (lt e (by simp)))).trans a5
  have I2 : Inv X pins σ (upd H s.heap.objs.size (.tup [.int i,x])) { s with heap:=h'',toks:=s.toks + 1 } :=
   I1.track (I.fpOk (Nat.le_refl _) fr) ⟨(by show 2 <= sizeLine; decide),[.int i s.toks,u1],.cons ⟨s.toks,rfl⟩ (.cons ru1 .nil),⟨_,hp,rfl,_,rfl⟩⟩
  refine ⟨.ref s.heap.objs.size,_,I2,rfl,⟨_,x,rfl,fr,rfl,fun xs' h=>by rw [I.list_inj h q1]; exact hx⟩,⟨⟨u1,?_⟩,?_⟩,fun b hb=>?_⟩
  ·have : ((i + 1 : Nat) : Int) = (i : Int) + 1:=by push_cast; rfl
   rw [this]; exact b1
  ·exact a3.at fun o q=>(b2.2 it (Ne.symm ne)).trans q
  ·rw [zb0 (Nat.ne_of_lt (lt b hb))]
   exact (hf b hb).1
 done:=by
  intro X hP hw hK hc i pins s σ H E I hf st hg
  subst hP hw hK
  obtain ⟨⟨old,he⟩,h1⟩:=st
  obtain ⟨xs,q1,hend⟩:=hg
  obtain ⟨its1,r1,p1,z1⟩:=I.list q1
  have l1':=r1.length
  refine wpAny_pyNext_enum_end (I.ok.hd hc) he h1 p1.isList (by simp; omega) fun h' kk=>⟨rfl,I.turnedMany (t':=s.toks) (ch:=[e,it]) (fun b o hb q=>?_) hf⟩
  simp only [List.mem_cons,List.not_mem_nil,or_false,not_or] at hb
  exact kk b o hb.2 q
 self:=fun _ _ _ _ _ st h=>by obtain ⟨⟨old,he⟩,_⟩:=st; exact wpAny_pyIter_enum he h
section
variable {X : Cx} {elts : List Expr} {kx : Nat} {tpos : Pos}
noncomputable def z71 (K : PySem.W.Frag) (ta : TA) : TI:=fun σ H R=>ta σ H fun vs H1=>∃ l,vs = [.ref l] /\ (∃ xs,SqL K H1 l xs) /\ R (Ite K l) H1
theorem z3e {a : Expr} {ta : TA} {p pos : Pos} (hg : Gl X "enumerate") (hm : X.mg "enumerate" = none) (ha : PA X [a] ta) (hs : starEach [a] X.env = [(false,eval a X.env)]:=by rfl) :
  PI X (.Tuple elts kx tpos) (.Call (.Name "enumerate" p) [a] [] pos) (z71 X.K ta):=by
 intro pins s σ H R I h
 refine Call_ (zg7 I hg hm boot_enumerate (PyProof.Rows.callWith_type1 (thn (ha pos pins s σ H _ I h) fun us s1 ⟨vs,H1,I1,r1,q1⟩=>?_) (by rw [hs]; rfl) (by rfl)))
 obtain ⟨l,e,⟨xs,h1⟩,q⟩:=q1
 subst e
 obtain ⟨u,rfl,ru⟩:=zh6 r1
 cases ru
 obtain ⟨its1,r1,p1,z1⟩:=I1.list h1
 refine call_enumerate_list p1.isList fun h' a1 a4 a6 a7=>?_
 refine wpAny_pyIter_enum a1 ?_
 have I2 : Inv X pins σ H1 { s1 with heap:=h' }:=I1.kept (t':=s1.toks) a7
 refine ⟨_,[s1.heap.objs.size + 1,s1.heap.objs.size],_,_,H1,rfl,I2,z63 _ _ _ (Nat.succ_ne_self _),⟨⟨_,a1⟩,a4⟩,fun b hb=>?_,q⟩
 simp only [List.mem_cons,List.not_mem_nil,or_false] at hb
 have hle : s1.heap.objs.size <= b:=by
  rcases hb with rfl | rfl
  ·exact Nat.le_add_right _ _
  ·exact Nat.le_refl _
 exact I1.fpOk hle (I1.hok.fresh hle)
end
noncomputable def zgh : Nat -> List D -> List D
 | _,[]=>[]
 | i,x :: xs=>.tup [.int i,x] :: zgh (i + 1) xs
theorem zqy : ∀ (i : Nat) (xs : List D),(zgh i xs).length = xs.length
 | _,[]=>rfl
 | i,x :: xs=>by rw [zgh,List.length_cons,List.length_cons,zqy]
theorem zly : ∀ (k : Nat) (xs : List D) (i : Nat),(zgh k xs)[i]? = (xs[i]?).map fun x=>.tup [.int (k + i : Nat),x]
 | _,[],_=>rfl
 | k,x :: xs,0=>rfl
 | k,x :: xs,i + 1=>by rw [zgh,List.getElem?_cons_succ,List.getElem?_cons_succ,zly (k + 1) xs i,show k + 1 + i = k + (i + 1) by omega]
noncomputable def zrd : List D -> Option (List D)
 | [x]=>(lsD x).map (zgh 0)
 | _=>none
noncomputable def zfe (f : List Sl -> Option (List D)) (ρ : List Sl) : Option (List D):=(f ρ).bind zrd
section
variable {c : Str -> Addr} {X : Cx} {a : Expr} {pos p : Pos}
theorem zio {f : List Sl -> Option (List D)} {elts : List Expr} {kx : Nat} {tpos : Pos} (hg : Gl X "enumerate") (hm : X.mg "enumerate" = none) (ha : DA c X [a] f) (hs : starEach [a] X.env = [(false,eval a X.env)]:=by rfl) :
  DI c X (.Tuple elts kx tpos) (.Call (.Name "enumerate" p) [a] [] pos) (zfe f) :=
 PI.imp (z3e hg hm ha.pa hs) fun σ H R q_=>by
  obtain ⟨Hf0,H0,Hf,ρ,ds,st,ef,k⟩:=q_
  unfold zfe at ef
  cases e1 : f ρ with
  | none=>rw [e1] at ef; cases ef
  | some as =>
   rw [e1] at ef
   replace ef : zrd as = some ds:=ef
   refine ⟨Hf0,H0,Hf,ρ,as,st,e1,fun vs Hf' H' x r=>?_⟩
   unfold zrd at ef
   split at ef
   ·rename_i dx
    cases ex : lsD dx with
    | none=>rw [ex] at ef; cases ef
    | some xs =>
     rw [ex] at ef
     cases ef
     obtain ⟨v,ev,rv⟩:=r.one
     obtain ⟨l1,w1,el1,q1,r1⟩:=zgt ex rv
     subst el1
     refine ⟨l1,ev,⟨w1,x.s.seq q1⟩,k _ Hf' H' x fun Hf2 H2 f2 s2 i=>?_⟩
     have g1 : SqL X.K H2 l1 w1:=(f2.trans s2).seq q1
     have h1:=r1.length
     refine ⟨fun d ed=>?_,fun ei=>⟨w1,g1,by rw [zqy] at ei; omega⟩⟩
     rw [zly] at ed
     cases hx : xs[i]? with
     | none=>rw [hx] at ed; cases ed
     | some x' =>
      rw [hx] at ed
      cases ed
      obtain ⟨u1,eu1,ru1⟩:=r1.get hx
      refine ⟨⟨w1,u1,g1,eu1⟩,fun z H3 ⟨pp,z1,ez,hp,eh,y1⟩=>?_⟩
      subst ez eh
      have a1:=y1 w1 g1
      rw [eu1] at a1; cases a1
      exact ⟨upd Hf2 pp (.tup [.int i,u1]),Ext.new s2 hp,pp,[.int i,u1],rfl,zcg,.cons (by rw [Nat.zero_add]; rfl) (.cons (ru1.up (f2.trans (zc2 (s2.free hp)))) .nil)⟩
   ·cases ef
end
noncomputable def zju : D -> Option Key
 | .int i=>some (.inl i)
 | .str x=>some (.inr x)
 | _=>none
theorem ztr {G : Gc} {H : Hp} {d : D} {v : V} {k : Key} (e : zju d = some k) (r : Rep G H d v) : v = kV k:=by
 cases d <;> first | (cases e; done) | (cases e; exact r)
noncomputable def zel (ks : List Key) (k : Key) : Bool:=ks.any fun j=>decide (j = k)
noncomputable def zfn {α : Type} (ks : List Key) (xs : List α) (k : Key) (x : α) : List α:=if zel ks k = true then List.zipWith (fun j y=>if j = k then x else y) ks xs else xs ++ [x]
noncomputable def zfd (ks : List Key) (k : Key) : List Key:=if zel ks k = true then ks else ks ++ [k]
theorem zuu {ks : List Key} {k : Key} {v : V} : ∀ {ks : List Key} {vs : List V},(ks.zip vs).map (fun kv=>if kv.1 = k then (kv.1,v) else kv) = ks.zip (List.zipWith (fun j y=>if j = k then v else y) ks vs)
 | [],_=>rfl
 | _ :: _,[]=>rfl
 | j :: ks,y :: vs=>by
  rw [List.zip_cons_cons,List.map_cons,List.zipWith_cons_cons,List.zip_cons_cons,zuu (ks:=ks)]
  by_cases h : j = k
  ·subst h; simp
  ·simp [h]
theorem zp9 {k : Key} : ∀ {ks : List Key} {vs : List V},ks.length = vs.length -> ((ks.zip vs).any fun kv=>decide (kv.1 = k)) = zel ks k
 | [],[],_=>rfl
 | [],_ :: _,h=>by cases h
 | _ :: _,[],h=>by cases h
 | j :: ks,y :: vs,h=>by
  unfold zel
  rw [List.zip_cons_cons,List.any_cons,List.any_cons,zp9 (by simpa using h)]
  rfl
theorem z4j {ks : List Key} {vs : List V} {k : Key} {v : V} (h : ks.length = vs.length) : zd8 (ks.zip vs) k v = (zfd ks k).zip (zfn ks vs k v):=by
 unfold zd8 zfd zfn
 rw [zp9 h]
 by_cases e : zel ks k = true
 ·rw [if_pos e,if_pos e,if_pos e,zuu (ks:=ks)]
 ·rw [if_neg e,if_neg e,if_neg e,List.zip_append h]; rfl
theorem z24 {α : Type} {ks : List Key} {vs : List α} {k : Key} {v : α} (h : ks.length = vs.length) : (zfd ks k).length = (zfn ks vs k v).length:=by
 unfold zfd zfn
 by_cases e : zel ks k = true
 ·rw [if_pos e,if_pos e,List.length_zipWith]; omega
 ·rw [if_neg e,if_neg e,List.length_append,List.length_append,h]; rfl
theorem zas.zipW {G : Gc} {H : Hp} {k : Key} {d : D} {v : V} (q : Rep G H d v) : ∀ {ks : List Key} {ds : List D} {vs : List V},zas G H ds vs -> zas G H (List.zipWith (fun j y=>if j = k then d else y) ks ds) (List.zipWith (fun j y=>if j = k then v else y) ks vs)
 | [],_,_,_=>.nil
 | _ :: _,[],_,h=>by cases (show _ = [] from h); exact .nil
 | j :: ks,x :: ds,_,⟨u,r,e,h1,h2⟩=>by
  subst e
  rw [List.zipWith_cons_cons,List.zipWith_cons_cons]
  refine .cons ?_ (zas.zipW q h2)
  by_cases e : j = k
  ·rw [if_pos e,if_pos e]; exact q
  ·rw [if_neg e,if_neg e]; exact h1
theorem zas.put {G : Gc} {H : Hp} {k : Key} {ks : List Key} {d : D} {v : V} {ds : List D} {vs : List V} (r : zas G H ds vs) (q : Rep G H d v) : zas G H (zfn ks ds k d) (zfn ks vs k v):=by
 unfold zfn
 by_cases e : zel ks k = true
 ·rw [if_pos e,if_pos e]; exact r.zipW q
 ·rw [if_neg e,if_neg e]; exact r.append (.cons q .nil)
noncomputable def zos (i : Nat) (ρ : List Sl) : Option Fl:=some (.nx (ρ.set i (.ownd [] [])))
noncomputable def zin (i : Nat) (fk fv : List Sl -> Option D) (ρ : List Sl) : Option Fl:=(fv ρ).bind fun d=>(fk ρ).bind fun x=>(zju x).bind fun k=>match ρ[i]? with
 | some (.ownd ks xs)=>if ks.length < 16777216 then some (.nx (ρ.set i (.ownd (zfd ks k) (zfn ks xs k d)))) else none
 | _=>none
noncomputable def zrc (x y : D) : Option D:=(zju x).bind fun k=>match y with
 | .dic ks _=>some (.bl (zel ks k))
 | _=>none
section
variable {c : Str -> Addr} {X : Cx} {st : Stmt} {e a b i' value : Expr} {pos pos' p' : Pos}
theorem z2n {i : Nat} (hp : PS X st (zig ztp (zhi i))) : DS c X st (zos i):=PS.imp hp fun E σ H q_=>by
 obtain ⟨Hf0,H0,Hf,ρ,o,so,ef,k⟩:=q_
 cases ef
 intro q hq
 have x : Ext Hf H Hf (upd H q (.dK [])):=Ext.tmp so.sub hq
 exact k _ Hf _ x.f (so.setOwn (s:=.ownd [] []) rfl x hq (so.sub.free hq) ⟨[],zcg,rfl,.nil⟩)
theorem z6a (i : Nat) {x : Str} (hN : X.N.Nodup) (hi : X.N[i]? = some x:=by rfl) (hx : Loc X.env.scope x:=by first | exact Or.inl rfl | exact Or.inr rfl) (hs : swapsWith (.Dict [] [] pos) (some (.Name x pos')) p'.line X.env = pure false:=by rfl) (hf : X.fn x = true \/ X.env.scope.names.lookup x = some .local:=by first | exact .inl rfl | exact .inr rfl) :
  DS c X (.Assign [.Name x pos'] (.Dict [] [] pos) p') (zos i):=z2n (znb hN hi hx z3p hs hf)
theorem z8z {i : Nat} {fk fv : List Sl -> Option D} (hp : PS X st (zty (zei i) (tD (Gx c X) fk) (tD (Gx c X) fv))) : DS c X st (zin i fk fv):=PS.imp hp fun E σ H q_=>by
 obtain ⟨Hf0,H0,Hf,ρ,o,so,ef,k⟩:=q_
 unfold zin at ef
 cases e1 : fv ρ with
 | none=>rw [e1] at ef; cases ef
 | some d =>
  rw [e1] at ef
  cases e2 : fk ρ with
  | none=>rw [e2] at ef; cases ef
  | some x =>
   rw [e2] at ef
   cases e3 : zju x with
   | none=>rw [Option.bind_some,Option.bind_some,e3] at ef; cases ef
   | some ky =>
    rw [Option.bind_some,Option.bind_some,e3] at ef
    replace ef : (match ρ[i]? with | some (.ownd ks xs)=>if ks.length < 16777216 then some (Fl.nx (ρ.set i (.ownd (zfd ks ky) (zfn ks xs ky d)))) else none | _=>none) = some o:=ef
    split at ef
    ·rename_i ks xs es
     split at ef
     ·rename_i hl
      cases ef
      refine ⟨Hf0,H0,Hf,ρ,d,so,e1,fun v Hf1 H1 x1 r1=>?_⟩
      have so1:=so.step x1
      obtain ⟨l,el,h0,hf,vs,q,z,r⟩:=so1.ownAt rfl es
      refine ⟨_,el,Hf0,H0,Hf1,ρ,x,so1,e2,fun y Hf2 H2 x2 r2=>?_⟩
      have so2:=so1.step x2
      have q2:=x2.h _ _ q
      have ey:=ztr e3 r2
      subst ey
      refine ⟨l,_,rfl,zmi.k q2 (by rw [sizeLine_eq,List.length_zip]; omega),?_⟩
      refine k σ Hf2 _ (x1.f.trans x2.f) (so2.mutd (s:=.ownd ks xs) (s':=.ownd (zfd ks ky) (zfn ks xs ky d)) rfl rfl es el ⟨zfn ks vs ky v,?_,z24 z,(r.up x2.f).put (r1.up x2.f)⟩)
      rw [zcg,z4j z]
     ·cases ef
    ·cases ef
theorem z7j (hu : X.A.units + 64 < cLine) {i : Nat} {fk fv : List Sl -> Option D} (ho : PE X e (zei i)) (hk : DE c X i' fk) (hv : DE c X value fv) (hs : swapsWith value (some (.Subscript e i' pos')) pos.line X.env = pure false:=by rfl) :
  DS c X (.Assign [.Subscript e i' pos'] value pos) (zin i fk fv):=z8z (z2q (by omega) ho hk hv hs)
theorem zxy {k : Key} : ∀ {ks : List Key} {vs : List V},ks.length = vs.length -> (zeo (ks.zip vs) k).isSome = zel ks k:=fun {ks vs} h=>by
 rw [<- zq5,zp9 h]
theorem z67 (hu : X.A.units + 64 < cLine) {f g : List Sl -> Option D} (ha : DE c X a f) (hb : DE c X b g) (hm : behindInMarks .In b = false:=by first | exact nobehind _ (by decide) (by decide) | rfl) : DE c X (.Compare a [.In] [b] pos) (m2 zrc f g) :=
 PE.imp (z21 (z1n (by omega) ha hb) hm) fun σ H Q q_=>by
  obtain ⟨Hf0,H0,Hf,ρ,d,st,ef,k⟩:=q_
  obtain ⟨x,y,e1,e2,e3⟩:=zpg ef
  refine ⟨Hf0,H0,Hf,ρ,x,st,e1,fun v Hf1 H1 x1 r1=>⟨Hf0,H0,Hf1,ρ,y,st.step x1,e2,fun u Hf2 H2 x2 r2=>?_⟩⟩
  unfold zrc at e3
  cases ek : zju x with
  | none=>rw [ek] at e3; cases e3
  | some ky =>
   rw [ek] at e3
   cases y with
   | dic ks xs =>
    cases e3
    obtain ⟨l,vs,el,q,z,r⟩:=r2
    have ev:=ztr ek r1
    subst ev el
    refine ⟨l,_,rfl,zf2.k (x2.s _ _ q),k _ Hf2 H2 (x1.trans x2) ?_⟩
    rw [zxy z]
    rfl
   | _=>cases e3
end
noncomputable def zfa (i : Nat) (fk fv : List Sl -> Option D) (ρ : List Sl) : Option Fl:=(fv ρ).bind fun d=>(fk ρ).bind fun x=>match x with
 | .int k=>(match ρ[i]? with
  | some (.own xs)=>(ixN xs.length k).map fun j=>.nx (ρ.set i (.own (xs.set j d)))
  | _=>none)
 | _=>none
section
variable {c : Str -> Addr} {X : Cx} {st : Stmt} {e a b i' value : Expr} {pos pos' : Pos}
theorem z7w {i : Nat} {fk fv : List Sl -> Option D} (hp : PS X st (zig (tD (Gx c X) fv) (zss (zei i) (tD (Gx c X) fk) ztx))) : DS c X st (zfa i fk fv):=PS.imp hp fun E σ H q_=>by
 obtain ⟨Hf0,H0,Hf,ρ,o,so,ef,k⟩:=q_
 unfold zfa at ef
 cases e1 : fv ρ with
 | none=>rw [e1] at ef; cases ef
 | some d =>
  rw [e1] at ef
  cases e2 : fk ρ with
  | none=>rw [e2] at ef; cases ef
  | some x =>
   rw [e2] at ef
   obtain ⟨ky,rfl⟩ : ∃ ky,x = .int ky:=by cases x <;> first | exact ⟨_,rfl⟩ | cases ef
   replace ef : (match ρ[i]? with | some (.own xs)=>(ixN xs.length ky).map fun j=>Fl.nx (ρ.set i (.own (xs.set j d))) | _=>none) = some o:=ef
   split at ef
   ·rename_i xs es
    cases ej : ixN xs.length ky with
    | none=>rw [ej] at ef; cases ef
    | some j =>
     rw [ej] at ef
     cases ef
     refine ⟨Hf0,H0,Hf,ρ,d,so,e1,fun v Hf1 H1 x1 r1=>?_⟩
     have so1:=so.step x1
     obtain ⟨l,el,h0,hf,vs,q,r⟩:=so1.ownAt rfl es
     refine ⟨_,el,Hf0,H0,Hf1,ρ,.int ky,so1,e2,fun y Hf2 H2 x2 r2=>?_⟩
     have so2:=so1.step x2
     have q2:=x2.h _ _ q
     refine ⟨l,vs,ky,j,rfl,r2,q2,by rw [<- r.length]; exact ej,?_⟩
     exact k σ Hf2 _ (x1.f.trans x2.f) (so2.mutd (s:=.own xs) (s':=.own (xs.set j d)) rfl rfl es el ⟨vs.set j v,zcg,(r.up x2.f).set j (r1.up x2.f)⟩)
   ·cases ef
theorem zim {i : Nat} {fk fv : List Sl -> Option D} (ho : PE X e (zei i)) (hk : DE c X i' fk) (hv : DE c X value fv) (hs : swapsWithSole [.Subscript e i' pos'] value pos.line X.env = pure false:=by rfl) (hw : swappedStores [.Subscript e i' pos'] value X.env = pure none:=by rfl)
  (h1 : (assignEach [.Subscript e i' pos'] X.env).map (·.2) = [assign (.Subscript e i' pos') X.env]:=by rfl)
  (ha : ∀ v,assign (.Subscript e i' pos') X.env v = (do
   let ov <- holding [v] (eval e X.env)
   let iv <- holding [v,ov] (eval i' X.env)
   standAt pos'
   holding [v,ov,iv] (setItem ov iv v)
   release [v,ov,iv] []):=by intro _; rfl) :
  DS c X (.Assign [.Subscript e i' pos'] value pos) (zfa i fk fv):=z7w (zv2 hv (z7d ho hk z9d ha) hs hw h1)
end
section
variable {c : Str -> Addr} {X : Cx}
open Classical in
end
noncomputable def Ris (xs : Array Nat) : Prop:=xs.toList.Pairwise (· < ·)
theorem zy3 {xs : Array Nat} (h : Ris xs) {a b j : Nat} (hab : a < b) (hb : b < xs.size) : xs.getD a j < xs.getD b j:=by
 have h1:=List.pairwise_iff_getElem.mp h a b (by simpa using Nat.lt_trans hab hb) (by simpa using hb) hab
 rw [Array.getD,Array.getD,dif_pos (Nat.lt_trans hab hb),dif_pos hb]
 simpa using h1
theorem zpn {xs : Array Nat} (h : Ris xs) {a b j : Nat} (hab : a <= b) (hb : b < xs.size) : xs.getD a j <= xs.getD b j:=by
 rcases Nat.eq_or_lt_of_le hab with e | e
 ·subst e; exact Nat.le_refl _
 ·exact Nat.le_of_lt (zy3 h e hb)
theorem zql {xs : Array Nat} {j : Nat} (h : Ris xs) : ∀ (fuel lo hi : Nat),lo <= hi -> hi <= xs.size -> hi - lo <= fuel -> (∀ i,i < lo -> xs.getD i j < j) -> (∀ i,hi <= i -> i < xs.size -> ¬ xs.getD i j < j) ->
  SetTable.below.go xs j fuel lo hi <= xs.size /\ (∀ i,i < SetTable.below.go xs j fuel lo hi -> xs.getD i j < j) /\ ∀ i,SetTable.below.go xs j fuel lo hi <= i -> i < xs.size -> ¬ xs.getD i j < j
 | 0,lo,hi,h1,h2,h3,h4,h5=>by
  have e : lo = hi:=by omega
  subst e
  exact ⟨h2,h4,h5⟩
 | fuel + 1,lo,hi,h1,h2,h3,h4,h5=>by
  unfold SetTable.below.go
  by_cases hl : lo < hi
  ·rw [if_pos hl]
   by_cases hm : xs.getD ((lo + hi) / 2) j < j
   ·simp only [hm,if_true]
    refine zql h fuel ((lo + hi) / 2 + 1) hi (by omega) h2 (by omega) (fun i hi'=>?_) h5
    exact Nat.lt_of_le_of_lt (zpn h (by omega) (by omega)) hm
   ·simp only [hm,if_false]
    refine zql h fuel lo ((lo + hi) / 2) (by omega) (by omega) (by omega) h4 fun i hi' hs hc=>?_
    exact hm (Nat.lt_of_le_of_lt (zpn h hi' hs) hc)
  ·rw [if_neg hl]
   have e : lo = hi:=by omega
   subst e
   exact ⟨h2,h4,h5⟩
theorem z3l {xs : Array Nat} (h : Ris xs) (j : Nat) : SetTable.below xs j <= xs.size /\ (∀ i,i < SetTable.below xs j -> xs.getD i j < j) /\ ∀ i,SetTable.below xs j <= i -> i < xs.size -> ¬ xs.getD i j < j :=
 zql h xs.size 0 xs.size (Nat.zero_le _) (Nat.le_refl _) (by omega) (fun i hi=>by omega) fun i hi hs=>by omega
theorem zyf {xs : Array Nat} (h : Ris xs) {j : Nat} (hn : xs[SetTable.below xs j]? ≠ some j) : Ris (SetTable.insertAt xs (SetTable.below xs j) j):=by
 obtain ⟨h1,h2,h3⟩:=z3l h j
 unfold Ris SetTable.insertAt
 have g : ∀ i,(hi : i < xs.size) -> xs.getD i j = xs[i]:=fun i hi=>by rw [Array.getD,dif_pos hi]; rfl
 rw [Array.toList_append,Array.toList_push,Array.toList_extract,Array.toList_extract]
 simp only [List.extract_eq_drop_take,Nat.sub_zero,List.drop_zero]
 have hlt : ∀ x ∈ xs.toList.take (SetTable.below xs j),x < j:=fun x hx=>by
  obtain ⟨i,hi,e⟩:=List.mem_take_iff_getElem.mp hx
  have hi' : i < SetTable.below xs j:=by omega
  have:=h2 i hi'
  rw [g i (by omega)] at this
  rw [<- e]
  simpa using this
 have hgt : ∀ x ∈ xs.toList.drop (SetTable.below xs j),j < x:=fun x hx=>by
  obtain ⟨i,hi,e⟩:=List.mem_drop_iff_getElem.mp hx
  have hs : SetTable.below xs j + i < xs.size:=by simpa [Nat.add_comm] using hi
  have a:=h3 (SetTable.below xs j + i) (by omega) hs
  rw [g _ hs] at a
  have ex : x = xs[SetTable.below xs j + i]:=by rw [<- e]; simp
  rw [ex]
  rcases Nat.lt_or_ge j xs[SetTable.below xs j + i] with q | q
  ·exact q
  ·exfalso
   have ej : xs[SetTable.below xs j + i] = j:=by omega
   have hb : SetTable.below xs j < xs.size:=by omega
   have b:=zpn h (j:=j) (show SetTable.below xs j <= SetTable.below xs j + i by omega) hs
   rw [g _ hs,g _ hb,ej] at b
   have c:=h3 (SetTable.below xs j) (Nat.le_refl _) hb
   rw [g _ hb] at c
   exact hn (by rw [Array.getElem?_eq_getElem hb]; congr 1; omega)
 have ed : List.take (xs.size - SetTable.below xs j) (List.drop (SetTable.below xs j) xs.toList) = List.drop (SetTable.below xs j) xs.toList:=List.take_of_length_le (by simp)
 rw [ed]
 refine List.pairwise_append.mpr ⟨List.pairwise_append.mpr ⟨List.Pairwise.sublist (List.take_sublist _ _) h,by simp,fun a ha b hb=>?_⟩,List.Pairwise.sublist (List.drop_sublist _ _) h,fun a ha b hb=>?_⟩
 ·have : b = j:=by simpa using hb
  subst this; exact hlt a ha
 ·rcases List.mem_append.mp ha with ha | ha
  ·exact Nat.lt_trans (hlt a ha) (hgt b hb)
  ·have : a = j:=by simpa using ha
   subst this; exact hgt b hb
theorem z3j (n : Nat) : Ris (Array.range n):=by
 unfold Ris
 rw [Array.toList_range]
 exact List.pairwise_lt_range
theorem zsb {t : SetTable} {j : Nat} (h : t.slot j = .empty \/ t.slot j = .dummy) : t.place[SetTable.below t.place j]? ≠ some j:=fun e=>by
 have : t.slot j = .live (SetTable.below t.place j):=by
  unfold SetTable.slot
  simp only [e,beq_self_eq_true,if_true]
 rw [this] at h
 rcases h with h | h <;> cases h
theorem zol {t : SetTable} {h : Int} : ∀ (fuel : Nat) (p : SetTable.Probe) {j : Nat} {d : Option Nat},(∀ d',p.dummy = some d' -> t.place[SetTable.below t.place d']? ≠ some d') -> SetTable.probe.go t (fun _=>h + 1) h fuel p = some (.empty j d) ->
  t.place[SetTable.below t.place j]? ≠ some j /\ ∀ d',d = some d' -> t.place[SetTable.below t.place d']? ≠ some d'
 | 0,_,_,_,_,e=>by cases e
 | fuel + 1,p,j,d,hd,e=>by
  unfold SetTable.probe.go at e
  split at e
  ·rename_i hs
   cases e
   exact ⟨zsb (.inl hs),hd⟩
  ·rename_i hs
   refine zol fuel _ (fun d' q=>?_) e
   have : d' = p.j:=by
    unfold SetTable.advance at q
    split at q
    ·exact (Option.some.inj q).symm
    ·exact (Option.some.inj q).symm
   subst this
   exact zsb (.inr hs)
  ·rename_i i hs
   split at e
   ·cases e
   ·refine zol fuel _ (fun d' q=>hd d' ?_) e
    unfold SetTable.advance at q
    split at q <;> exact q
theorem z5n {t : SetTable} {h : Int} {j : Nat} {w : Bool} (e : t.freeSlot h = some (j,w)) : t.place[SetTable.below t.place j]? ≠ some j:=by
 unfold SetTable.freeSlot at e
 split at e
 ·rename_i j' d hp
  obtain ⟨h1,h2⟩:=zol _ _ (fun d' q=>by cases q) hp
  cases d with
  | none=>cases e; exact h1
  | some d'=>cases e; exact h2 _ rfl
 ·cases e
theorem zoh (t : SetTable) (n : Nat) : Ris (t.standIn n).place /\ (t.standIn n).led = t.led:=⟨z3j n,rfl⟩
theorem z60 {t : SetTable} (n : Nat) (h : Ris t.place) : Ris (t.orStandIn n).place /\ (t.orStandIn n).led = t.led:=by
 unfold SetTable.orStandIn
 split
 ·exact ⟨h,rfl⟩
 ·exact zoh t n
theorem z7z {t : SetTable} (es : Array (Int × Value)) (h : Int) (x : Value) (hr : Ris t.place) : Ris (layNew t es h x).2.1.place /\ (layNew t es h x).2.1.led = t.led:=by
 unfold layNew
 split
 ·rename_i slot wd hf
  exact z60 (t:=(t.put slot).1) _ (zyf hr (z5n hf))
 ·exact zoh t _
theorem zzu {mask finger moves : Nat} {led plain : Bool} {hashes : Array Int} {t' : SetTable} {order : Array Nat} (e : SetTable.laid mask finger moves led plain hashes = some (t',order)) : Ris t'.place /\ t'.led = led:=by
 unfold SetTable.laid at e
 cases ho : SetTable.layClean mask hashes with
 | none=>rw [ho] at e; cases e
 | some owner =>
  rw [ho] at e
  cases e
  refine ⟨?_,rfl⟩
  unfold Ris
  show List.Pairwise _ (List.map _ _)
  rw [List.pairwise_map,List.pairwise_filterMap]
  refine List.Pairwise.imp (fun {a b} hab=>?_) List.pairwise_lt_range
  intro p hp q hq
  cases ha : owner.getD a none with
  | none=>rw [ha] at hp; cases hp
  | some ka =>
   cases hb : owner.getD b none with
   | none=>rw [hb] at hq; cases hq
   | some kb=>rw [ha] at hp; rw [hb] at hq; cases hp; cases hq; exact hab
theorem z3v {t : SetTable} (es : Array (Int × Value)) (wanted : Nat) : Ris (relayAll t es wanted).2.1.place /\ (relayAll t es wanted).2.1.led = t.led:=by
 unfold relayAll
 split
 ·rename_i t' order hl
  have hr : Ris t'.place /\ t'.led = t.led:=zzu hl
  dsimp only
  split
  ·exact hr
  ·exact zoh t _
 ·exact zoh t _
noncomputable def zd7 (P : Program) (w : World) (h : Heap) (a : Addr) (led : Bool) (S : Int -> Bool) (n : Nat) : Prop :=
 ∃ o ents ep tb,h.get? a = some o /\ o.ExactSet /\ o.data = .set ents ep tb /\ ElemsOf (intKind P w) ents.toList /\ (∀ k,S k = true ↔ ∃ e ∈ ents.toList,(intKind P w).is k e.2 = true)
  /\ ents.size < scanBound /\ tb.fits ents.size = true /\ ents.size = n /\ Ris tb.place /\ tb.led = led
section
variable {P : Program} {w : World} {A : Around} {E : Value -> Shared -> Prop} {s : Shared}
theorem zd7.stay {h h' : Heap} {a : Addr} {led : Bool} {S : Int -> Bool} {n : Nat} (q : zd7 P w h a led S n) (k : ∀ o,h.get? a = some o -> h'.get? a = some o) : zd7 P w h' a led S n:=by
 obtain ⟨o,ents,ep,tb,ho,r⟩:=q
 exact ⟨o,ents,ep,tb,k o ho,r⟩
theorem zd7.congr {h : Heap} {a : Addr} {led : Bool} {S S' : Int -> Bool} {n n' : Nat} (q : zd7 P w h a led S n) (e : ∀ k,S k = S' k) (en : n = n') : zd7 P w h a led S' n':=by
 have : S = S':=funext e
 subst this en
 exact q
theorem zsz {h : Heap} {a : Addr} {o : Obj} {ents ents' : Array (Int × Value)} {ep : Nat} {tb tb' : SetTable} {led : Bool} {S : Int -> Bool} (ho : h.get? a = some o) (hex : o.ExactSet) (hd : o.data = .set ents ep tb)
  (hel : ElemsOf (intKind P w) ents'.toList) (hm : ∀ k,S k = true ↔ ∃ e ∈ ents'.toList,(intKind P w).is k e.2 = true) (hb : ents'.size < scanBound) (hf : tb'.fits ents'.size = true) (hr : Ris tb'.place) (hled : tb'.led = led) :
  (h.update a (Obj.putSet ents' tb')).get? a = some { o with data:=.set ents' (ep + 1) tb' } /\ zd7 P w (h.update a (Obj.putSet ents' tb')) a led S ents'.size:=by
 have g1:=(SetOf_store (knd:=intKind P w) ho hex hd hel hm hb hf).1
 exact ⟨g1,_,ents',ep + 1,tb',g1,hex,rfl,hel,hm,hb,hf,rfl,hr,hled⟩
theorem zt3 {g : Bool -> Sem Unit} (hg : ∀ (b : Bool) (s₁ : Shared) (Q' : Unit -> Shared -> Prop),Q' () s₁ -> wpAny (model P w) A (g b) Q' E s₁) {a : Addr} {o : Obj} {ents ents1 : Array (Int × Value)} {ep : Nat} {tb tb1 : SetTable} {led : Bool} {S : Int -> Bool}
  (ho : s.heap.get? a = some o) (hex : o.ExactSet) (hd : o.data = .set ents ep tb) (hel : ElemsOf (intKind P w) ents1.toList) (hm : ∀ k,S k = true ↔ ∃ e ∈ ents1.toList,(intKind P w).is k e.2 = true)
  (hb : ents1.size < scanBound) (hf : tb1.fits ents1.size = true) (hr : Ris tb1.place) (hled : tb1.led = led) {dm : Bool} {R : Option Bool -> Shared -> Prop}
  (h : ∀ h',Heap.SameBut a s.heap h' -> zd7 P w h' a led S ents1.size -> R (some true) { s with heap:=h' }) :
  wpAny (model P w) A (do
    storeSet a ents1 tb1
    if (!dm && tb1.tooFull) = true then do
      g (relayAll tb1 ents1 (SetTable.grown ents1.size)).2.2
      storeSet a (relayAll tb1 ents1 (SetTable.grown ents1.size)).1 (relayAll tb1 ents1 (SetTable.grown ents1.size)).2.1
      pure (some true)
     else pure (some true)) R E s:=by
 refine wpAny_bind (wpAny_storeSet_of ho hd ?_ (fits_of_scanBound hb))
 obtain ⟨ho1,q1⟩:=zsz (P:=P) (w:=w) ho hex hd hel hm hb hf hr hled
 have sb:=Heap.SameBut.update s.heap a (Obj.putSet ents1 tb1)
 split
 ·have pp:=relayAll_perm tb1 ents1 (SetTable.grown ents1.size)
  have ff:=relayAll_fits tb1 ents1 (SetTable.grown ents1.size)
  have rr:=z3v (t:=tb1) ents1 (SetTable.grown ents1.size)
  generalize relayAll tb1 ents1 (SetTable.grown ents1.size) = z at pp ff rr ⊢
  obtain ⟨ents2,tb2,gv⟩:=z
  dsimp only at pp ff rr ⊢
  have zz : ents2.size = ents1.size:=by rw [<- Array.length_toList,pp.length_eq,Array.length_toList]
  refine wpAny_bind (hg _ _ _ (wpAny_bind (wpAny_storeSet_of ho1 rfl ?_ (fits_of_scanBound (by rw [zz]; exact hb)))))
  have q2:=(zsz (P:=P) (w:=w) (led:=led) (S:=S) ho1 hex rfl (hel.perm pp) (fun k=>(hm k).trans ⟨fun ⟨e,he,q⟩=>⟨e,pp.mem_iff.mpr he,q⟩,fun ⟨e,he,q⟩=>⟨e,pp.mem_iff.mp he,q⟩⟩) (by rw [zz]; exact hb) ff rr.1 (rr.2.trans hled)).2
  rw [zz] at q2
  exact wpAny_pure (h _ (sb.trans (Heap.SameBut.update _ a _)) q2)
 ·exact wpAny_pure (h _ sb q1)
theorem zxw {a : Addr} {led : Bool} {S : Int -> Bool} {n : Nat} {k : Int} {x : Value} {Q : Bool -> Shared -> Prop} (hk : (intKind P w).is k x = true) (hx : x.scannable = true) (q : zd7 P w s.heap a led S n) (room : n + 1 < scanBound)
  (h : ∀ h',Heap.SameBut a s.heap h' -> zd7 P w h' a led (fun k'=>S k' || decide (k' = k)) (if S k then n else n + 1) -> Q (!S k) { s with heap:=h' }) : wpAny (model P w) A (setAddHashed a x ((intKind P w).hash k)) Q E s:=by
 obtain ⟨o,ents,ep,tb,ho,hex,hd,hel,hm,hb,hf,hn,hr,hled⟩:=q
 unfold setAddHashed setAddHashedIn
 refine wpAny_holding (wpAny_bind (wpAny_setState_of ho hd hf ?_))
 dsimp only
 rw [byScan_of hx hb hel,if_pos rfl]
 unfold setAddByScan
 refine wpAny_bind (wpAny_bind (wpAny_rule (wpAny_bind (wpAny_setScan_of hk ho hd hf hel ?_))))
 cases hi : List.findIdx? (fun e=>(intKind P w).is k e.2) ents.toList with
 | some j =>
  dsimp only
  obtain ⟨hj,pj,_⟩:=List.findIdx?_eq_some_iff_getElem.mp hi
  have sk : S k = true:=(hm k).mpr ⟨ents.toList[j],List.getElem_mem hj,pj⟩
  refine wpAny_pure (wpAny_pure ?_)
  have es : s = { s with heap:=s.heap }:=by cases s; rfl
  have fin:=h s.heap (Heap.SameBut.refl a s.heap) ⟨o,ents,ep,tb,ho,hex,hd,hel,fun k'=>by
   rw [Bool.or_eq_true,decide_eq_true_eq,<- hm k']
   exact ⟨fun z=>z.elim id (fun e=>e ▸ sk),.inl⟩,hb,hf,by rw [sk]; exact hn,hr,hled⟩
  rw [sk] at fin
  rw [es]
  exact fin
 | none =>
  dsimp only
  have sk : S k = false:=by
   cases hs : S k with
   | false=>rfl
   | true =>
    obtain ⟨e,he,pe⟩:=(hm k).mp hs
    have:=List.findIdx?_eq_none_iff.mp hi e he
    rw [pe] at this
    cases this
  have gw : ∀ (b : Bool) (s₁ : Shared) (Q' : Unit -> Shared -> Prop),Q' () s₁ -> wpAny (model P w) A (match b with | true=>rule "set.scan.the-table-gave-way" | false=>pure ()) Q' E s₁ :=
   fun b s₁ Q' hq=>by cases b <;> first | exact wpAny_pure hq | exact wpAny_rule hq
  have pp:=layNew_perm tb ents ((intKind P w).hash k) x
  have ff:=layNew_fits tb ents ((intKind P w).hash k) x
  have rr:=z7z ents ((intKind P w).hash k) x hr
  generalize layNew tb ents ((intKind P w).hash k) x = z at pp ff rr ⊢
  obtain ⟨ents1,tb1,dm,gv⟩:=z
  dsimp only at pp ff rr ⊢
  rw [Array.toList_push] at pp
  have z1 : ents1.size = n + 1:=by rw [<- Array.length_toList,pp.length_eq,List.length_append,Array.length_toList,hn]; rfl
  have fin : ∀ h',Heap.SameBut a s.heap h' -> zd7 P w h' a led (fun k'=>S k' || decide (k' = k)) ents1.size -> Q true { s with heap:=h' }:=fun h' sb q'=>by
   have:=h h' sb
   rw [sk] at this
   rw [z1] at q'
   exact this q'
  refine wpAny_bind (gw _ _ _ ?_)
  split
  ·refine wpAny_bind ?_
   rw [hashByValue_scannable 8 hx]
   refine wpAny_pure (zt3 (led:=led) (S:=fun k'=>S k' || decide (k' = k)) ?_ ho hex hd ((hel.push hk hx).perm pp) (mem_push_iff hk hm pp) (by rw [z1]; exact room) ?_ ?_ ?_ fun h' sb q'=>?_)
   ·exact fun b s₁ Q' hq=>by cases b <;> first | exact wpAny_pure hq | exact wpAny_rule hq
   ·split
    ·exact ff
    ·exact SetTable.fits_plain_off ff
   ·split
    ·exact rr.1
    ·exact rr.1
   ·split
    ·exact rr.2.trans hled
    ·exact rr.2.trans hled
   ·dsimp only
    exact wpAny_pure (fin h' sb q')
  ·refine wpAny_bind (wpAny_pure ?_)
   simp only [↓reduceIte]
   refine zt3 (led:=led) (S:=fun k'=>S k' || decide (k' = k)) ?_ ho hex hd ((hel.push hk hx).perm pp) (mem_push_iff hk hm pp) (by rw [z1]; exact room) ff rr.1 (rr.2.trans hled) fun h' sb q'=>?_
   ·exact fun b s₁ Q' hq=>by cases b <;> first | exact wpAny_pure hq | exact wpAny_rule hq
   ·dsimp only
    exact wpAny_pure (fin h' sb q')
end
set_option maxRecDepth 100000
noncomputable def zes (w : World) : Bool:=!(w.params.followText "set-order")
section
variable {P : Program} {w : World} {A : Around} {R : Result -> Shared -> Prop} {I : Addr} {fp wr : List Addr} {G : Array GenState -> Array GenState -> Prop} {n : Nat} {Pv : Nat -> Value -> Prop} {St : Nat -> Shared -> Prop}
theorem z0d (W : WalksS P w A.in1 I fp wr G n Pv St) (S : Addr) (hS : S ∉ fp) {led : Bool} (val : Nat -> Int) (hv : ∀ i v,Pv i v -> ∃ t,v = .int (val i) t) (hb : n + 1 < scanBound) :
  ∀ (k i : Nat) (s : Shared),n - i = k -> i <= n -> St i s -> zd7 P w s.heap S led (fun j=>(firstMet val i).any (· == j)) (firstMet val i).length ->
   (∀ s',Moved (S :: wr) G s s' -> zd7 P w s'.heap S led (fun j=>(firstMet val n).any (· == j)) (firstMet val n).length -> R (.ok (.ret .none)) s') ->
   codeAny (model P w) A (.builtin "set.update.loop" ⟨[.ref S,.ref I],[]⟩) R s:=by
 have hw : S ∉ wr:=fun h=>hS (W.sub _ h)
 have sub : ∀ b ∈ wr,b ∈ S :: wr:=fun b h=>List.mem_cons_of_mem _ h
 intro k
 induction k with
 | zero =>
  intro i s hk hi st q fin
  obtain rfl : i = n:=by omega
  refine codeAny_builtin F.entry_set_update_loop ?_
  rw [Around.under_plainId F.plain_set_update_loop _]
  show wpAny _ A.in1 (pyNext (.ref I) >>= _) _ _ s
  refine wpAny_bind (W.done s _ _ st fun s' m=>?_)
  show wpAny _ A.in1 (ret Value.none) _ _ s'
  exact wpAny_pure (fin s' (m.mono sub) (q.stay fun o e=>m.heap S o hw e))
 | succ k ih =>
  intro i s hk hi st q fin
  have lt : i < n:=by omega
  refine codeAny_builtin F.entry_set_update_loop ?_
  rw [Around.under_plainId F.plain_set_update_loop _]
  show wpAny _ A.in1 (pyNext (.ref I) >>= _) _ _ s
  refine wpAny_bind (W.item i s _ _ lt st fun v s' hP st' m=>?_)
  obtain ⟨t,rfl⟩:=hv i v hP
  have q1:=q.stay fun o e=>m.heap S o hw e
  show wpAny _ A.in1 (holding [Value.int (val i) t] (setAdd S (.int (val i) t)) >>= _) _ _ s'
  refine wpAny_bind (wpAny_holding ?_)
  unfold setAdd
  refine wpAny_holding (wpAny_bind ((intKind P w).pyHash (k:=val i) (intKind_is _ _ _ _) ?_))
  have room : (firstMet val i).length + 1 < scanBound:=by have:=firstMet_length_le val i; omega
  refine zxw (s:={ s' with toks:=s'.toks + 1 }) (k:=val i) (intKind_is _ _ _ _) rfl q1 room fun h' sb q2=>?_
  have q3 : zd7 P w h' S led (fun j=>(firstMet val (i + 1)).any (· == j)) (firstMet val (i + 1)).length:=q2.congr (fun j=>by rw [firstMet_succ,step_any]) (by rw [firstMet_succ,step_length])
  refine wpAny_pure ⟨plainId_quiet F.plain_set_update_loop _,ih (i + 1) _ (by omega) lt (W.frame _ s' _ _ st' (Nat.le_succ _) fun b hb' o e=>?_) q3 fun s2 m2 q4=>?_⟩
  ·rw [sb.2 b fun h=>hS (by rw [<- h]; exact hb')]; exact e
  ·refine fin s2 (Moved.trans W.gtrans ((m.mono sub).then_heap (Nat.le_succ _) fun b o hb' e=>?_) m2) q4
   rw [sb.2 b fun h=>hb' (by rw [h]; exact List.mem_cons_self)]; exact e
end
section
variable {P : Program} {w : World} {A : Around} {E : Value -> Shared -> Prop} {s : Shared}
noncomputable abbrev zfy (led : Bool) : Obj:={ cls:=.type "set",dict:=none,data:=.set #[] 0 (.fresh 0 0 led) }
theorem z57 (a : Value) {Q : Value -> Shared -> Prop} (h : Q (.ref s.heap.objs.size) { s with heap:=s.heap.push (zfy (zes w)) }) :
  codeAny (model P w) A (.call (.builtin "set.__new__") ⟨[.type "set",a],[]⟩) (wants Q E) s:=by
 refine codeAny_of_tree ?_
 show wpAny _ A.in1 (do checkBuiltinCall "set.__new__" ⟨[.type "set",a],[]⟩; again (.builtin "set.__new__" ⟨[.type "set",a],[]⟩)) _ _ s
 refine wpAny_bind (wpAny_of_eq (F.newCall_set_1 a) (wpAny_pure ⟨plainId_quiet F.plain_set_new _,codeAny_builtin F.entry_set_new ?_⟩))
 rw [Around.under_plainId F.plain_set_new _]
 unfold Builtin.«set.__new__» Builtin.Frozenset.newClass
 have hsub:=sub_set_self
 obtain ⟨hp,g,d,tk,os⟩:=s
 dsimp only
 wp_walk
 refine wpAny_askSetting (wpAny_pure ?_)
 dsimp only
 simp only [newObj]
 refine wpAny_bind (wpAny_alloc (wpAny_pure ?_))
 exact wpAny_pure h
theorem z77 (h : Heap) (led : Bool) : zd7 P w (h.push (zfy led)) h.objs.size led (fun _=>false) 0 :=
 ⟨_,#[],0,_,Heap.get?_push_size _ rfl,⟨rfl,rfl,rfl⟩,rfl,fun e he=>by simp at he,fun k=>by simp,by decide,rfl,rfl,by unfold Ris; simp [SetTable.fresh],rfl⟩
end
set_option maxRecDepth 100000
section
variable {P : Program} {w : World} {A : Around} {E : Value -> Shared -> Prop} {s : Shared}
set_option maxHeartbeats 8000000 in
theorem zxo {l : Addr} {items : Array Value} {ns : List Int} {Q : Value -> Shared -> Prop} (hh : A.handled = none) (hl : s.heap.IsList l items) (hi : IntsAre items.toList ns) (hb : items.size + 1 < scanBound)
  (h : ∀ (h' : Heap) (tk : Nat),zd7 P w h' s.heap.objs.size (zes w) (fun j=>(firstMet (fun i=>ns.getD i 0) items.size).any (· == j)) (firstMet (fun i=>ns.getD i 0) items.size).length ->
   (∀ b o,b < s.heap.objs.size -> s.heap.get? b = some o -> h'.get? b = some o) -> s.toks <= tk -> Q (.ref s.heap.objs.size) { s with heap:=h',toks:=tk }) :
  wpAny (model P w) A (call (.type "set") [.ref l]) Q E s:=by
 obtain ⟨c,tl,hmro⟩:=F.called_set.mro
 have hmade:=F.called_set.made
 have hsub:=F.called_set.sub
 refine wpAny_call (codeAny_of_tree ?_)
 show wpAny _ _ (callAny (.type "set") _) _ _ _
 refine wpAny_pure ⟨Code.quiet_builtin _ (by decide +kernel),codeAny_builtin F.entry_type_call ?_⟩
 rw [Around.under_plain (weight_type_call_type "set" [.ref l] []) rfl]
 have h1:=F.called_set.notType
 have h2:=F.called_set.canCreate
 have hct:=F.typeCall_set_1 (.ref l)
 repeat (any_goals (first | assumption | wp_step))
 refine codeAny_mono (z57 (.ref l) (E:=E) (Q:=fun ob s₁=>ob = .ref s.heap.objs.size /\ s₁ = { s with heap:=s.heap.push (zfy (zes w)) }) ⟨rfl,rfl⟩) fun r s₁ hr=>?_
 cases r with
 | error e=>exact hr
 | ok fl =>
  cases fl with
  | ret ob =>
   obtain ⟨rfl,rfl⟩:=hr
   have g0 : (s.heap.push (zfy (zes w))).get? s.heap.objs.size = some (zfy (zes w)):=Heap.get?_push_size _ rfl
   have hT : Shared.TypeIs { s with heap:=s.heap.push (zfy (zes w)) } (.ref s.heap.objs.size) "set":=⟨_,g0,rfl⟩
   have hli:=F.called_set.init.lookup
   have hbi:=F.called_set.init.bind (.ref s.heap.objs.size)
   repeat (any_goals (first | assumption | wp_step))
   refine codeAny_mono (codeAny_call_builtin (R:=wants (fun r s₂=>r = .none /\ ∃ h' tk,s₂ = { s with heap:=h',toks:=tk } /\ s.toks <= tk /\
     zd7 P w h' s.heap.objs.size (zes w) (fun j=>(firstMet (fun i=>ns.getD i 0) items.size).any (· == j)) (firstMet (fun i=>ns.getD i 0) items.size).length /\
     (∀ b o,b < s.heap.objs.size -> s.heap.get? b = some o -> h'.get? b = some o)) E) F.called_set.init.plain F.entry_set_init (check_set_init_1 hT ?_)) fun r₂ s₂ hr₂=>?_
   ·obtain ⟨⟨oc,od,odt,os⟩,hol,hcl,nl,hdl⟩:=hl
    simp only at hcl hdl
    subst hcl hdl
    have hol' : (s.heap.push (zfy (zes w))).get? l = some { cls:=.type "list",dict:=od,data:=.seq items nl,slots:=os }:=Heap.get?_push_of_some _ hol
    have k1:=F.sub_list_set
    have k2:=F.sub_list_frozenset
    have k3 : (Value.type "list" == Value.type "dict") = false:=by decide
    have hl1 : (s.heap.push (zfy (zes w))).IsList l items:=⟨_,hol',rfl,nl,rfl⟩
    unfold Builtin.«set.__init__» noKeywords Builtin.Frozenset.updateFrom
    generalize hPI : pyIter = PI
    wp_walk
    subst hPI
    refine wpAny_pyIter_list hl1 (wpAny_bind (wpAny_runValue ?_))
    have lt : l < s.heap.objs.size:=Heap.lt_size hol
    have hh3 : A.in1.in1.in1.handled = none:=by simp [hh]
    have ne1 : l ≠ (s.heap.push (zfy (zes w))).objs.size:=by rw [Heap.size_push]; exact Nat.ne_of_lt (Nat.lt_succ_of_lt lt)
    have nin : s.heap.objs.size ∉ [(s.heap.push (zfy (zes w))).objs.size,l]:=by
     rw [Heap.size_push]
     simp only [List.mem_cons,List.not_mem_nil,or_false,not_or]
     exact ⟨Nat.ne_of_lt (Nat.lt_succ_self _),Nat.ne_of_gt lt⟩
    have hv : ∀ (i : Nat) (v : Value),items[i]? = some v -> ∃ t,v = .int ((fun i=>ns.getD i 0) i) t:=fun i v hv=>IntsAre.int_at hi i v (by rw [Array.getElem?_toList]; exact hv)
    refine z0d (led:=zes w) ((Walks.list hh3 _ l ne1 items).toS) s.heap.objs.size nin (fun i=>ns.getD i 0) hv hb (items.size - 0) 0 _ (by omega) (Nat.zero_le _) ⟨⟨_,Heap.get?_push_size _ rfl,rfl,rfl⟩,(hl1.push _)⟩ ?hS0 ?hR
    case hS0=>exact ((z77 (P:=P) (w:=w) s.heap (zes w)).stay fun o e=>Heap.get?_push_of_some _ e).congr (fun _=>rfl) rfl
    case hR =>
     intro s' hm hS'
     obtain ⟨h',g',d',tk',os'⟩:=s'
     have eg : g' = s.gens:=hm.gens
     have ed : d' = s.drawn:=hm.drawn
     have eo : os' = s.os:=hm.os
     subst eg ed eo
     show wpAny _ _ _ _ _ _
     refine wpAny_pure ?_
     show wpAny _ _ (ret Value.none) _ _ _
     refine wpAny_pure ⟨rfl,h',tk',rfl,hm.toks,hS',fun b o hb' e=>?_⟩
     have n2 : b ≠ (s.heap.push (zfy (zes w))).objs.size:=by rw [Heap.size_push]; exact Nat.ne_of_lt (Nat.lt_succ_of_lt hb')
     refine hm.heap b o ?_ (Heap.get?_push_of_some _ (Heap.get?_push_of_some _ e))
     simp only [List.mem_cons,List.not_mem_nil,or_false,not_or]
     exact ⟨Nat.ne_of_lt hb',n2⟩
   ·cases r₂ with
    | error e=>exact hr₂
    | ok fl₂ =>
     cases fl₂ with
     | ret r =>
      obtain ⟨rfl,h',tk,rfl,htk,q',kk⟩:=hr₂
      repeat (any_goals (first | assumption | wp_step))
      exact h _ _ q' kk htk
     | _=>exact hr₂.elim
  | _=>exact hr.elim
end
set_option maxRecDepth 100000
section
variable {P : Program} {w : World} {A : Around} {E : Value -> Shared -> Prop}
end
set_option maxRecDepth 100000
section
variable {P : Program} {w : World} {A : Around} {E : Value -> Shared -> Prop} {s : Shared}
end
set_option maxRecDepth 100000
section
variable {P : Program} {w : World} {A : Around} {E : Value -> Shared -> Prop} {s : Shared} {a : Addr} {o : Obj} {ents : Array (Int × Value)} {ep : Nat} {tb : SetTable}
end
section
variable {P : Program} {w : World} {a I T : Addr} {o : Obj} {ents : Array (Int × Value)} {ep n : Nat} {tb : SetTable}
end
set_option maxRecDepth 100000
section
variable {P : Program} {w : World} {A : Around} {E : Value -> Shared -> Prop} {s : Shared} {a : Addr}
end
set_option maxRecDepth 100000
section
variable {P : Program} {w : World} {A : Around} {E : Value -> Shared -> Prop} {s : Shared} {a : Addr}
end
noncomputable def zg1 (x : Int) : List Int -> List Int
 | []=>[x]
 | y :: r=>if x < y then x :: y :: r else if x = y then y :: r else y :: zg1 x r
noncomputable def zct (ns : List Int) : List Int:=ns.foldr zg1 []
theorem zro (x k : Int) : ∀ l : List Int,k ∈ zg1 x l ↔ k = x \/ k ∈ l
 | []=>by simp [zg1]
 | y :: r=>by
  unfold zg1
  split
  ·simp
  ·split
   ·rename_i e; subst e; simp
   ·rw [List.mem_cons,zro x k r,List.mem_cons]
    constructor
    ·rintro (h | h | h)
     ·exact .inr (.inl h)
     ·exact .inl h
     ·exact .inr (.inr h)
    ·rintro (h | h | h)
     ·exact .inr (.inl h)
     ·exact .inl h
     ·exact .inr (.inr h)
theorem zu3 (x : Int) : ∀ l : List Int,l.Pairwise (· < ·) -> (zg1 x l).Pairwise (· < ·)
 | [],_=>by simp [zg1]
 | y :: r,h=>by
  obtain ⟨h1,h2⟩:=List.pairwise_cons.mp h
  unfold zg1
  split
  ·rename_i hx
   refine List.pairwise_cons.mpr ⟨fun k hk=>?_,h⟩
   rcases List.mem_cons.mp hk with e | hk
   ·subst e; exact hx
   ·exact Int.lt_trans hx (h1 k hk)
  ·split
   ·exact h
   ·rename_i a b
    refine List.pairwise_cons.mpr ⟨fun k hk=>?_,zu3 x r h2⟩
    rcases (zro x k r).mp hk with e | hk
    ·subst e; omega
    ·exact h1 k hk
theorem zle (k : Int) : ∀ l : List Int,k ∈ zct l ↔ k ∈ l
 | []=>by simp [zct]
 | x :: l=>by
  show k ∈ zg1 x (zct l) ↔ _
  rw [zro,zle k l,List.mem_cons]
theorem zoz : ∀ l : List Int,(zct l).Pairwise (· < ·)
 | []=>by simp [zct]
 | x :: l=>zu3 x _ (zoz l)
theorem zti : ∀ (l m : List Int),l.Pairwise (· < ·) -> m.Pairwise (· < ·) -> (∀ k,k ∈ l ↔ k ∈ m) -> l = m
 | [],[],_,_,_=>rfl
 | [],y :: m,_,_,h=>by have:=(h y).mpr List.mem_cons_self; simp at this
 | x :: l,[],_,_,h=>by have:=(h x).mp List.mem_cons_self; simp at this
 | x :: l,y :: m,hl,hm,h=>by
  obtain ⟨l1,l2⟩:=List.pairwise_cons.mp hl
  obtain ⟨m1,m2⟩:=List.pairwise_cons.mp hm
  have e : x = y:=by
   rcases List.mem_cons.mp ((h x).mp List.mem_cons_self) with e | hx
   ·exact e
   ·rcases List.mem_cons.mp ((h y).mpr List.mem_cons_self) with e | hy
    ·exact e.symm
    ·have:=m1 x hx; have:=l1 y hy; omega
  subst e
  rw [zti l m l2 m2 fun k=>?_]
  constructor
  ·intro hk
   rcases List.mem_cons.mp ((h k).mp (List.mem_cons_of_mem _ hk)) with e | q
   ·have:=l1 k hk; omega
   ·exact q
  ·intro hk
   rcases List.mem_cons.mp ((h k).mpr (List.mem_cons_of_mem _ hk)) with e | q
   ·have:=m1 k hk; omega
   ·exact q
theorem znz : ∀ (F L : List Int),F.Nodup -> (∀ x ∈ F,x ∈ L) -> L.length <= F.length -> L.Perm F
 | [],L,_,_,h=>by
  obtain rfl : L = []:=List.length_eq_zero_iff.mp (by simpa using h)
  exact .refl _
 | x :: F,L,hn,hs,h=>by
  obtain ⟨n1,n2⟩:=List.nodup_cons.mp hn
  have hx:=hs x List.mem_cons_self
  have p:=List.perm_cons_erase hx
  refine p.trans (List.Perm.cons x (znz F (L.erase x) n2 (fun y hy=>?_) ?_))
  ·have ne : y ≠ x:=fun e=>by subst e; exact n1 hy
   exact (List.mem_erase_of_ne ne).mpr (hs y (List.mem_cons_of_mem _ hy))
  ·rw [List.length_erase_of_mem hx]
   simp at h
   omega
theorem zrl (val : Nat -> Int) : ∀ i,(firstMet val i).Nodup
 | 0=>by rw [firstMet_zero]; exact List.nodup_nil
 | i + 1=>by
  rw [firstMet_succ]
  unfold step_dedup
  split
  ·exact zrl val i
  ·rename_i h
   refine List.nodup_append.mpr ⟨zrl val i,by simp,fun a ha b hb e=>?_⟩
   have : b = val i:=by simpa using hb
   rw [e,this] at ha
   exact h (List.any_eq_true.mpr ⟨_,ha,by simp⟩)
theorem z47 (ns : List Int) (k : Int) : (firstMet (fun i=>ns.getD i 0) ns.length).any (· == k) = true ↔ k ∈ ns:=by
 rw [firstMet_any]
 have e : (List.range ns.length).map (fun i=>ns.getD i 0) = ns:=by
  refine List.ext_getElem? fun i=>?_
  rw [List.getElem?_map]
  by_cases hi : i < ns.length
  ·rw [List.getElem?_range hi]
   simp [List.getD_eq_getElem?_getD,hi]
  ·rw [List.getElem?_eq_none (by rw [List.length_range]; omega),List.getElem?_eq_none (by omega)]
   rfl
 rw [e,List.any_eq_true]
 exact ⟨fun ⟨x,hx,q⟩=>by have:=beq_iff_eq.mp q; exact this ▸ hx,fun h=>⟨k,h,by simp⟩⟩
theorem zt6 (ns : List Int) : (zct ns).length = (firstMet (fun i=>ns.getD i 0) ns.length).length:=by
 have nd:=zrl (fun i=>ns.getD i 0) ns.length
 have nd' : (zct ns).Nodup:=(zoz ns).imp fun h=>Int.ne_of_lt h
 have m : ∀ x,x ∈ firstMet (fun i=>ns.getD i 0) ns.length ↔ x ∈ zct ns:=fun x=>by
  refine Iff.trans ?_ (zle x ns).symm
  refine Iff.trans ?_ (z47 ns x)
  rw [List.any_eq_true]
  exact ⟨fun h=>⟨x,h,by simp⟩,fun ⟨y,hy,q⟩=>by have:=beq_iff_eq.mp q; exact this ▸ hy⟩
 rcases Nat.le_total (zct ns).length (firstMet (fun i=>ns.getD i 0) ns.length).length with h | h
 ·exact (znz _ _ nd (fun x hx=>(m x).mp hx) h).length_eq
 ·exact (znz _ _ nd' (fun x hx=>(m x).mpr hx) h).length_eq.symm
section
variable {X : Cx} {pins : List (Addr × Obj)} {σ : St} {H : Hp} {s : Shared}
end
theorem zs9 : ∀ {vs : List Value} {ns : List Int},IntsAre vs ns -> za8 (ns.map V.int) vs
 | _,_,.nil=>.nil
 | _,_,.cons n t h=>.cons ⟨t,rfl⟩ (zs9 h)
theorem zo3 : ∀ {ns : List Int} {vs : List Value},za8 (ns.map V.int) vs -> IntsAre vs ns
 | [],_,.nil=>.nil
 | n :: ns,_,.cons ⟨t,e⟩ h=>by subst e; exact .cons n t (zo3 h)
section
variable {X : Cx} {e : Expr} {te : TE} {p p2 pos pos2 : Pos}
end
noncomputable def zsD : List D -> Option (List Int)
 | []=>some []
 | .int i :: r=>(zsD r).map (i :: ·)
 | _ :: _=>none
theorem zq9 : ∀ {ds : List D} {ns : List Int},zsD ds = some ns -> ds = ns.map D.int
 | [],_,h=>by cases h; rfl
 | .int i :: r,ns,h=>by
  replace h : (zsD r).map (i :: ·) = some ns:=h
  cases e : zsD r with
  | none=>rw [e] at h; cases h
  | some m=>rw [e] at h; cases h; rw [zq9 e]; rfl
 | .non :: _,_,h=>by cases h
 | .bl _ :: _,_,h=>by cases h
 | .str _ :: _,_,h=>by cases h
 | .lst _ :: _,_,h=>by cases h
 | .tup _ :: _,_,h=>by cases h
 | .kl _ :: _,_,h=>by cases h
 | .kt _ :: _,_,h=>by cases h
 | .dic _ _ :: _,_,h=>by cases h
 | .ins _ _ _ :: _,_,h=>by cases h
theorem zp4 : ∀ (ns : List Int),zsD (ns.map D.int) = some ns
 | []=>rfl
 | n :: ns=>by show (zsD (ns.map D.int)).map (n :: ·) = _; rw [zp4 ns]; rfl
theorem zqi {G : Gc} {H : Hp} : ∀ {ns : List Int} {vs : List V},zas G H (ns.map D.int) vs -> vs = ns.map V.int
 | [],_,h=>h
 | n :: ns,_,⟨v,r,e,h1,h2⟩=>by rw [e,show v = V.int n from h1,zqi h2]; rfl
section
variable {c : Str -> Addr} {X : Cx} {e : Expr} {p p2 pos pos2 : Pos}
noncomputable def zcz (f g : List Sl -> Option D) (ρ : List Sl) : Option (List D):=(f ρ).bind fun x=>(g ρ).bind fun y=>match x,y with
 | .lst a,.lst b=>if a.length + b.length <= 16777216 then some (a ++ b) else none
 | _,_=>none
theorem zxb {f g : List Sl -> Option D} {ρ : List Sl} {ds : List D} (h : zcz f g ρ = some ds) : ∃ a b,f ρ = some (.lst a) /\ g ρ = some (.lst b) /\ a.length + b.length <= 16777216 /\ ds = a ++ b:=by
 unfold zcz at h
 cases e1 : f ρ with
 | none=>rw [e1] at h; cases h
 | some x =>
  cases e2 : g ρ with
  | none=>rw [e1,e2] at h; cases h
  | some y =>
   rw [e1,e2,Option.bind_some,Option.bind_some] at h
   split at h
   ·split at h
    ·rename_i a b hl
     cases h
     exact ⟨a,b,rfl,rfl,hl,rfl⟩
    ·cases h
   ·cases h
theorem zds {a b : Expr} {f g : List Sl -> Option D} (ha : DE c X a f) (hb : DE c X b g) : DO c X (.BinOp a .Add b pos) (zcz f g):=PE.imp (zsj zsp ha hb) fun σ H Q q_=>by
 obtain ⟨Hf0,H0,Hf,ρ,ds,st,ef,k⟩:=q_
 obtain ⟨xs,ys,e1,e2,hl,rfl⟩:=zxb ef
 refine ⟨Hf0,H0,Hf,ρ,_,st,e1,fun v Hf1 H1 x1 r1=>⟨Hf0,H0,Hf1,ρ,_,st.step x1,e2,fun u Hf2 H2 x2 r2=>?_⟩⟩
 obtain ⟨l,vs,el,q1,s1⟩:=r1.up x2.f
 obtain ⟨m,us,em,q2,s2⟩:=r2
 subst el em
 have x:=x1.trans x2
 exact ⟨l,m,vs,us,rfl,rfl,x2.s _ _ q1,x2.s _ _ q2,by rw [sizeLine_eq,<- s1.length,<- s2.length]; exact hl,fun p hp=>k p _ Hf2 _ (x.trans (Ext.tmp x.s hp)) (x.h.free hp) (x.s.free hp) zcg (s1.append s2)⟩
end
noncomputable def wp (F : List Sl -> Option Fl) (ρ : List Sl) (K : Fl -> Prop) : Prop:=∃ o,F ρ = some o /\ K o
noncomputable def zs8 (F : List Sl -> Option Fl) (K : Fl -> Prop) : Fl -> Prop
 | .nx ρ=>wp F ρ K
 | o=>K o
noncomputable def zo6 (J : List Sl -> Prop) (K : Fl -> Prop) : Fl -> Prop
 | .nx ρ=>J ρ
 | .ct ρ=>J ρ
 | .bk ρ=>K (.nx ρ)
 | o=>K o
noncomputable def zna (Q : D -> Prop) (o : Fl) : Prop:=∃ d,zpa o = some d /\ Q d
theorem zam {F F' : List Sl -> Option Fl} {ρ : List Sl} {K : Fl -> Prop} (h : wp F ρ (zs8 F' K)) : wp (zai F F') ρ K:=by
 obtain ⟨o,e,k⟩:=h
 unfold wp zai
 rw [e]
 cases o with
 | nx ρ'=>exact k
 | _=>exact ⟨_,rfl,k⟩
theorem zbo {ρ : List Sl} {K : Fl -> Prop} (h : K (.nx ρ)) : wp zbf ρ K:=⟨_,rfl,h⟩
theorem zbs {i : Nat} {f : List Sl -> Option D} {ρ : List Sl} {d : D} {K : Fl -> Prop} (h : f ρ = some d) (k : K (.nx (ρ.set i (.im d)))) : wp (zbd i f) ρ K:=⟨_,zt5 h,k⟩
theorem zer {i : Nat} {f : List Sl -> Option (List D)} {ρ : List Sl} {d : List D} {K : Fl -> Prop} (h : f ρ = some d) (k : K (.nx (ρ.set i (.own d)))) : wp (zdb i f) ρ K:=⟨_,z46 h,k⟩
theorem zbw {f : List Sl -> Option D} {ρ : List Sl} {d : D} {K : Fl -> Prop} (h : f ρ = some d) (k : K (.rt d)) : wp (zav f) ρ K:=⟨_,zcj h,k⟩
theorem z36 {f : List Sl -> Option (List D)} {ρ : List Sl} {d : List D} {K : Fl -> Prop} (h : f ρ = some d) (k : K (.rtO d)) : wp (zgq f) ρ K:=⟨_,by unfold zgq; rw [h]; rfl,k⟩
theorem zaz {t : List Sl -> Option Bool} {F F' : List Sl -> Option Fl} {ρ : List Sl} {b : Bool} {K : Fl -> Prop} (h : t ρ = some b) (kT : b = true -> wp F ρ K) (kF : b = false -> wp F' ρ K) : wp (za4 t F F') ρ K:=by
 unfold wp za4
 rw [h]
 cases b with
 | true=>exact kT rfl
 | false=>exact kF rfl
theorem zhw {i : Nat} {F : List Sl -> Option Fl} {ρ ρ' : List Sl} {K : Fl -> Prop} (e : znu i ρ = ρ') (h : wp F ρ' K) : wp (ze5 i F) ρ K:=by
 subst e
 exact h
theorem zhq {i : Nat} {f : List Sl -> Option D} {ρ : List Sl} {d : D} {xs : List D} {K : Fl -> Prop} (h : f ρ = some d) (h' : ρ[i]? = some (.own xs)) (hl : xs.length < 16777216) (k : K (.nx (ρ.set i (.own (xs ++ [d]))))) : wp (ze9 i f) ρ K:=⟨_,z6n h h' hl,k⟩
theorem zy0 {i : Nat} {fk fv : List Sl -> Option D} {ρ : List Sl} {d : D} {xs : List D} {k : Int} (hv : fv ρ = some d) (hk : fk ρ = some (.int k)) (h' : ρ[i]? = some (.own xs)) (h0 : 0 <= k) (h1 : k < xs.length) : zfa i fk fv ρ = some (.nx (ρ.set i (.own (xs.set k.toNat d)))):=by
 have e : ixN xs.length k = some k.toNat:=by
  unfold ixN
  rw [if_pos h0,if_pos h1]
 unfold zfa
 rw [hv,Option.bind_some,hk,Option.bind_some]
 show (match ρ[i]? with | some (.own xs)=>(ixN xs.length k).map fun j=>Fl.nx (ρ.set i (.own (xs.set j d))) | _=>none) = _
 rw [h']
 show (ixN xs.length k).map _ = _
 rw [e]
 rfl
theorem zii {i : Nat} {fk fv : List Sl -> Option D} {ρ : List Sl} {d : D} {xs : List D} {k : Int} {K : Fl -> Prop} (hv : fv ρ = some d) (hk : fk ρ = some (.int k)) (h' : ρ[i]? = some (.own xs)) (h0 : 0 <= k) (h1 : k < xs.length) (q : K (.nx (ρ.set i (.own (xs.set k.toNat d))))) : wp (zfa i fk fv) ρ K:=⟨_,zy0 hv hk h' h0 h1,q⟩
theorem ztc {α : Type} {g : D -> List Sl -> Option (List Sl)} {F : List Sl -> Option Fl} {K : Fl -> Prop} (f : α -> D) (I : List α -> List Sl -> Prop) : ∀ (post pre : List α) (ρ : List Sl),I pre ρ ->
  (∀ pre' x post' ρ,pre ++ post = pre' ++ x :: post' -> I pre' ρ -> ∃ ρ1,g (f x) ρ = some ρ1 /\ wp F ρ1 (zo6 (I (pre' ++ [x])) K)) -> (∀ ρ',I (pre ++ post) ρ' -> K (.nx ρ')) -> wp (zfk g F (post.map f)) ρ K
 | [],pre,ρ,h,_,hk=>⟨_,rfl,hk ρ (by rw [List.append_nil]; exact h)⟩
 | x :: post,pre,ρ,h,hs,hk=>by
  obtain ⟨ρ1,e1,o,e2,k2⟩:=hs pre x post ρ rfl h
  unfold wp
  rw [List.map_cons]
  unfold zfk
  rw [e1,Option.bind_some,e2,Option.bind_some]
  have go : ∀ ρ2,I (pre ++ [x]) ρ2 -> wp (zfk g F (post.map f)) ρ2 K:=fun ρ2 h2 =>
   ztc f I post (pre ++ [x]) ρ2 h2 (by rw [List.append_assoc]; exact hs) (by rw [List.append_assoc]; exact hk)
  cases o with
  | nx ρ2=>exact go ρ2 k2
  | ct ρ2=>exact go ρ2 k2
  | bk ρ2=>exact ⟨_,rfl,k2⟩
  | rt d=>exact ⟨_,rfl,k2⟩
  | rtO d=>exact ⟨_,rfl,k2⟩
  | rtS d ρ2=>exact ⟨_,rfl,k2⟩
theorem zea {α : Type} {fi : List Sl -> Option (List D)} {g : D -> List Sl -> Option (List Sl)} {F : List Sl -> Option Fl} {ρ : List Sl} {K : Fl -> Prop} (xs : List α) (f : α -> D) (I : List α -> List Sl -> Prop) (hi : fi ρ = some (xs.map f)) (h0 : I [] ρ)
  (hs : ∀ pre x post ρ,xs = pre ++ x :: post -> I pre ρ -> ∃ ρ1,g (f x) ρ = some ρ1 /\ wp F ρ1 (zo6 (I (pre ++ [x])) K)) (hk : ∀ ρ',I xs ρ' -> K (.nx ρ')) : wp (zc5 fi g F) ρ K:=by
 obtain ⟨o,e,k⟩:=ztc f I xs [] ρ h0 hs hk
 refine ⟨o,?_,k⟩
 unfold zc5
 rw [hi]
 exact e
theorem zt8 {t : List Sl -> Option Bool} {F : List Sl -> Option Fl} {K : Fl -> Prop} (I : Nat -> List Sl -> Prop) (hs : ∀ m ρ,I m ρ -> ∃ b,t ρ = some b /\ (b = true -> wp F ρ (zo6 (fun ρ'=>∃ m',m' < m /\ I m' ρ') K)) /\ (b = false -> K (.nx ρ))) :
  ∀ (n m : Nat) (ρ : List Sl),I m ρ -> m < n -> wp (zge t F n) ρ K
 | 0,m,ρ,_,h=>absurd h (Nat.not_lt_zero _)
 | n + 1,m,ρ,h,hn=>by
  obtain ⟨b,e,kT,kF⟩:=hs m ρ h
  unfold wp
  unfold zge
  rw [e,Option.bind_some]
  cases b with
  | false=>exact ⟨_,rfl,kF rfl⟩
  | true =>
   rw [if_pos rfl]
   obtain ⟨o,e2,k2⟩:=kT rfl
   rw [e2,Option.bind_some]
   have go : ∀ ρ2,(∃ m',m' < m /\ I m' ρ2) -> wp (zge t F n) ρ2 K:=fun ρ2 q=>by
    obtain ⟨m',hm,h2⟩:=q
    exact zt8 I hs n m' ρ2 h2 (by omega)
   cases o with
   | nx ρ2=>exact go ρ2 k2
   | ct ρ2=>exact go ρ2 k2
   | bk ρ2=>exact ⟨_,rfl,k2⟩
   | rt d=>exact ⟨_,rfl,k2⟩
   | rtO d=>exact ⟨_,rfl,k2⟩
   | rtS d ρ2=>exact ⟨_,rfl,k2⟩
theorem zg0 {n : Nat} {F : List Sl -> Option Fl} {ds : List D} {Q : D -> Prop} (h : wp F (zdx n ds) (zna Q)) : ∃ d,zbk n F ds = some d /\ Q d:=by
 obtain ⟨o,e,d,e',q⟩:=h
 refine ⟨d,?_,q⟩
 unfold zbk
 rw [e]
 exact e'
theorem zeb {n : Nat} {F : List Sl -> Option Fl} {ds : List D} {r : D} (h : wp F (zdx n ds) (zna fun d=>d = r)) : zbk n F ds = some r:=by
 obtain ⟨d,e,q⟩:=zg0 h
 rw [e,q]
theorem zbr {Q : D -> Prop} {d : D} (h : Q d) : zna Q (.rt d):=⟨d,rfl,h⟩
theorem zk2 {Q : D -> Prop} {d : List D} (h : Q (.lst d)) : zna Q (.rtO d):=⟨.lst d,rfl,h⟩
theorem zl5 {m : List D -> Option D} {f : List Sl -> Option (List D)} {ρ : List Sl} {ds : List D} {d : D} (h : f ρ = some ds) (h' : m ds = some d) (hs : d.scalar = true) : zhj m f ρ = some d:=by
 unfold zhj
 rw [h,Option.bind_some,h',Option.bind_some,if_pos hs]
theorem zdk {i j : Int} (h : 0 < j) : zbv (.int i) (.int j) = some (.int (i % j)):=zmp h
theorem zoa {i j : Int} (h : zlz i j) : zgg (.int i) (.int j) = some (.int (i / j)):=zmp h
theorem z87 {i j : Int} (h : zjd i j) : zp0 (.int i) (.int j) = some (.int (i ^ j.toNat)):=zmp h
theorem zhg {i j : Int} : zci (.int i) (.int j) = some (.int (i + j)):=rfl
theorem zqd {i j : Int} : zij (.int i) (.int j) = some (.int (i - j)):=rfl
theorem zj8 {i j : Int} : dLt (.int i) (.int j) = some (.bl (decide (i < j))):=rfl
theorem zv6 {i j : Int} : dLe (.int i) (.int j) = some (.bl (decide (i <= j))):=rfl
theorem zlp {i j : Int} : dGt (.int i) (.int j) = some (.bl (decide (j < i))):=rfl
theorem zc3 {α : Type} (xs : List α) (f : α -> D) : zcd [.lst (xs.map f)] = some (.int xs.length):=by
 show some (D.int ((xs.map f).length : Int)) = _
 rw [List.length_map]
theorem zt9 {α : Type} (f : α -> D) (xs : List α) (lo hi : Option Int) : zih (xs.map f) lo hi = ((xs.drop (HT.sIx xs.length 0 lo)).take (HT.sIx xs.length xs.length hi - HT.sIx xs.length 0 lo)).map f:=by
 unfold zih
 rw [List.length_map,List.map_take,List.map_drop]
theorem zc7 {α : Type} {f : List Sl -> Option D} {l h : List Sl -> Option (Option Int)} {ρ : List Sl} {g : α -> D} {xs : List α} {lo hi : Option Int} (e : f ρ = some (.lst (xs.map g))) (e1 : l ρ = some lo) (e2 : h ρ = some hi) : mSl f l h ρ = some (((xs.drop (HT.sIx xs.length 0 lo)).take (HT.sIx xs.length xs.length hi - HT.sIx xs.length 0 lo)).map g):=by
 unfold mSl
 rw [e,Option.bind_some]
 show (l ρ).bind (fun lo=>(h ρ).map fun hi=>zih (xs.map g) lo hi) = _
 rw [e1,Option.bind_some,e2,<- zt9]
 rfl
theorem zpd {α : Type} {f : List Sl -> Option D} {l h : List Sl -> Option (Option Int)} {ρ : List Sl} {g : α -> D} {xs : List α} {lo hi : Option Int} (e : f ρ = some (.kl (xs.map g))) (e1 : l ρ = some lo) (e2 : h ρ = some hi) : mSl f l h ρ = some (((xs.drop (HT.sIx xs.length 0 lo)).take (HT.sIx xs.length xs.length hi - HT.sIx xs.length 0 lo)).map g):=by
 unfold mSl
 rw [e,Option.bind_some]
 show (l ρ).bind (fun lo=>(h ρ).map fun hi=>zih (xs.map g) lo hi) = _
 rw [e1,Option.bind_some,e2,<- zt9]
 rfl
theorem znd {α : Type} (xs : List α) (f : α -> D) : dEq (.lst (xs.map f)) (.lst []) = some (.bl xs.isEmpty):=by cases xs <;> rfl
theorem zi8 {α : Type} (xs : List α) (f : α -> D) : dNe (.lst (xs.map f)) (.lst []) = some (.bl (!xs.isEmpty)):=by cases xs <;> rfl
theorem zwv {α : Type} (g : α -> D) (d : α) : ∀ (xs : List α),zgh 0 (xs.map g) = (List.range xs.length).map fun i=>D.tup [.int (i : Nat),g (xs.getD i d)]:=fun xs=>by
 refine List.ext_getElem? fun i=>?_
 rw [zly,List.getElem?_map,List.getElem?_map]
 by_cases h : i < xs.length
 ·rw [List.getElem?_eq_getElem h,List.getElem?_range h,Nat.zero_add]
  simp [h]
 ·rw [List.getElem?_eq_none (by omega),List.getElem?_eq_none (by rw [List.length_range]; omega)]
  rfl
theorem ziw {α : Type} {f : List Sl -> Option (List D)} {ρ : List Sl} {g : α -> D} {xs : List α} (d : α) (e : f ρ = some [.lst (xs.map g)]) : zfe f ρ = some ((List.range xs.length).map fun i=>D.tup [.int (i : Nat),g (xs.getD i d)]):=by
 unfold zfe
 rw [e,<- zwv]
 rfl
theorem z1o {α : Type} (f : α -> Bool) (xs : List α) : (xs.map fun x=>D.bl (f x)) = (xs.map f).map D.bl:=by
 rw [List.map_map]
 rfl
theorem z2e {α : Type} (f : α -> Int) (xs : List α) : (xs.map fun x=>D.int (f x)) = (xs.map f).map D.int:=by
 rw [List.map_map]
 rfl
noncomputable def kJ (J : List Sl -> Prop) (o : Fl) : Prop:=∃ ρ',o = .nx ρ' /\ J ρ'
theorem k_J {J : List Sl -> Prop} {ρ : List Sl} (h : J ρ) : kJ J (.nx ρ):=⟨ρ,rfl,h⟩
theorem zic {S F : List Sl -> Option Fl} {ρ : List Sl} {K : Fl -> Prop} (J : List Sl -> Prop) (h : wp S ρ (kJ J)) (k : ∀ ρ',J ρ' -> wp F ρ' K) : wp (zai S F) ρ K:=by
 apply zam
 obtain ⟨o,e,ρ',rfl,j⟩:=h
 exact ⟨_,e,k ρ' j⟩
theorem zgv {i : Nat} {ρ : List Sl} {d : List D} {K : Fl -> Prop} (h : ρ[i]? = some (.own d)) (k : K (.rtO d)) : wp (zet i) ρ K:=⟨_,by unfold zet; rw [h],k⟩
noncomputable def D.flat : D -> Bool
 | .tup xs=>xs.all D.scalar
 | d=>d.scalar
noncomputable def zia (Hf H : Hp) : Hp:=fun a=>match H a with
 | some (.tup vs)=>some (.tup vs)
 | _=>Hf a
theorem zok {Hf H : Hp} {a : Addr} {vs : List V} (h : H a = some (.tup vs)) : zia Hf H a = some (.tup vs):=by
 unfold zia
 rw [h]
theorem zpl {Hf H : Hp} {a : Addr} (h : ∀ vs,H a ≠ some (.tup vs)) : zia Hf H a = Hf a:=by
 unfold zia
 split
 ·rename_i vs e
  exact absurd e (h vs)
 ·rfl
theorem z05 {Hf H H' : Hp} (s : za5 Hf H) (g : za5 H H') : Ext Hf H (zia Hf H') H':=by
 refine ⟨fun b u e=>?_,g,fun b u e=>?_,fun l o e t=>zpl fun vs q=>?_⟩
 ·have e':=g b u (s b u e)
  cases u with
  | tup vs=>exact zok e'
  | _ =>
   rw [zpl (fun vs q=>by rw [e'] at q; cases q)]
   exact e
 ·by_cases h : ∃ vs,H' b = some (.tup vs)
  ·obtain ⟨vs,h⟩:=h
   rw [zok h] at e
   rw [h]
   exact e
  ·rw [zpl (fun vs q=>h ⟨vs,q⟩)] at e
   exact g b u (s b u e)
 ·rw [g l o e] at q
  cases q
  cases t
theorem zas.sc {G : Gc} {H H' : Hp} : ∀ {ds : List D} {vs : List V},ds.all D.scalar = true -> zas G H ds vs -> zas G H' ds vs
 | [],_,_,h=>h
 | d :: ds,_,hs,⟨v,r,e,h1,h2⟩=>by
  rw [List.all_cons,Bool.and_eq_true] at hs
  exact ⟨v,r,e,h1.sc hs.1,zas.sc hs.2 h2⟩
theorem Rep.flat {G : Gc} {Hf H : Hp} {d : D} {v : V} (hs : d.flat = true) (r : Rep G H d v) : Rep G (zia Hf H) d v:=by
 cases d with
 | tup xs =>
  obtain ⟨a,vs,e,h,q⟩:=r
  exact ⟨a,vs,e,zok h,q.sc hs⟩
 | non=>exact r.sc hs
 | bl _=>exact r.sc hs
 | int _=>exact r.sc hs
 | str _=>exact r.sc hs
 | lst _=>cases hs
 | kl _=>cases hs
 | kt _=>cases hs
 | dic _ _=>cases hs
 | ins _ _ _=>cases hs
section
variable {c : Str -> Addr} {X : Cx} {e : Expr} {es : List Expr} {x : Str} {p pos : Pos} {k : Nat} {f : Addr} {fd : FuncData} {ps : List Str} {fa : List Sl -> Option (List D)}
noncomputable def zlh (m : List D -> Option D) (f : List Sl -> Option (List D)) (ρ : List Sl) : Option D:=(f ρ).bind fun ds=>(m ds).bind fun d=>if d.flat then some d else none
theorem zxl {m : List D -> Option D} (F : zax X.prog X.w X.K X.mg X.base CX0 k f fd ps (spD (Gx c X) ps.length m)) (hr : zce k X.A) (hg : Gl X x) (hm : X.mg x = some (.ref f)) (hk : PySem.W.keepIn X.K (.ref f) = true) (hb : za2 X.K fd ps []) (ha : DAB c X (e :: es) fa)
  (hl : (e :: es).length = ps.length:=by rfl) (hdb : (x == ("__debug__" : Str)) = false:=by decide) (he : starEach (e :: es) X.env = (false,eval e X.env) :: starEach es X.env:=by rfl) (hpl : (backTo pos (starEach es X.env)).any (·.1) = false:=by rfl) :
  DE c X (.Call (.Name x p) (e :: es) [] pos) (zlh m fa):=PE.imp (zik F hr hg hm hk hb .nil zg6 ha.pa hdb he hpl) fun σ H Q q_=>by
 obtain ⟨Hf0,H0,Hf,ρ,d,st,ef,kq⟩:=q_
 unfold zlh at ef
 cases e1 : fa ρ with
 | none=>rw [e1] at ef; cases ef
 | some ds =>
  rw [e1] at ef
  replace ef : (m ds).bind _ = _:=ef
  cases e2 : m ds with
  | none=>rw [e2] at ef; cases ef
  | some d' =>
   rw [e2] at ef
   replace ef : (if d'.flat = true then some d' else none) = some d:=ef
   split at ef
   ·rename_i hs
    cases ef
    refine ⟨Hf0,H0,Hf,ρ,ds,st,e1,fun vs Hf' H' x r=>?_⟩
    dsimp only
    rw [List.append_nil]
    exact ⟨H',ds,_,za5.refl _,r,(ha.len ρ ds e1).trans hl,e2,fun v Hf2 H2 x2 r2=>kq v (zia Hf' H2) H2 (x.trans (z05 x.s x2.h)) ((r2.up x2.s).flat hs)⟩
   ·cases ef
theorem zz4 {m : List D -> Option D} (F : zax X.prog X.w X.K X.mg X.base CX0 k f fd ps (spD (Gx c X) ps.length m)) (hr : zce k X.A) (hg : Gl X x) (hm : X.mg x = some (.ref f)) (hk : PySem.W.keepIn X.K (.ref f) = true) (hb : za2 X.K fd ps []) (ha : DAB c X (e :: es) fa)
  (hl : (e :: es).length = ps.length:=by rfl) (hdb : (x == ("__debug__" : Str)) = false:=by decide) (he : starEach (e :: es) X.env = (false,eval e X.env) :: starEach es X.env:=by rfl) (hpl : (backTo pos (starEach es X.env)).any (·.1) = false:=by rfl) :
  DB c X (.Call (.Name x p) (e :: es) [] pos) (zap m fa):=PE.imp (zik F hr hg hm hk hb .nil zg6 ha.pa hdb he hpl) fun σ H Q q_=>by
 obtain ⟨Hf0,H0,Hf,ρ,d,st,ef,kq⟩:=q_
 obtain ⟨ds,e1,e2⟩:=zo5 ef
 refine ⟨Hf0,H0,Hf,ρ,ds,st,e1,fun vs Hf' H' x r=>?_⟩
 dsimp only
 rw [List.append_nil]
 exact ⟨H',ds,d,za5.refl _,r,(ha.len ρ ds e1).trans hl,e2,fun v Hf2 H2 x2 r2=>kq v Hf' H2 (x.trans (Ext.grow x.s x2.h)) (r2.up x2.s)⟩
noncomputable def ziu (m m' : D -> D -> Option D) (f g h : List Sl -> Option D) (ρ : List Sl) : Option D:=(f ρ).bind fun x=>(g ρ).bind fun y=>(m x y).bind fun z=>match z with
 | .bl true=>(h ρ).bind fun w=>m' y w
 | .bl false=>some (.bl false)
 | _=>none
theorem z6k {m m' : D -> D -> Option D} {f g h : List Sl -> Option D} {ρ : List Sl} {d : D} (e : ziu m m' f g h ρ = some d) : ∃ x y b,f ρ = some x /\ g ρ = some y /\ m x y = some (.bl b) /\ (b = false -> d = .bl false) /\ (b = true -> ∃ w,h ρ = some w /\ m' y w = some d):=by
 unfold ziu at e
 cases e1 : f ρ with
 | none=>rw [e1] at e; cases e
 | some x =>
  cases e2 : g ρ with
  | none=>rw [e1,e2] at e; cases e
  | some y =>
   rw [e1,e2,Option.bind_some,Option.bind_some] at e
   cases e3 : m x y with
   | none=>rw [e3] at e; cases e
   | some z =>
    rw [e3,Option.bind_some] at e
    cases z with
    | bl b =>
     cases b with
     | false =>
      have e : some (D.bl false) = some d:=e
      exact ⟨x,y,false,rfl,rfl,e3,fun _=>(Option.some.inj e).symm,fun q=>by cases q⟩
     | true =>
      have e : (h ρ).bind (fun w=>m' y w) = some d:=e
      cases e4 : h ρ with
      | none=>rw [e4] at e; cases e
      | some w=>rw [e4] at e; exact ⟨x,y,true,rfl,rfl,e3,fun q=>(by cases q),fun _=>⟨w,rfl,e⟩⟩
    | _=>cases e
theorem z0z {a b c' : Expr} {op op' : CmpOp} {m m' : D -> D -> Option D} {f g h : List Sl -> Option D} (ho : OpD c X (compareOp op) m) (hs : ∀ x y d,m x y = some d -> d.scalar = true) (ho' : OpD c X (compareOp op') m') (hs' : ∀ x y d,m' x y = some d -> d.scalar = true) (ha : DB c X a f) (hb : DB c X b g) (hc : DB c X c' h)
  (hm : lastMarks [op,op'] [b,c'] = false:=by with_unfolding_all rfl) : DE c X (.Compare a [op,op'] [b,c'] pos) (ziu m m' f g h):=PE.imp (z7p ho ho' ha hb hc hm) fun σ H Q q_=>by
 obtain ⟨Hf0,H0,Hf,ρ,d,st,ef,k⟩:=q_
 obtain ⟨x,y,b',e1,e2,e3,eF,eT⟩:=z6k ef
 refine ⟨Hf0,H0,Hf,ρ,x,st,e1,fun v Hf1 H1 x1 r1=>⟨Hf0,H0,Hf1,ρ,y,st.step x1,e2,fun u Hf2 H2 x2 r2=>⟨H2,x,y,.bl b',za5.refl _,r1.up x2.h,r2,e3,fun z Hf3 H3 x3 r3=>⟨b',r3,?_⟩⟩⟩⟩
 have x23 : Ext Hf2 H2 Hf2 H3:=Ext.grow x2.s x3.h
 have st3 : za0 (Gx c X) Hf0 H0 Hf2 H3 σ ρ:=(st.step (x1.trans x2)).step x23
 cases b' with
 | false =>
  rw [if_neg Bool.false_ne_true]
  exact k _ Hf2 H3 ((x1.trans x2).trans x23) (by rw [eF rfl]; rfl)
 | true =>
  rw [if_pos rfl]
  obtain ⟨w,e4,e5⟩:=eT rfl
  exact ⟨Hf0,H0,Hf2,ρ,w,st3,e4,fun w' Hf4 H4 x4 r4=>⟨H4,y,w,d,za5.refl _,r2.up (x3.h.trans x4.h),r4,e5,fun q Hf5 H5 x5 r5=>k _ Hf4 H5 (((x1.trans x2).trans x23).trans (x4.trans (Ext.grow x4.s x5.h))) (r5.sc (hs' _ _ _ e5))⟩⟩
end
theorem zsf {m : List D -> Option (List D)} {f : List Sl -> Option (List D)} {ρ : List Sl} {ds rs : List D} (h : f ρ = some ds) (h' : m ds = some rs) : zky m f ρ = some rs:=by
 unfold zky
 rw [h,Option.bind_some,h']
theorem zts {n : Nat} {F : List Sl -> Option Fl} {ds rs : List D} (h : F (zdx n ds) = some (.rtO rs)) : zk3 n F ds = some rs:=by
 unfold zk3
 rw [h]
 rfl
theorem zyx {m : List D -> Option D} {f : List Sl -> Option (List D)} {ρ : List Sl} {ds : List D} {d : D} (h : f ρ = some ds) (h' : m ds = some d) (hs : d.flat = true) : zlh m f ρ = some d:=by
 unfold zlh
 rw [h,Option.bind_some,h',Option.bind_some,if_pos hs]
theorem zxg {m m' : D -> D -> Option D} {f g h : List Sl -> Option D} {ρ : List Sl} {x y w : D} {b b' : Bool} (e1 : f ρ = some x) (e2 : g ρ = some y) (e3 : m x y = some (.bl b)) (e4 : h ρ = some w) (e5 : m' y w = some (.bl b')) : ziu m m' f g h ρ = some (.bl (b && b')):=by
 unfold ziu
 rw [e1,Option.bind_some,e2,Option.bind_some,e3,Option.bind_some]
 cases b with
 | false=>rfl
 | true =>
  show (h ρ).bind (fun w=>m' y w) = _
  rw [e4]
  exact e5
noncomputable def tSL (K : PySem.W.Frag) (te : TE) : TE:=fun σ H Q=>te σ H fun x H1=>∃ l ns,x = .ref l /\ SqL K H1 l (ns.map V.int) /\ ns.length < 64 /\ ns.Nodup /\ ∀ p,H1 p = none -> Q (.ref p) (upd H1 p (.lst ((zct ns).map V.int)))
theorem zw7 {ns out : List Int} (nd : ns.Nodup) (p : out.Perm ns) (hs : out.Pairwise (· <= ·)) : out = zct ns:=by
 have nd' : out.Nodup:=p.nodup_iff.mpr nd
 have lt : out.Pairwise (· < ·):=by
  refine List.Pairwise.imp₂ (fun a b h1 h2=>?_) hs nd'
  exact Int.lt_iff_le_and_ne.mpr ⟨h1,h2⟩
 exact zti _ _ lt (zoz _) fun k=>by rw [zle]; exact p.mem_iff
section
variable {X : Cx} {e : Expr} {te : TE} {p pos : Pos}
theorem z3z (hgs : Gl X "sorted") (hms : X.mg "sorted" = none) (he : PE X e te) (h1 : starEach [e] X.env = (false,eval e X.env) :: starEach [] X.env:=by rfl) (hpl : (backTo pos (starEach [] X.env)).any (·.1) = false:=by rfl) :
  PE X (.Call (.Name "sorted" p) [e] [] pos) (tSL X.K te):=by
 intro pins s σ H Q I h
 refine wpAny_Call_Name_kw (zg7 I hgs hms boot_sorted ?_)
 refine PyProof.Rows.callWith_builtin1 ?_ h1 hpl
 rw [h1]
 show wpAny _ _ (spliced ((false,eval e X.env) :: backTo pos (starEach [] X.env))) _ _ s
 refine Calls.spliced_cons (thn (he pins s σ H _ I h) fun u s1 q_=>?_)
 obtain ⟨x,H1,I1,r1,l,ns,e1,hq,h64,nd,q⟩:=q_
 subst e1
 cases r1
 refine wpAny_pure ?_
 obtain ⟨its,rr,pl,hz⟩:=I1.list hq
 have ii : IntsAre its ns:=zo3 rr
 refine sorted_ints pl.isList ii (by rw [ii.length]; exact h64) fun out ns' o1 o2 o3=>?_
 obtain ⟨ep,ge⟩:=sortedAll_at s1.heap its out
 have en : ns' = zct ns:=zw7 nd o2 o3
 subst en
 have hl:=o2.length_eq
 refine ⟨.ref (s1.heap.objs.size + 1),_,(I1.laid (t':=s1.toks) (a:=s1.heap.objs.size + 1) (o:=.lst ((zct ns).map V.int)) (fun b u g=>sortedAll_old g) (Nat.le_succ _) ?_),rfl,q _ (I1.hok.fresh (Nat.le_succ _))⟩
 exact ⟨by rw [List.length_map,sizeLine_eq]; omega,out.toList,ep,zs9 o1,by simpa using ge⟩
end
noncomputable def zlv (f : List Sl -> Option D) (ρ : List Sl) : Option (List D):=(f ρ).bind fun d=>(lsD d).bind fun ds=>(zsD ds).bind fun ns=>if ns.length < 64 /\ ns.Nodup then some ((zct ns).map .int) else none
section
variable {c : Str -> Addr} {X : Cx} {e : Expr} {p pos : Pos}
theorem zwx {f : List Sl -> Option D} (_hc : X.calm = true) (hgs : Gl X "sorted") (hms : X.mg "sorted" = none) (ha : DE c X e f)
  (h1 : starEach [e] X.env = (false,eval e X.env) :: starEach [] X.env:=by rfl) (hpl : (backTo pos (starEach [] X.env)).any (·.1) = false:=by rfl) : DO c X (.Call (.Name "sorted" p) [e] [] pos) (zlv f) :=
 PE.imp (z3z hgs hms ha h1 hpl) fun σ H Q q_=>by
  obtain ⟨Hf0,H0,Hf,ρ,ds,st,ef,k⟩:=q_
  unfold zlv at ef
  cases e1 : f ρ with
  | none=>rw [e1] at ef; cases ef
  | some d =>
   rw [e1] at ef
   cases e2 : lsD d with
   | none=>rw [Option.bind_some,e2] at ef; cases ef
   | some xs =>
    rw [Option.bind_some,e2] at ef
    cases e3 : zsD xs with
    | none=>rw [Option.bind_some,e3] at ef; cases ef
    | some ns =>
     rw [Option.bind_some,e3,Option.bind_some] at ef
     split at ef
     ·rename_i hl
      cases ef
      refine ⟨Hf0,H0,Hf,ρ,d,st,e1,fun v Hf' H' x r=>?_⟩
      obtain ⟨l,vs,el,q,rs⟩:=zgt e2 r
      rw [zq9 e3] at rs
      have ev:=zqi rs
      subst ev el
      exact ⟨l,ns,rfl,x.s.seq q,hl.1,hl.2,fun pp hp=>k pp _ Hf' _ (x.trans (Ext.tmp x.s hp)) (x.h.free hp) (x.s.free hp) zcg (zas.ints _)⟩
     ·cases ef
end
theorem zzk {f : List Sl -> Option D} {ρ : List Sl} {ns : List Int} (h : f ρ = some (.lst (ns.map D.int))) (h1 : ns.length < 64) (h2 : ns.Nodup) : zlv f ρ = some ((zct ns).map D.int):=by
 unfold zlv
 rw [h,Option.bind_some]
 show (zsD (ns.map D.int)).bind _ = _
 rw [zp4,Option.bind_some,if_pos ⟨h1,h2⟩]
theorem zt1 {k : Int} {n : Nat} (h : k.natAbs < 2 ^ n) : Builtin.Int.intBits k <= n:=by
 unfold Builtin.Int.intBits
 split
 ·exact Nat.zero_le _
 ·rename_i hk
  have : k.natAbs ≠ 0:=fun z=>hk (by rw [Int.natAbs_eq_zero.mp z]; rfl)
  exact (Nat.log2_lt this).mpr h
noncomputable def zf7 (i j : Int) : Prop:=zmf i j \/ (i.natAbs < 2 ^ 200 /\ j.natAbs < 2 ^ 200)
theorem zf7.ok {i j : Int} (h : zf7 i j) : IntMulOk i j:=by
 rcases h with h | ⟨h1,h2⟩
 ·exact h.ok
 ·have a:=zt1 h1
  have b:=zt1 h2
  unfold IntMulOk
  have : Builtin.Int.intTooBig (Builtin.Int.intBits i + Builtin.Int.intBits j) = false:=by
   unfold Builtin.Int.intTooBig
   have c : (400 : Int) <= bitsLine:=by decide
   exact decide_eq_false (by omega)
  rw [this,Bool.and_false]
  exact Bool.false_ne_true
noncomputable instance {i j : Int} : Decidable (zf7 i j):=by unfold zf7; infer_instance
noncomputable abbrev zdc : D -> D -> Option D:=dI zf7 fun i j=>.int (i * j)
section
variable {c : Str -> Addr} {X : Cx}
theorem z7o : OpR X (binaryOp .Mult) (rI zf7 fun i j=>.int (i * j)):=opI fun _ _ _ _ _ _ _ hc q=>mul_int q hc.ok
theorem zf3 : OpD c X (binaryOp .Mult) zdc:=zm7 z7o fun _ _ _ _=>rfl
end
theorem z1y {i j : Int} (h : zf7 i j) : zdc (.int i) (.int j) = some (.int (i * j)):=zmp h
noncomputable def zgw (g : D -> List Sl -> Option (List Sl)) (f : List Sl -> Option D) (ρ : List Sl) : Option Fl:=(f ρ).bind fun d=>(g d ρ).map .nx
section
variable {c : Str -> Addr} {X : Cx} {e tg : Expr} {pos : Pos}
theorem zlw {k : Nat} {g : D -> List Sl -> Option (List Sl)} {f : List Sl -> Option D} (he : DE c X e f) (hg : DG c X tg k g) (hs : swapsWithSole [tg] e pos.line X.env = pure false:=by rfl) (hw : swappedStores [tg] e X.env = pure none:=by rfl)
  (h1 : (assignEach [tg] X.env).map (·.2) = [assign tg X.env]:=by rfl) : DS c X (.Assign [tg] e pos) (zgw g f):=PS.imp (zv2 he hg.pg hs hw h1) fun E σ H q_=>by
 obtain ⟨Hf0,H0,Hf,ρ,o,so,ef,kq⟩:=q_
 unfold zgw at ef
 cases e1 : f ρ with
 | none=>rw [e1] at ef; cases ef
 | some d =>
  rw [e1,Option.bind_some] at ef
  cases e2 : g d ρ with
  | none=>rw [e2] at ef; cases ef
  | some ρ' =>
   rw [e2] at ef
   cases ef
   exact ⟨Hf0,H0,Hf,ρ,d,so,e1,fun v Hf' H' x r=>⟨Hf0,H0,Hf',ρ,d,ρ',so.step x,r,e2,fun σ' so'=>kq σ' Hf' H' x.f so'⟩⟩
end
theorem zhm {g : D -> List Sl -> Option (List Sl)} {f : List Sl -> Option D} {ρ ρ' : List Sl} {d : D} {K : Fl -> Prop} (h : f ρ = some d) (h' : g d ρ = some ρ') (k : K (.nx ρ')) : wp (zgw g f) ρ K:=⟨_,by unfold zgw; rw [h,Option.bind_some,h']; rfl,k⟩
set_option maxRecDepth 100000
section
variable {P : Program} {w : World} {A : Around} {E : Value -> Shared -> Prop} {s : Shared} {it l : Addr}
end
section
variable {X : Cx} {tg : Expr}
end
section
variable {c : Str -> Addr} {X : Cx} {a tg : Expr} {pos p : Pos}
end
section
variable {c : Str -> Addr} {X : Cx}
end
noncomputable def zfw (H : Hp) (l : Addr) : Hp:=fun a=>if a = l then none else H a
theorem zpm {H : Hp} {l : Addr} : zfw H l l = none:=by unfold zfw; rw [if_pos rfl]
theorem zqm {H : Hp} {l a : Addr} (h : a ≠ l) : zfw H l a = H a:=by unfold zfw; rw [if_neg h]
theorem z27 {H : Hp} {l : Addr} : za5 (zfw H l) H:=fun a o e=>by
 by_cases h : a = l
 ·subst h; rw [zpm] at e; cases e
 ·rw [zqm h] at e; exact e
theorem znc {F H : Hp} {l : Addr} (s : za5 F H) (h : F l = none) : za5 F (zfw H l):=fun a o e=>by
 rw [zqm (zdq e h)]; exact s a o e
section
variable {P : Program} {w : World} {K : PySem.W.Frag} {mg : Str -> Option Value} {base : Heap} {c : Str -> Addr}
end
noncomputable def tDX (G : Gc) (f : List Sl -> Option (D × List Sl)) : TE:=fun σ H Q=>∃ Hf0 H0 Hf ρ d ρ',za0 G Hf0 H0 Hf H σ ρ /\ f ρ = some (d,ρ') /\ ∀ v Hf' H',za5 Hf Hf' -> za0 G Hf0 H0 Hf' H' σ ρ' -> Rep G Hf' d v -> Q v H'
noncomputable def DX (c : Str -> Addr) (X : Cx) (e : Expr) (f : List Sl -> Option (D × List Sl)) : Prop:=PE X e (tDX (Gx c X) f)
section
variable {c : Str -> Addr} {X : Cx} {k : Nat} {f C : Addr} {fd : FuncData} {ps : List Str} {x : Str} {p pos apos : Pos} {e o tg iter : Expr} {es : List Expr} {fa ga : List Sl -> Option (List D)} {i : Nat}
end
theorem Ext.tmp2 {Hf H Hf2 H2 : Hp} {p : Addr} {o o' : HO} (s : za5 Hf H) (hp : H p = none) (ht : zrr o = false) (x : Ext Hf (upd H p o) Hf2 H2) : Ext Hf H Hf2 (upd H2 p o'):=by
 have hf : Hf2 p = none:=(x.n p o zcg ht).trans (s.free hp)
 refine ⟨x.f,fun b u e=>?_,fun b u e=>?_,fun l u e t=>x.n l u (by rw [zb0 (zdq e hp)]; exact e) t⟩
 ·have hb:=zdq e hp
  rw [zb0 hb]
  exact x.h b u (by rw [zb0 hb]; exact e)
 ·rw [zb0 (zdq e hf)]
  exact x.s b u e
noncomputable def zn1 (k1 k2 k3 : Str) (a b c y : D) : Option D:=match y with
 | .str w=>if w = k1 then some a else if w = k2 then some b else if w = k3 then some c else none
 | _=>none
noncomputable def zh8 (k1 k2 k3 : Str) (f1 f2 f3 g : List Sl -> Option D) (ρ : List Sl) : Option D:=(f1 ρ).bind fun a=>(f2 ρ).bind fun b=>(f3 ρ).bind fun c=>(g ρ).bind fun y=>zn1 k1 k2 k3 a b c y
section
variable {c : Str -> Addr} {X : Cx} {v1 v2 v3 ix : Expr} {dpos pos p1 p2 p3 : Pos} {f1 f2 f3 g : List Sl -> Option D}
theorem z7a (k1 k2 k3 : Str) {j1 j2 j3} (hu : X.A.units + 64 < cLine) (h1 : DE c X v1 f1) (h2 : DE c X v2 f2) (h3 : DE c X v3 f3) (hg : DE c X ix g) (hs : zru ix)
  (e1 : ∀ a b c : V,zeo (zgc [] [(.inr k1,a),(.inr k2,b),(.inr k3,c)]) (.inr k1) = some a) (e2 : ∀ a b c : V,zeo (zgc [] [(.inr k1,a),(.inr k2,b),(.inr k3,c)]) (.inr k2) = some b) (e3 : ∀ a b c : V,zeo (zgc [] [(.inr k1,a),(.inr k2,b),(.inr k3,c)]) (.inr k3) = some c) :
  DE c X (.Subscript (.Dict [some (.Constant (.str k1) j1 p1),some (.Constant (.str k2) j2 p2),some (.Constant (.str k3) j3 p3)] [v1,v2,v3] dpos) ix pos) (zh8 k1 k2 k3 f1 f2 f3 g) :=
 PE.imp (zxj (by omega) (z8d (zom zmr h1 (zom zmr h2 (zom zmr h3 z2u))) rfl rfl (by intro z; cases z) (Nat.le_of_ble_eq_true rfl)) hg hs) fun σ H Q q_=>by
  obtain ⟨Hf0,H0,Hf,ρ,d,st,ef,k⟩:=q_
  unfold zh8 at ef
  cases a1 : f1 ρ with
  | none=>rw [a1] at ef; cases ef
  | some a =>
   cases a2 : f2 ρ with
   | none=>rw [a1,a2] at ef; cases ef
   | some b =>
    cases a3 : f3 ρ with
    | none=>rw [a1,a2,a3] at ef; cases ef
    | some cc =>
     cases a4 : g ρ with
     | none=>rw [a1,a2,a3,a4] at ef; cases ef
     | some y =>
      rw [a1,a2,a3,a4] at ef
      replace ef : zn1 k1 k2 k3 a b cc y = some d:=ef
      intro p hp
      have st1:=st.step (Ext.tmp (o:=.dK []) st.sub hp)
      refine ⟨Hf0,H0,Hf,ρ,a,st1,a1,fun va Hf1 H1 x1 r1=>⟨Hf0,H0,Hf1,ρ,b,st1.step x1,a2,fun vb Hf2 H2 x2 r2=>⟨Hf0,H0,Hf2,ρ,cc,(st1.step x1).step x2,a3,fun vc Hf3 H3 x3 r3=>?_⟩⟩⟩
      have x:=(x1.trans x2).trans x3
      refine ⟨x.h p _ zcg,[(.inr k1,va),(.inr k2,vb),(.inr k3,vc)],rfl,Nat.le_of_ble_eq_true rfl,?_⟩
      have x':=Ext.tmp2 (o':=.dK (zgc [] [(.inr k1,va),(.inr k2,vb),(.inr k3,vc)])) st.sub hp rfl x
      refine ⟨Hf0,H0,Hf3,ρ,y,st.step x',a4,fun vy Hf4 H4 x4 r4=>?_⟩
      have hd : H4 p = some (.dK (zgc [] [(.inr k1,va),(.inr k2,vb),(.inr k3,vc)])):=x4.h p _ zcg
      unfold zn1 at ef
      split at ef
      ·rename_i w
       cases (show vy = V.str w from r4)
       split at ef
       ·rename_i hw
        cases ef
        subst hw
        exact ⟨p,va,rfl,(e1 va vb vc) ▸ zf2.k (k:=.inr w) hd,k va Hf4 H4 (x'.trans x4) ((r1.up (x2.f.trans x3.f)).up x4.f)⟩
       ·split at ef
        ·rename_i hw
         cases ef
         subst hw
         exact ⟨p,vb,rfl,(e2 va vb vc) ▸ zf2.k (k:=.inr w) hd,k vb Hf4 H4 (x'.trans x4) ((r2.up x3.f).up x4.f)⟩
        ·split at ef
         ·rename_i hw
          cases ef
          subst hw
          exact ⟨p,vc,rfl,(e3 va vb vc) ▸ zf2.k (k:=.inr w) hd,k vc Hf4 H4 (x'.trans x4) (r3.up x4.f)⟩
         ·cases ef
      ·cases ef
end
section
variable {P : Program} {w : World} {A : Around} {E : Value -> Shared -> Prop} {s : Shared} {it l : Addr}
end
section
variable {X : Cx} {e : Expr} {te : TE} {p p2 pos pos2 : Pos}
end
section
variable {c : Str -> Addr} {X : Cx} {p p2 p3 pos pos2 : Pos}
end
noncomputable def tLS (K : PySem.W.Frag) (te : TE) : TE:=fun σ H Q=>te σ H fun x H1=>∃ l ns,x = .ref l /\ SqL K H1 l (ns.map V.int) /\ ns.length < 4000 /\ Q (.int ((zct ns).length : Nat)) H1
section
variable {X : Cx} {e : Expr} {te : TE} {p p2 pos pos2 : Pos}
theorem z84 (hc : X.calm = true) (hgs : Gl X "len") (hms : X.mg "len" = none) (hgt : Gl X "set") (hmt : X.mg "set" = none) (he : PE X e te)
  (h1 : starEach [.Call (.Name "set" p2) [e] [] pos2] X.env = (false,eval (.Call (.Name "set" p2) [e] [] pos2) X.env) :: starEach [] X.env:=by rfl) (h2 : starEach [e] X.env = (false,eval e X.env) :: starEach [] X.env:=by rfl)
  (hpl : (backTo pos (starEach [] X.env)).any (·.1) = false:=by rfl) (hpl2 : (backTo pos2 (starEach [] X.env)).any (·.1) = false:=by rfl) :
  PE X (.Call (.Name "len" p) [.Call (.Name "set" p2) [e] [] pos2] [] pos) (tLS X.K te):=by
 intro pins s σ H Q I h
 refine wpAny_Call_Name_kw (zg7 I hgs hms PySem.boot_len ?_)
 refine PyProof.Rows.callWith_builtin1 ?_ h1 hpl
 rw [h1]
 show wpAny _ _ (spliced ((false,eval (.Call (.Name "set" p2) [e] [] pos2) X.env) :: backTo pos (starEach [] X.env))) _ _ s
 refine Calls.spliced_cons (wpAny_Call_Name_kw (zg7 I hgt hmt boot_set ?_))
 refine PyProof.Rows.callWith_type1 ?_ h2 hpl2
 rw [h2]
 show wpAny _ _ (spliced ((false,eval e X.env) :: backTo pos2 (starEach [] X.env))) _ _ s
 refine Calls.spliced_cons (thn (he pins s σ H _ I h) fun u s1 q_=>?_)
 obtain ⟨x,H1,I1,r1,l,ns,e1,hq,hb,q⟩:=q_
 subst e1
 cases r1
 refine wpAny_pure ?_
 obtain ⟨its,rr,pl,hz⟩:=I1.list hq
 have ii : IntsAre its ns:=zo3 rr
 have zz : its.toArray.size = ns.length:=by rw [List.size_toArray,ii.length]
 refine zxo (items:=its.toArray) (ns:=ns) (I1.ok.hd hc) pl.isList (by simpa using ii) (by rw [zz]; unfold scanBound; omega) fun h' tk qs keep htk=>?_
 rw [zz] at qs
 refine wpAny_pure ?_
 obtain ⟨o,ents,ep,tb,ho,hex,hd,_,_,hsb,hf,hn,_,_⟩:=qs
 refine call_len_set (s:={ s1 with heap:=h',toks:=tk }) ho hex hd hf (by unfold scanBound at hsb; omega) ?_
 refine ⟨.int ((zct ns).length : Nat),H1,I1.kept fun b u g=>keep b u (Heap.lt_size g) g,?_,q⟩
 rw [hn,<- zt6]
 exact ⟨_,rfl⟩
end
noncomputable def zl3 (f : List Sl -> Option D) (ρ : List Sl) : Option D:=(f ρ).bind fun d=>(lsD d).bind fun ds=>(zsD ds).bind fun ns=>if ns.length < 4000 then some (.int ((zct ns).length : Nat)) else none
theorem zzr {f : List Sl -> Option D} {ρ : List Sl} {ns : List Int} (h : f ρ = some (.lst (ns.map D.int))) (hl : ns.length < 4000) : zl3 f ρ = some (.int ((zct ns).length : Nat)):=by
 unfold zl3
 rw [h]
 show ((zsD (ns.map D.int)).bind fun ns=>if ns.length < 4000 then some (D.int ((zct ns).length : Nat)) else none) = _
 rw [zp4]
 show (if ns.length < 4000 then some (D.int ((zct ns).length : Nat)) else none) = _
 rw [if_pos hl]
section
variable {c : Str -> Addr} {X : Cx} {e : Expr} {p p2 pos pos2 : Pos}
theorem z3h {f : List Sl -> Option D} (hc : X.calm = true) (hgs : Gl X "len") (hms : X.mg "len" = none) (hgt : Gl X "set") (hmt : X.mg "set" = none) (ha : DE c X e f)
  (h1 : starEach [.Call (.Name "set" p2) [e] [] pos2] X.env = (false,eval (.Call (.Name "set" p2) [e] [] pos2) X.env) :: starEach [] X.env:=by rfl) (h2 : starEach [e] X.env = (false,eval e X.env) :: starEach [] X.env:=by rfl)
  (hpl : (backTo pos (starEach [] X.env)).any (·.1) = false:=by rfl) (hpl2 : (backTo pos2 (starEach [] X.env)).any (·.1) = false:=by rfl) : DE c X (.Call (.Name "len" p) [.Call (.Name "set" p2) [e] [] pos2] [] pos) (zl3 f) :=
 PE.imp (z84 hc hgs hms hgt hmt ha h1 h2 hpl hpl2) fun σ H Q q_=>by
  obtain ⟨Hf0,H0,Hf,ρ,ds,st,ef,k⟩:=q_
  unfold zl3 at ef
  cases e1 : f ρ with
  | none=>rw [e1] at ef; cases ef
  | some d =>
   rw [e1] at ef
   cases e2 : lsD d with
   | none=>rw [Option.bind_some,e2] at ef; cases ef
   | some xs =>
    rw [Option.bind_some,e2] at ef
    cases e3 : zsD xs with
    | none=>rw [Option.bind_some,e3] at ef; cases ef
    | some ns =>
     rw [Option.bind_some,e3,Option.bind_some] at ef
     split at ef
     ·rename_i hl
      cases ef
      refine ⟨Hf0,H0,Hf,ρ,d,st,e1,fun v Hf' H' x r=>?_⟩
      obtain ⟨l,vs,el,q,rs⟩:=zgt e2 r
      rw [zq9 e3] at rs
      have ev:=zqi rs
      subst ev el
      exact ⟨l,ns,rfl,x.s.seq q,hl,k _ Hf' _ x rfl⟩
     ·cases ef
end
theorem z4e (l : Addr) (items : Array Value) (n : Nat) (dct : Option Addr) (sl : Array (Option Value)) (t : Tok) :
  Meets (Builtin.«enumerate.__new__» ⟨[.type "enumerate",.ref l],[("start",.int 1 t)]⟩) (fun _ R s=>s.heap.get? l = some { cls:=.type "list",dict:=dct,data:=.seq items n,slots:=sl } /\
   R (.ok (.ret (.ref (s.heap.push { cls:=.type "list_iterator",data:=.fields #[.ref l,.int 0 0] }).objs.size)))
    { s with heap:=(s.heap.push { cls:=.type "list_iterator",data:=.fields #[.ref l,.int 0 0] }).push { cls:=.type "enumerate",data:=.fields #[.none,.bool false,.ref s.heap.objs.size,rawInt 1,.none,.none] } }):=by
 refine Meets.of_wp fun prog w A R s h=>?_
 obtain ⟨hp,g,d,tk,os⟩:=s
 obtain ⟨hl,h⟩:=h
 have hsub:=sub_enumerate
 have isl : Heap.IsList (Shared.heap ⟨hp,g,d,tk,os⟩) l items:=⟨_,hl,rfl,n,rfl⟩
 wp_walk using wpAny_loadPart' hl
 refine wpAny_stack_any fun st=>wpAny_pure ?_
 split
 ·rename_i c _ _ _ _ _
  cases hc : (c == Value.type "enumerate")
  ·wp_walk using wpAny_loadPart' hl,wpAny_pyIter_list isl
   exact ⟨_,rfl,h⟩
  ·wp_walk using wpAny_loadPart' hl,wpAny_pyIter_list isl
   exact ⟨_,rfl,h⟩
 ·wp_walk using wpAny_loadPart' hl,wpAny_pyIter_list isl
  exact ⟨_,rfl,h⟩
section
variable {P : Program} {w : World} {A : Around} {E : Value -> Shared -> Prop} {s : Shared}
theorem z6v {self x : Value} {kw : List (Str × Value)} : Meets (Builtin.«object.__init__» ⟨[self,x],kw⟩) (fun _ R s=>s.TypeIs self "enumerate" /\ R (.ok (.ret .none)) s):=by
 refine Meets.of_wp fun P1 w1 A1 R1 s1 hs=>?_
 obtain ⟨hT,hq⟩:=hs
 have hl:=F.called_enumerate.init.lookup
 have hm:=F.called_enumerate.made
 repeat (any_goals (first | assumption | wp_step))
 all_goals exact ⟨_,rfl,hq⟩
theorem zyu (obj x : Value) (t : Tok) : argsOk "object.__init__" ⟨[obj,x],[("start",.int 1 t)]⟩:=by unfold argsOk; kernel_rfl
theorem z1z (x : Value) (t : Tok) : checkTypeCall "enumerate" ⟨[x],[("start",.int 1 t)]⟩ = pure ():=by kernel_rfl
theorem zys (x : Value) (t : Tok) : checkBuiltinCall "enumerate.__new__" ⟨[.type "enumerate",x],[("start",.int 1 t)]⟩ = pure ():=by kernel_rfl
theorem zyn {l : Addr} {t : Tok} {S : PySem.Spec} {Q : Value -> Shared -> Prop} (g : Meets (Builtin.«enumerate.__new__» ⟨[.type "enumerate",.ref l],[("start",.int 1 t)]⟩) S)
  (h : S A.in1 (wants (fun ob s1=>s1.TypeIs ob "enumerate" /\ Q ob s1) E) s) : wpAny (model P w) A (call (.type "enumerate") [.ref l] [("start",.int 1 t)]) Q E s:=by
 have ft:=F.called_enumerate
 obtain ⟨c0,tl0,hmro⟩:=ft.mro
 have hmade:=ft.made
 have hsub:=ft.sub
 have hnt:=ft.notType
 have hcr:=ft.canCreate
 have hct:=z1z (.ref l) t
 have hcn:=zys (.ref l) t
 refine wpAny_call (codeAny_of_tree ?_)
 show wpAny _ _ (callAny (.type "enumerate") _) _ _ _
 refine wpAny_pure ⟨Code.quiet_builtin _ (by decide +kernel),codeAny_builtin F.entry_type_call ?_⟩
 rw [Around.under_plain (weight_type_call_type "enumerate" [.ref l] [("start",.int 1 t)]) (units_type_call_type "enumerate" [.ref l] [("start",.int 1 t)])]
 repeat (any_goals (first | assumption | wp_step))
 refine codeAny_mono (codeAny_call_builtin ft.plain F.entry_enumerate_new (wpAny_of_eq hcn (g P w A.in1 _ s h))) fun r1 s1 hr1=>?_
 cases r1 with
 | error e1=>exact hr1
 | ok f1 =>
  cases f1 with
  | ret ob =>
   obtain ⟨hT,hq⟩:=hr1
   have hli:=ft.init.lookup
   have hbi:=ft.init.bind ob
   repeat (any_goals (first | assumption | wp_step))
   refine codeAny_mono (codeAny_call_builtin ft.init.plain F.entry_object_init (ft.init.check _ _ _ _ _ _ _ _ hT (zyu ob (.ref l) t) (z6v P w A.in1 (wants (fun r2 s2=>r2 = .none /\ Q ob s2) E) s1 ⟨hT,rfl,hq⟩))) fun r2 s2 hr2=>?_
   cases r2 with
   | error e2=>exact hr2
   | ok f2 =>
    cases f2 with
    | ret v2 =>
     obtain ⟨rfl,hq2⟩:=hr2
     repeat (any_goals (first | assumption | wp_step))
    | _=>exact hr2.elim
  | _=>exact hr1.elim
end
theorem z7k {P : Program} {w : World} {A : Around} {it : Addr} {fp : List Addr} {n : Nat} {R : Nat -> Value -> Prop} {St : Nat -> Heap -> Prop} (D : Draws P w A it fp n R St) :
  Draws P w A it fp (n + 1) (fun i v=>∃ j,i = j + 1 /\ R j v) (fun i h=>∃ j,i = j + 1 /\ St j h) where
 live:=fun i h ⟨j,_,st⟩=>D.live j h st
 frame:=fun i h h' ⟨j,e,st⟩ k=>⟨j,e,D.frame j h h' st k⟩
 item:=fun i s Q E hi ⟨j,e,st⟩ hQ=>D.item j s Q E (by omega) st fun x h' tk p st' sb=>hQ x h' tk ⟨j,e,p⟩ ⟨j + 1,by omega,st'⟩ sb
 done:=fun s Q E ⟨j,e,st⟩ hE=>D.done s Q E (by
   have : n = j:=by omega
   subst this; exact st) hE
noncomputable def ItS (K : PySem.W.Frag) (l : Addr) : It :=
  ⟨fun i H => ∃ xs x, SqL K H l xs /\ xs[i]? = some x,
   fun i H v H' => ∃ p x, v = .ref p /\ H p = none /\ H' = upd H p (.tup [.int ((i + 1 : Nat) : Int), x]) /\ (∀ xs, SqL K H l xs -> xs[i]? = some x),
   fun i H => ∃ xs, SqL K H l xs /\ xs.length <= i⟩
theorem z61 {P : Program} {w : World} {K : PySem.W.Frag} {elts : List Expr} {kx : Nat} {pos : Pos} (e it l : Addr) (ne : e ≠ it) :
    zh0 P w K (.Tuple elts kx pos) (ItS K l) [e, it] e (fun i h => (∃ old, IsEnum h e it ((i + 1 : Nat) : Int) old) /\ h.IsListIter it l i) where
  mem := by simp
  obj := fun i h st b hb => by
    obtain ⟨⟨old, he⟩, ⟨o1, e1, _, d1⟩⟩ := st
    simp only [List.mem_cons, List.not_mem_nil, or_false] at hb
    rcases hb with rfl | rfl
    · exact ⟨_, he, fun v q => by cases q⟩
    · exact ⟨o1, e1, fun v q => by rw [d1] at q; cases q⟩
  keep := fun i h h' st k => by
    obtain ⟨⟨old, he⟩, h1⟩ := st
    exact ⟨⟨old, k e (by simp) _ he⟩, h1.at fun o q => k it (by simp) o q⟩
  item := by
    intro X hP hw hK hc i pins s σ H E I hf st hg
    subst hP hw hK
    obtain ⟨⟨old, he⟩, h1⟩ := st
    obtain ⟨xs, x, q1, hx⟩ := hg
    obtain ⟨its1, r1, p1, z1⟩ := I.list q1
    obtain ⟨u1, e1, ru1⟩ := r1.get hx
    have n1 : l ≠ it := fun z => by
      obtain ⟨o1, g1, c1, _⟩ := h1
      obtain ⟨o2, g2, c2, _⟩ := p1.isList
      rw [z, g1] at g2
      cases g2
      rw [c1] at c2
      injection c2 with q
      exact absurd q (by decide)
    have n2 : e ≠ l := fun z => by
      obtain ⟨o2, g2, c2, _⟩ := p1.isList
      have he' : s.heap.get? e = some _ := he
      rw [z, g2] at he'
      cases he'
      injection c2 with q
      exact absurd q (by decide)
    have hi : i < its1.toArray.size := by
      rw [List.size_toArray]
      exact (List.getElem?_eq_some_iff.mp e1).1
    refine wpAny_pyNext_enum_itemD (i := i + 1) (z7k (Draws.list (A := X.A.in1) (I.ok.hd hc) it l n1 its1.toArray)) he ⟨i, rfl, h1, p1.isList⟩ (by omega) ne (by simp [ne, n2]) fun x' h' tk ⟨j, ej, hx'⟩ a1 ⟨j', ej', a3, _⟩ a5 a6 a7 => ⟨_, rfl, ?_⟩
    have ej : i = j := by omega
    have ej' : i + 1 = j' := by omega
    subst ej ej'
    have ex : x' = u1 := by
      have hx'' : its1[i]? = some x' := by simpa using hx'
      rw [e1] at hx''
      exact (Option.some.inj hx'').symm
    subst ex
    refine wpAny_letOwnedTupleGo_enum (s := { s with heap := h', toks := tk + 1 }) a1 fun h'' b1 b2 => ?_
    have lt : ∀ b ∈ [e, it], b < s.heap.objs.size := fun b hb => by
      simp only [List.mem_cons, List.not_mem_nil, or_false] at hb
      rcases hb with rfl | rfl
      · exact Heap.lt_size he
      · obtain ⟨o, e, _⟩ := h1; exact Heap.lt_size e
    have kk : ∀ b o, b ∉ [e, it] -> s.heap.get? b = some o -> h''.get? b = some o := fun b o hb e => by
      simp only [List.mem_cons, List.not_mem_nil, or_false, not_or] at hb
      obtain ⟨n1, n2⟩ := hb
      exact (b2.2 b n1).trans (a7 b o n1 n2 e)
    have fr : H s.heap.objs.size = none := I.hok.fresh (Nat.le_refl _)
    have I1 : Inv X pins σ H { s with heap := h'', toks := tk + 1 } := I.turnedMany (t' := tk + 1) kk hf
    have hp : h''.get? s.heap.objs.size = some { cls := .type "tuple", data := .seq #[.int ((i + 1 : Nat) : Int) tk, x'] } := (b2.2 _ (Nat.ne_of_gt (lt e (by simp)))).trans a5
    have I2 : Inv X pins σ (upd H s.heap.objs.size (.tup [.int ((i + 1 : Nat) : Int), x])) { s with heap := h'', toks := tk + 1 } :=
      I1.track (I.fpOk (Nat.le_refl _) fr) ⟨(by show 2 <= sizeLine; decide), [.int ((i + 1 : Nat) : Int) tk, x'], .cons ⟨tk, rfl⟩ (.cons ru1 .nil), ⟨_, hp, rfl, _, rfl⟩⟩
    refine ⟨.ref s.heap.objs.size, _, I2, rfl, ⟨_, x, rfl, fr, rfl, fun xs' h => by rw [I.list_inj h q1]; exact hx⟩, ⟨⟨x', ?_⟩, ?_⟩, fun b hb => ?_⟩
    · have : ((i + 1 + 1 : Nat) : Int) = ((i + 1 : Nat) : Int) + 1 := by push_cast; rfl
      rw [this]; exact b1
    · exact a3.at fun o q => (b2.2 it (Ne.symm ne)).trans q
    · rw [zb0 (Nat.ne_of_lt (lt b hb))]
      exact (hf b hb).1
  done := by
    intro X hP hw hK hc i pins s σ H E I hf st hg
    subst hP hw hK
    obtain ⟨⟨old, he⟩, h1⟩ := st
    obtain ⟨xs, q1, hend⟩ := hg
    obtain ⟨its1, r1, p1, z1⟩ := I.list q1
    have l1' := r1.length
    have D : Draws X.prog X.w X.A.in1 it [it, l] 0 (fun _ _ => False) (fun _ h => h.IsListIter it l i /\ h.IsList l its1.toArray) :=
      ⟨fun _ _ st => by obtain ⟨⟨o, ho, _⟩, _⟩ := st; exact ⟨o, ho⟩, fun _ _ _ st k => ⟨st.1.at fun o q => k it (by simp) o q, st.2.at fun o q => k l (by simp) o q⟩, fun _ _ _ _ hi => absurd hi (Nat.not_lt_zero _),
       fun s1 Q1 E1 st hE => wpAny_nextOf_list_end (I.ok.hd hc) st.1 st.2 (by simp; omega) fun h' x a b => hE h' x a b⟩
    refine wpAny_pyNext_enum_endD D he ⟨h1, p1.isList⟩ fun h' kk => ⟨rfl, I.turnedMany (t' := s.toks) (ch := [e, it]) (fun b o hb q => ?_) hf⟩
    simp only [List.mem_cons, List.not_mem_nil, or_false, not_or] at hb
    exact kk b o hb.2 q
  self := fun _ _ _ _ _ st h => by obtain ⟨⟨old, he⟩, _⟩ := st; exact wpAny_pyIter_enum he h
section
variable {P : Program} {w : World} {A : Around} {E : Value -> Shared -> Prop} {s : Shared}
theorem zya {l : Addr} {items : Array Value} {t : Tok} {Q : Value -> Shared -> Prop} (hL : s.heap.IsList l items)
  (h : ∀ h',IsEnum h' (s.heap.objs.size + 1) s.heap.objs.size 1 .none -> h'.IsListIter s.heap.objs.size l 0 ->
   (∀ b o,s.heap.get? b = some o -> h'.get? b = some o) -> Q (.ref (s.heap.objs.size + 1)) { s with heap:=h' }) :
  wpAny (model P w) A (call (.type "enumerate") [.ref l] [("start",.int 1 t)]) Q E s:=by
 obtain ⟨⟨oc,od,odt,os⟩,hol,hcl,nl,hdl⟩:=hL
 simp only at hcl hdl
 subst hcl hdl
 refine zyn (z4e l items nl od os t) ⟨hol,?_⟩
 have sz : (s.heap.push { cls:=.type "list_iterator",data:=.fields #[.ref l,.int 0 0] }).objs.size = s.heap.objs.size + 1:=Heap.size_push ..
 show _ /\ _
 rw [sz]
 have en : IsEnum ((s.heap.push { cls:=.type "list_iterator",data:=.fields #[.ref l,.int 0 0] }).push { cls:=.type "enumerate",data:=.fields #[.none,.bool false,.ref s.heap.objs.size,rawInt 1,.none,.none] }) (s.heap.objs.size + 1) s.heap.objs.size 1 .none:=by
  have q:=Heap.get?_push_size (s.heap.push { cls:=.type "list_iterator",data:=.fields #[.ref l,.int 0 0] }) (o:={ cls:=.type "enumerate",data:=.fields #[.none,.bool false,.ref s.heap.objs.size,rawInt 1,.none,.none] }) rfl
  rw [sz] at q
  exact q
 exact ⟨⟨_,en,rfl⟩,h _ en ⟨_,Heap.get?_push_of_some _ (Heap.get?_push_size _ rfl),rfl,rfl⟩ fun b o x=>Heap.get?_push_of_some _ (Heap.get?_push_of_some _ x)⟩
end
section
variable {M : Model} {A : Around} {E : Value -> Shared -> Prop} {s : Shared}
theorem z2l {pos : Pos} {T : String} {args : List (Bool × Sem Value)} {kws : List (Option Str × Sem Value)} {Q : Value -> Shared -> Prop} (hpl : args.any (·.1) = false) (hkw : kws.any (·.1.isNone) = false)
  (h : wpAny M A (evalArgs (.type T) true args kws) (fun z s1=>wpAny M A (call (.type T) ([] ++ z.pos) z.kw) Q E s1) E s) : wpAny M A (callWith pos (.type T) [] args kws) Q E s:=by
 unfold callWith
 refine wpAny_bind (wpAny_holding (wpAny_mono h (fun z s1 hz=>wpAny_bind (wpAny_standAt ?_)) fun _ _ e=>e))
 simp only [hpl,hkw,Bool.or_false]
 refine wpAny_bind (wpAny_pure ?_)
 exact wpAny_bind (wpAny_mono hz (fun r s2 hr=>wpAny_bind (wpAny_holding (wpAny_point (wpAny_pure hr)))) fun _ _ e=>e)
end
section
variable {X : Cx} {elts : List Expr} {kx : Nat} {tpos : Pos}
noncomputable def zwo (K : PySem.W.Frag) (te : TE) : TI:=fun σ H R=>te σ H fun x H1=>∃ l,x = .ref l /\ (∃ xs,SqL K H1 l xs) /\ R (ItS K l) H1
theorem z41 {a : Expr} {te : TE} {p pos kp cp : Pos} {kn : Nat} (hg : Gl X "enumerate") (hm : X.mg "enumerate" = none) (ha : PE X a te) (hs : starEach [a] X.env = (false,eval a X.env) :: starEach [] X.env:=by rfl) :
  PI X (.Tuple elts kx tpos) (.Call (.Name "enumerate" p) [a] [⟨some "start",.Constant (.int 1) kn cp,kp⟩] pos) (zwo X.K te):=by
 intro pins s σ H R I h
 refine wpAny_Call_Name_kw (zg7 I hg hm boot_enumerate ?_)
 rw [hs]
 refine z2l (by rfl) (by rfl) (evalArgs_kwB (by rfl) ?_)
 refine Calls.spliced_cons (thn (ha pins s σ H _ I h) fun u s1 q_=>?_)
 obtain ⟨x,H1,I1,r1,l,e1,⟨xs,h1⟩,q⟩:=q_
 subst e1
 cases r1
 refine wpAny_pure ?_
 refine evalAll_cons (wpAny_bind (wpAny_Constant_int (wpAny_bind (wpAny_standAt (wpAny_pure ?_)))))
 refine evalAll_nil ?_
 have I1':=I1.tok (s1.toks + 1)
 obtain ⟨its1,r1,p1,z1⟩:=I1'.list h1
 refine zya p1.isList fun h' a1 a4 a7=>?_
 refine wpAny_pyIter_enum a1 ?_
 have I2:=I1'.kept (t':=s1.toks + 1) a7
 refine ⟨_,[s1.heap.objs.size + 1,s1.heap.objs.size],_,_,H1,rfl,I2,z61 _ _ _ (Nat.succ_ne_self _),⟨⟨_,a1⟩,a4⟩,fun b hb=>?_,q⟩
 simp only [List.mem_cons,List.not_mem_nil,or_false] at hb
 have hle : s1.heap.objs.size <= b:=by
  rcases hb with rfl | rfl
  ·exact Nat.le_add_right _ _
  ·exact Nat.le_refl _
 exact I1.fpOk hle (I1.hok.fresh hle)
end
noncomputable def z5g : List D -> Option (List D)
 | [x]=>(lsD x).map (zgh 1)
 | _=>none
noncomputable def zmb (f : List Sl -> Option D) (ρ : List Sl) : Option (List D):=(f ρ).bind fun x=>z5g [x]
theorem z2s {α : Type} {f : List Sl -> Option D} {ρ : List Sl} {g : α -> D} {xs : List α} (d : α) (e : f ρ = some (.lst (xs.map g))) : zmb f ρ = some ((List.range xs.length).map fun i=>D.tup [.int ((i + 1 : Nat) : Int),g (xs.getD i d)]):=by
 unfold zmb
 rw [e]
 show some (zgh 1 (xs.map g)) = _
 refine congrArg some (List.ext_getElem? fun i=>?_)
 rw [zly,List.getElem?_map,List.getElem?_map]
 by_cases h : i < xs.length
 ·have eg : xs.getD i d = xs[i]:=by rw [List.getD_eq_getElem?_getD,List.getElem?_eq_getElem h]; rfl
  rw [List.getElem?_range h,List.getElem?_eq_getElem h,Nat.add_comm 1 i]
  show some (D.tup [.int ((i + 1 : Nat) : Int),g xs[i]]) = some (D.tup [.int ((i + 1 : Nat) : Int),g (xs.getD i d)])
  rw [eg]
 ·rw [List.getElem?_eq_none (by omega),List.getElem?_eq_none (by rw [List.length_range]; omega)]
  rfl
section
variable {c : Str -> Addr} {X : Cx} {a : Expr} {pos p kp cp : Pos} {kn : Nat}
theorem z2w {f : List Sl -> Option D} {elts : List Expr} {kx : Nat} {tpos : Pos} (hg : Gl X "enumerate") (hm : X.mg "enumerate" = none) (ha : DE c X a f) (hs : starEach [a] X.env = (false,eval a X.env) :: starEach [] X.env:=by rfl) :
  DI c X (.Tuple elts kx tpos) (.Call (.Name "enumerate" p) [a] [⟨some "start",.Constant (.int 1) kn cp,kp⟩] pos) (zmb f) :=
 PI.imp (z41 hg hm ha hs) fun σ H R q_=>by
  obtain ⟨Hf0,H0,Hf,ρ,ds,st,ef,k⟩:=q_
  unfold zmb at ef
  cases e1 : f ρ with
  | none=>rw [e1] at ef; cases ef
  | some dx =>
   rw [e1] at ef
   replace ef : (lsD dx).map (zgh 1) = some ds:=ef
   refine ⟨Hf0,H0,Hf,ρ,dx,st,e1,fun v Hf' H' x r=>?_⟩
   cases ex : lsD dx with
   | none=>rw [ex] at ef; cases ef
   | some xs =>
    rw [ex] at ef
    cases ef
    obtain ⟨l1,w1,el1,q1,r1⟩:=zgt ex r
    subst el1
    refine ⟨l1,rfl,⟨w1,x.s.seq q1⟩,k _ Hf' H' x fun Hf2 H2 f2 s2 i=>?_⟩
    have g1 : SqL X.K H2 l1 w1:=(f2.trans s2).seq q1
    have h1:=r1.length
    refine ⟨fun d ed=>?_,fun ei=>⟨w1,g1,by rw [zqy] at ei; omega⟩⟩
    rw [zly] at ed
    cases hx : xs[i]? with
    | none=>rw [hx] at ed; cases ed
    | some x' =>
     rw [hx] at ed
     cases ed
     obtain ⟨u1,eu1,ru1⟩:=r1.get hx
     refine ⟨⟨w1,u1,g1,eu1⟩,fun z H3 ⟨pp,z1,ez,hp,eh,y1⟩=>?_⟩
     subst ez eh
     have a1:=y1 w1 g1
     rw [eu1] at a1; cases a1
     exact ⟨upd Hf2 pp (.tup [.int ((i + 1 : Nat) : Int),u1]),Ext.new s2 hp,pp,[.int ((i + 1 : Nat) : Int),u1],rfl,zcg,.cons (by rw [Nat.add_comm 1 i]; rfl) (.cons (ru1.up (f2.trans (zc2 (s2.free hp)))) .nil)⟩
end
noncomputable def spM (G : Gc) (n0 n : Nat) (m : Addr -> List D -> List D -> List D -> Option (List D × D)) : Sp:=fun vs H Q _=>∃ Hf ds0 ds1 xs ys d l us vs0 vs1,vs = vs0 ++ .ref l :: vs1 /\ za5 Hf H /\ Hf l = none /\ H l = some (.lst us) /\ zas G Hf ds0 vs0 /\ zas G Hf ds1 vs1 /\ zas G Hf xs us /\ ds0.length = n0 /\ ds0.length + 1 + ds1.length = n /\ m l ds0 ds1 xs = some (ys,d) /\
 ∀ v Hf' H' us',Ext Hf (zfw H l) Hf' H' -> Hf' l = none -> H' l = some (.lst us') -> zas G Hf' ys us' -> Rep G Hf' d v -> Q v H'
noncomputable def ziv (N : Nat) (l : Addr) (ds0 ds1 xs : List D) : List Sl:=(zdx N (ds0 ++ .non :: ds1)).set ds0.length (.pin l xs)
open Classical in
noncomputable def zfg (l : Addr) (i : Nat) (ρ : List Sl) : Option (List D):=match ρ[i]? with
 | some (.pin l' ys)=>if l' = l then some ys else none
 | _=>none
theorem zst {l : Addr} {i : Nat} {ρ : List Sl} {ys : List D} (h : zfg l i ρ = some ys) : ρ[i]? = some (.pin l ys):=by
 unfold zfg at h
 split at h
 ·rename_i l' zs e
  split at h
  ·rename_i q
   cases h
   rw [e,q]
  ·cases h
 ·cases h
noncomputable def zhc (N : Nat) (F : List Sl -> Option Fl) (l : Addr) (ds0 ds1 xs : List D) : Option (List D × D):=(F (ziv N l ds0 ds1 xs)).bind fun o=>match o with
 | .nx ρ=>(zfg l ds0.length ρ).map fun ys=>(ys,.non)
 | .rtS d ρ=>(zfg l ds0.length ρ).map fun ys=>(ys,d)
 | _=>none
theorem z3c {N : List Str} {vs0 vs1 : List V} {l : Addr} : (L2.start N (vs0 ++ .non :: vs1)).set vs0.length (some (.ref l)) = L2.start N (vs0 ++ .ref l :: vs1):=by
 unfold L2.start
 simp [List.set_append,List.length_append]
theorem za0.startM {G : Gc} {Hf H : Hp} {N : List Str} {ds0 ds1 xs : List D} {vs0 vs1 us : List V} {l : Addr} (s0 : za5 Hf H) (hf : Hf l = none) (hl : H l = some (.lst us)) (r0 : zas G Hf ds0 vs0) (r1 : zas G Hf ds1 vs1) (rx : zas G Hf xs us) :
  za0 G Hf (zfw H l) Hf H (L2.start N (vs0 ++ .ref l :: vs1)) (ziv N.length l ds0 ds1 xs):=by
 have st0:=za0.start (N:=N) (znc s0 hf) (r0.append (.cons (d:=.non) (v:=.non) rfl r1))
 have:=st0.setOwn (i:=ds0.length) (l:=l) (s:=.pin l xs) rfl (Ext.grow (znc s0 hf) z27) zpm hf ⟨rfl,us,hl,rx⟩
 rw [r0.length,z3c,<- r0.length] at this
 exact this
section
variable {P : Program} {w : World} {K : PySem.W.Frag} {mg : Str -> Option Value} {base : Heap} {c : Str -> Addr}
theorem ztb {x qual : Str} {st : Stmt} {f : Addr} {fd : FuncData} {N ps : List Str} {k n0 : Nat} {F : List Sl -> Option Fl} (Fn : Fun K x qual st f fd) (S : zba N ps (zao st))
  (h : ∀ (cdv : Value) (A : Around) (outer : List Env) (s : Shared) (H : Hp) (E : XK),zce k (A.deeper (envOfC qual (zao st) s.heap.objs.size f cdv)) -> DSs c (zgb CX0 P w K mg base N qual (zao st) f cdv A outer s H E).nox (za9 st) F) :
  zax P w K mg base CX0 (k + 1) f fd ps (spM ⟨K,c⟩ n0 ps.length (zhc N.length F)):=by
 refine Fn.ok S (fun vs H Q E ⟨Hf,ds0,ds1,xs,ys,d,l,us,vs0,vs1,ev,s0,hf,hu,r0,r1,rx,hn,hl,_⟩=>by rw [ev,List.length_append,List.length_cons,<- r0.length,<- r1.length]; omega) fun cdv A outer s H vs Q E hr ⟨Hf,ds0,ds1,xs,ys,d,l,us,vs0,vs1,ev,s0,hf,hu,r0,r1,rx,hn,hl,e,kq⟩=>⟨_,h cdv A outer s H E hr,?_⟩
 subst ev
 unfold zhc at e
 cases eF : F (ziv N.length l ds0 ds1 xs) with
 | none=>rw [eF] at e; cases e
 | some o =>
  rw [eF,Option.bind_some] at e
  refine ⟨Hf,zfw H l,Hf,_,o,za0.startM s0 hf hu r0 r1 rx,eF,?_⟩
  cases o with
  | nx ρ =>
   replace e : (zfg l ds0.length ρ).map (fun ys=>(ys,D.non)) = some (ys,d):=e
   cases ep : zfg l ds0.length ρ with
   | none=>rw [ep] at e; cases e
   | some zs =>
    rw [ep] at e
    cases e
    intro σ' Hf' H' _ so
    obtain ⟨l',e1,h0,hf',e2,us',hu',rx'⟩:=so.ownAt (s:=.pin l ys) rfl (zst ep)
    subst e2
    exact kq .non Hf' H' us' so.ext hf' hu' rx' rfl
  | rtS d' ρ =>
   replace e : (zfg l ds0.length ρ).map (fun ys=>(ys,d')) = some (ys,d):=e
   cases ep : zfg l ds0.length ρ with
   | none=>rw [ep] at e; cases e
   | some zs =>
    rw [ep] at e
    cases e
    intro v σ' Hf' H' so r
    obtain ⟨l',e1,h0,hf',e2,us',hu',rx'⟩:=so.ownAt (s:=.pin l ys) rfl (zst ep)
    subst e2
    exact kq v Hf' H' us' so.ext hf' hu' rx' r
  | _=>cases e
theorem zzl {x qual : Str} {st : Stmt} {f : Addr} {fd : FuncData} {N ps : List Str} {k n0 : Nat} {G : Gc} (Fn : Fun K x qual st f fd) (S : zba N ps (zao st)) : zax P w K mg base CX0 (k + 1) f fd ps (spM G n0 ps.length fun _ _ _ _=>none) :=
 Fn.ok S (fun vs H Q E ⟨Hf,ds0,ds1,xs,ys,d,l,us,vs0,vs1,ev,s0,hf,hu,r0,r1,rx,hn,hl,e,_⟩=>by cases e) fun cdv A outer s H vs Q E hr ⟨Hf,ds0,ds1,xs,ys,d,l,us,vs0,vs1,ev,s0,hf,hu,r0,r1,rx,hn,hl,e,kq⟩=>by cases e
end
theorem za0.giveS {G : Gc} {Hf0 H0 Hf H : Hp} {σ : St} {ρ : List Sl} {i : Nat} {l : Addr} {s : Sl} (hs : s.isOwn = true) (h : za0 G Hf0 H0 Hf H σ ρ) (e : ρ[i]? = some s) (el : σ[i]? = some (some (.ref l))) : za0 G Hf0 H0 Hf (zfw H l) σ (ρ.set i .no):=by
 obtain ⟨l',e1,h0,hf,q⟩:=h.ownAt hs e
 rw [el] at e1; cases e1
 refine ⟨⟨h.ext.f,znc h.ext.h h0,znc h.ext.s hf,h.ext.n⟩,by simpa using h.len,fun j u t a b=>?_,fun j k t t' l' a b ht ht' c d'=>?_⟩
 ·rcases zc9 b with ⟨e2,e',_⟩ | ⟨en,b⟩
  ·subst e'; trivial
  ·have q:=h.at' j u t a b
   cases ht : t.isOwn with
   | false =>
    cases t with
    | no=>trivial
    | im d=>exact q
    | _=>cases ht
   | true =>
    obtain ⟨l2,e2,e3,e4,q2⟩:=q.own ht
    subst e2
    refine .ofOwn ht ⟨l2,rfl,e3,e4,q2.up (za5.refl _) fun o' ho'=>?_⟩
    rw [zqm (fun z=>?_)]
    ·exact ho'
    ·subst z
     exact en (h.inj j i t s l2 b e ht hs a el)
 ·have old : ∀ (j : Nat) (t : Sl),(ρ.set i .no)[j]? = some t -> t.isOwn = true -> ρ[j]? = some t:=fun j t a ht=>by
   rcases zc9 a with ⟨_,e',_⟩ | ⟨_,a⟩
   ·subst e'; cases ht
   ·exact a
  exact h.inj j k t t' l' (old j t a ht) (old k t' b ht') ht ht' c d'
theorem za0.back {G : Gc} {Hf0 H0 Hf H Hf' H' : Hp} {σ : St} {ρ : List Sl} {i : Nat} {l : Addr} {s s' : Sl} (hs : s.isOwn = true) (hs' : s'.isOwn = true) (h : za0 G Hf0 H0 Hf H σ ρ) (e : ρ[i]? = some s) (el : σ[i]? = some (some (.ref l))) (x : Ext Hf (zfw H l) Hf' H') (hf : Hf' l = none) (ho : ze1 G Hf' H' l s') : za0 G Hf0 H0 Hf' H' σ (ρ.set i s'):=by
 have:=(h.giveS hs e el).setOwn (i:=i) (l:=l) hs' x zpm hf ho
 rw [List.set_set] at this
 have e2 : σ.set i (some (.ref l)) = σ:=by
  apply List.ext_getElem?
  intro j
  by_cases hj : i = j
  ·subst hj
   rw [List.getElem?_set_self (List.getElem?_eq_some_iff.mp el).1,el]
  ·rw [List.getElem?_set_ne hj]
 rw [e2] at this
 exact this
noncomputable def z4u (G : Gc) (i : Nat) (f : List Sl -> Option (List D × List D)) : TA:=fun σ H Q=>∃ Hf0 H0 Hf ρ ds0 ds1 l,za0 G Hf0 H0 Hf H σ ρ /\ σ[i]? = some (some (.ref l)) /\ f ρ = some (ds0,ds1) /\ ∀ vs0 vs1 Hf' H',Ext Hf H Hf' H' -> zas G Hf' ds0 vs0 -> zas G Hf' ds1 vs1 -> Q (vs0 ++ .ref l :: vs1) H'
structure DAM (c : Str -> Addr) (X : Cx) (es : List Expr) (i n0 : Nat) (f : List Sl -> Option (List D × List D)) : Prop where
 pa : PA X es (z4u (Gx c X) i f)
 len : ∀ ρ p,f ρ = some p -> p.1.length = n0 /\ p.1.length + 1 + p.2.length = es.length
noncomputable def zgl (g : List Sl -> Option (List D)) (ρ : List Sl) : Option (List D × List D):=(g ρ).map fun ds=>([],ds)
noncomputable def zdj (f : List Sl -> Option D) (g : List Sl -> Option (List D × List D)) (ρ : List Sl) : Option (List D × List D):=(f ρ).bind fun d=>(g ρ).map fun p=>(d :: p.1,p.2)
theorem zsn {f : List Sl -> Option D} {g : List Sl -> Option (List D × List D)} {ρ : List Sl} {p : List D × List D} (h : zdj f g ρ = some p) : ∃ d r,f ρ = some d /\ g ρ = some r /\ p = (d :: r.1,r.2):=by
 unfold zdj at h
 cases e1 : f ρ with
 | none=>rw [e1] at h; cases h
 | some d =>
  cases e2 : g ρ with
  | none=>rw [e1,e2] at h; cases h
  | some r=>rw [e1,e2] at h; cases h; exact ⟨d,r,rfl,rfl,rfl⟩
section
variable {c : Str -> Addr} {X : Cx} {k n0 : Nat} {f : Addr} {fd : FuncData} {ps : List Str} {x : Str} {p pos pos' : Pos} {e : Expr} {es : List Expr} {fa : List Sl -> Option (List D × List D)} {i : Nat}
theorem zzh {g : List Sl -> Option (List D)} (h : PE X e (zei i)) (hr : DA c X es g) (hs : starEach (e :: es) X.env = (false,eval e X.env) :: starEach es X.env:=by rfl) : DAM c X (e :: es) i 0 (zgl g) :=
 ⟨PA.imp (zdr h hr.pa hs) fun σ H Q ⟨Hf0,H0,Hf,ρ,ds0,ds1,l,st,el,ef,k⟩=>by
  unfold zgl at ef
  cases e1 : g ρ with
  | none=>rw [e1] at ef; cases ef
  | some ds =>
   rw [e1] at ef
   cases ef
   exact ⟨_,el,Hf0,H0,Hf,ρ,ds1,st,e1,fun vs Hf' H' x r=>k [] vs Hf' H' x rfl r⟩,fun ρ p h=>by
  unfold zgl at h
  cases e1 : g ρ with
  | none=>rw [e1] at h; cases h
  | some ds =>
   rw [e1] at h
   cases h
   refine ⟨rfl,?_⟩
   rw [List.length_cons,<- hr.len ρ ds e1]
   show 0 + 1 + ds.length = _
   omega⟩
theorem zob (i : Nat) {x : Str} {g : List Sl -> Option (List D)} (hr : DA c X es g) (hN : X.N[i]? = some x:=by rfl) (hv : Vis X.env.scope x:=by first | exact Or.inl rfl | exact Or.inr (Or.inl rfl) | exact Or.inr (Or.inr rfl)) (hd : (x == ("__debug__" : Str)) = false:=by decide)
  (hcd : (x == ("__classdict__" : Str)) = false:=by decide) (hs : starEach (.Name x pos :: es) X.env = (false,eval (.Name x pos) X.env) :: starEach es X.env:=by rfl) : DAM c X (.Name x pos :: es) i 0 (zgl g):=zzh (zgu hN hv hd hcd) hr hs
theorem zeq {f : List Sl -> Option D} {g : List Sl -> Option (List D × List D)} (ha : DE c X e f) (hr : DAM c X es i n0 g) (hs : starEach (e :: es) X.env = (false,eval e X.env) :: starEach es X.env:=by rfl) : DAM c X (e :: es) i (n0 + 1) (zdj f g):=by
 refine ⟨PA.imp (zdr ha hr.pa hs) fun σ H Q ⟨Hf0,H0,Hf,ρ,ds0,ds1,l,st,el,ef,k⟩=>?_,fun ρ p h=>?_⟩
 ·obtain ⟨d,r,e1,e2,e3⟩:=zsn ef
  cases e3
  exact ⟨Hf0,H0,Hf,ρ,d,st,e1,fun v Hf1 H1 x1 r1=>⟨Hf0,H0,Hf1,ρ,r.1,r.2,l,st.step x1,el,e2,fun vs0 vs1 Hf2 H2 x2 r2 r3=>k _ vs1 Hf2 H2 (x1.trans x2) (.cons (r1.up x2.f) r2) r3⟩⟩
 ·obtain ⟨d,r,e1,e2,rfl⟩:=zsn h
  obtain ⟨h1,h2⟩:=hr.len ρ r e2
  refine ⟨by show r.1.length + 1 = _; rw [h1],?_⟩
  show (r.1.length + 1) + 1 + r.2.length = _
  rw [List.length_cons]
  omega
noncomputable def zh3 (i : Nat) (m : Addr -> List D -> List D -> List D -> Option (List D × D)) (f : List Sl -> Option (List D × List D)) (ρ : List Sl) : Option (D × List Sl):=match ρ[i]? with
 | some (.pin l xs)=>(f ρ).bind fun p=>(m l p.1 p.2 xs).map fun q=>(q.2,ρ.set i (.pin l q.1))
 | _=>none
open Classical in
noncomputable def zl2 (i : Nat) (m : Addr -> List D -> List D -> List D -> Option (List D × D)) (f : List Sl -> Option (List D × List D)) (ρ : List Sl) : Option (D × List Sl):=match ρ[i]? with
 | some (.own xs)=>(f ρ).bind fun p=>if h : ∃ q,∀ l,m l p.1 p.2 xs = some q then some (h.choose.2,ρ.set i (.own h.choose.1)) else none
 | _=>none
theorem zq0 {m : Addr -> List D -> List D -> List D -> Option (List D × D)} (F : zax X.prog X.w X.K X.mg X.base CX0 k f fd ps (spM (Gx c X) n0 ps.length m)) (hr : zce k X.A) (hg : Gl X x) (hm : X.mg x = some (.ref f)) (hk : PySem.W.keepIn X.K (.ref f) = true) (hb : za2 X.K fd ps []) (ha : DAM c X (e :: es) i n0 fa)
  (hl : (e :: es).length = ps.length:=by rfl) (hdb : (x == ("__debug__" : Str)) = false:=by decide) (he : starEach (e :: es) X.env = (false,eval e X.env) :: starEach es X.env:=by rfl) (hpl : (backTo pos (starEach es X.env)).any (·.1) = false:=by rfl) :
  DX c X (.Call (.Name x p) (e :: es) [] pos) (zh3 i m fa):=PE.imp (zik F hr hg hm hk hb .nil zg6 ha.pa hdb he hpl) fun σ H Q q_=>by
 obtain ⟨Hf0,H0,Hf,ρ,d,ρ',st,ef,kq⟩:=q_
 unfold zh3 at ef
 split at ef
 ·rename_i l xs eo
  cases e1 : fa ρ with
  | none=>rw [e1] at ef; cases ef
  | some pp =>
   rw [e1,Option.bind_some] at ef
   cases e2 : m l pp.1 pp.2 xs with
   | none=>rw [e2] at ef; cases ef
   | some q =>
    rw [e2] at ef
    cases ef
    obtain ⟨l',el,h0,hf,eq,us,hu,rx⟩:=st.ownAt (s:=.pin l xs) rfl eo
    subst eq
    refine ⟨Hf0,H0,Hf,ρ,pp.1,pp.2,l',st,el,e1,fun vs0 vs1 Hf' H' x r0 r1=>?_⟩
    dsimp only
    rw [List.append_nil]
    have st':=st.step x
    obtain ⟨l2,el2,h02,hf2,eq2,us2,hu2,rx2⟩:=st'.ownAt (s:=.pin l' xs) rfl eo
    subst eq2
    obtain ⟨n1,n2⟩:=ha.len ρ pp e1
    exact ⟨Hf',pp.1,pp.2,xs,q.1,q.2,l2,us2,vs0,vs1,rfl,x.s,hf2,hu2,r0,r1,rx2,n1,n2.trans hl,e2,fun v Hf3 H3 us3 x3 hf3 hu3 rx3 r3=>kq v Hf3 H3 (x.f.trans x3.f) (st'.back (s:=.pin l2 xs) (s':=.pin l2 q.1) rfl rfl eo el2 x3 hf3 ⟨rfl,us3,hu3,rx3⟩) r3⟩
 ·cases ef
theorem z1b {m : Addr -> List D -> List D -> List D -> Option (List D × D)} (F : zax X.prog X.w X.K X.mg X.base CX0 k f fd ps (spM (Gx c X) n0 ps.length m)) (hr : zce k X.A) (hg : Gl X x) (hm : X.mg x = some (.ref f)) (hk : PySem.W.keepIn X.K (.ref f) = true) (hb : za2 X.K fd ps []) (ha : DAM c X (e :: es) i n0 fa)
  (hl : (e :: es).length = ps.length:=by rfl) (hdb : (x == ("__debug__" : Str)) = false:=by decide) (he : starEach (e :: es) X.env = (false,eval e X.env) :: starEach es X.env:=by rfl) (hpl : (backTo pos (starEach es X.env)).any (·.1) = false:=by rfl) :
  DX c X (.Call (.Name x p) (e :: es) [] pos) (zl2 i m fa):=PE.imp (zik F hr hg hm hk hb .nil zg6 ha.pa hdb he hpl) fun σ H Q q_=>by
 obtain ⟨Hf0,H0,Hf,ρ,d,ρ',st,ef,kq⟩:=q_
 unfold zl2 at ef
 split at ef
 ·rename_i xs eo
  cases e1 : fa ρ with
  | none=>rw [e1] at ef; cases ef
  | some pp =>
   rw [e1,Option.bind_some] at ef
   split at ef
   ·rename_i hq
    have e2:=hq.choose_spec
    generalize hq.choose = q at ef e2
    cases ef
    obtain ⟨l',el,h0,hf,us,hu,rx⟩:=st.ownAt (s:=.own xs) rfl eo
    refine ⟨Hf0,H0,Hf,ρ,pp.1,pp.2,l',st,el,e1,fun vs0 vs1 Hf' H' x r0 r1=>?_⟩
    dsimp only
    rw [List.append_nil]
    have st':=st.step x
    obtain ⟨l2,el2,h02,hf2,us2,hu2,rx2⟩:=st'.ownAt (s:=.own xs) rfl eo
    rw [el] at el2; cases el2
    obtain ⟨n1,n2⟩:=ha.len ρ pp e1
    exact ⟨Hf',pp.1,pp.2,xs,q.1,q.2,l',us2,vs0,vs1,rfl,x.s,hf2,hu2,r0,r1,rx2,n1,n2.trans hl,e2 l',fun v Hf3 H3 us3 x3 hf3 hu3 rx3 r3=>kq v Hf3 H3 (x.f.trans x3.f) (st'.back (s:=.own xs) (s':=.own q.1) rfl rfl eo el x3 hf3 ⟨us3,hu3,rx3⟩) r3⟩
   ·cases ef
 ·cases ef
noncomputable def zh9 (f : List Sl -> Option (D × List Sl)) (ρ : List Sl) : Option Fl:=(f ρ).map fun p=>.nx p.2
theorem zpz {f : List Sl -> Option (D × List Sl)} (he : DX c X e f) (hs : swapsWith e none pos.line X.env = pure false:=by rfl) : DS c X (.Expr e pos) (zh9 f):=PS.imp (ze7 he hs) fun E σ H q_=>by
 obtain ⟨Hf0,H0,Hf,ρ,o,so,ef,k⟩:=q_
 unfold zh9 at ef
 cases e1 : f ρ with
 | none=>rw [e1] at ef; cases ef
 | some p =>
  rw [e1] at ef
  cases ef
  exact ⟨Hf0,H0,Hf,ρ,p.1,p.2,so,e1,fun v Hf' H' s so' r=>k σ Hf' H' s so'⟩
noncomputable def zlf (i : Nat) (f : List Sl -> Option (D × List Sl)) (ρ : List Sl) : Option Fl:=(f ρ).map fun p=>.nx (p.2.set i (.im (.lst [p.1])))
theorem z10 (i : Nat) {x : Str} {f : List Sl -> Option (D × List Sl)} {spos : Pos} (hN : X.N.Nodup) (he : DX c X e f) (hi : X.N[i]? = some x:=by rfl) (hx : Loc X.env.scope x:=by first | exact Or.inl rfl | exact Or.inr rfl) (hs : swapsWith (.List [e] pos) (some (.Name x pos')) spos.line X.env = pure false:=by rfl) (hf : X.fn x = true \/ X.env.scope.names.lookup x = some .local:=by first | exact .inl rfl | exact .inr rfl) (hst : starEach [e] X.env = (false,eval e X.env) :: starEach [] X.env:=by rfl) :
  DS c X (.Assign [.Name x pos'] (.List [e] pos) spos) (zlf i f):=PS.imp (znb hN hi hx (zsu (zdr he zee hst)) hs hf) fun E σ H q_=>by
 obtain ⟨Hf0,H0,Hf,ρ,o,so,ef,k⟩:=q_
 unfold zlf at ef
 cases e1 : f ρ with
 | none=>rw [e1] at ef; cases ef
 | some p =>
  rw [e1] at ef
  cases ef
  refine ⟨Hf0,H0,Hf,ρ,p.1,p.2,so,e1,fun v Hf' H' s so' r=>⟨(by rw [sizeLine_eq]; show 1 <= 16777216; decide),fun q hq=>?_⟩⟩
  exact k _ (upd Hf' q (.lst [v])) (upd H' q (.lst [v])) (s.trans (zc2 (so'.sub.free hq))) ((so'.step (Ext.new so'.sub hq)).setIm ⟨q,[v],rfl,zcg,.cons (r.up (zc2 (so'.sub.free hq))) .nil⟩)
noncomputable def zgx (i : Nat) (ρ : List Sl) : Option D:=match ρ[i]? with
 | some (.pin _ xs)=>some (.lst xs)
 | _=>none
noncomputable def zn2 (i : Nat) (ρ : List Sl) : Option (List D):=match ρ[i]? with
 | some (.pin _ xs)=>some xs
 | _=>none
theorem zou (i : Nat) {x : Str} (hN : X.N[i]? = some x:=by rfl) (hv : Vis X.env.scope x:=by first | exact Or.inl rfl | exact Or.inr (Or.inl rfl) | exact Or.inr (Or.inr rfl)) (hd : (x == ("__debug__" : Str)) = false:=by decide)
  (hcd : (x == ("__classdict__" : Str)) = false:=by decide) : DB c X (.Name x pos) (zgx i):=PE.imp (zgu hN hv hd hcd) fun σ H Q q_=>by
 obtain ⟨Hf0,H0,Hf,ρ,d,st,ef,k⟩:=q_
 unfold zgx at ef
 split at ef
 ·rename_i l xs es
  cases ef
  obtain ⟨l',e1,_,_,_,vs,q,r⟩:=st.ownAt (s:=.pin l xs) rfl es
  exact ⟨_,e1,k _ Hf H (Ext.refl st.sub) ⟨l',vs,rfl,q,r.up st.sub⟩⟩
 ·cases ef
theorem z73 (i : Nat) {tg : Expr} {x : Str} (hN : X.N[i]? = some x:=by rfl) (hv : Vis X.env.scope x:=by first | exact Or.inl rfl | exact Or.inr (Or.inl rfl) | exact Or.inr (Or.inr rfl)) (hd : (x == ("__debug__" : Str)) = false:=by decide)
  (hcd : (x == ("__classdict__" : Str)) = false:=by decide) : DIe c X tg (.Name x pos) (zn2 i):=fun pins s σ H R I q_=>by
 obtain ⟨Hf0,H0,Hf,ρ,ds,st,ef,k⟩:=q_
 unfold zn2 at ef
 split at ef
 ·rename_i l xs es
  cases ef
  obtain ⟨l',e1,_,_,_,vs,q,r⟩:=st.ownAt (s:=.pin l ds) rfl es
  exact zth (zgu hN hv hd hcd) pins s σ H R I ⟨_,e1,l',rfl,⟨vs,SqL.of q⟩,k _ Hf H (Ext.refl st.sub) (zyl (SqL.of q) r)⟩
 ·cases ef
noncomputable def zi3 (i : Nat) (f : List Sl -> Option D) (ρ : List Sl) : Option Fl:=(f ρ).bind fun d=>match ρ[i]? with
 | some (.pin l xs)=>if xs.length < 16777216 then some (.nx (ρ.set i (.pin l (xs ++ [d])))) else none
 | _=>none
theorem ztu {st : Stmt} {i : Nat} {f : List Sl -> Option D} (h : PS X st (zm3 (tBM X.K "list" zq8 (zei i) (znp (tD (Gx c X) f) zn7)))) : DS c X st (zi3 i f):=PS.imp h fun E σ H q_=>by
 obtain ⟨Hf0,H0,Hf,ρ,o,so,ef,k⟩:=q_
 unfold zi3 at ef
 cases e1 : f ρ with
 | none=>rw [e1] at ef; cases ef
 | some d =>
  rw [e1,Option.bind_some] at ef
  split at ef
  ·rename_i l xs es
   split at ef
   ·rename_i hl
    cases ef
    obtain ⟨l',e2,h0,hf,eq,vs,q,r⟩:=so.ownAt (s:=.pin l xs) rfl es
    subst eq
    refine ⟨_,e2,.inl ⟨rfl,_,SqL.of q⟩,Hf0,H0,Hf,ρ,d,so,e1,fun v Hf' H' x r'=>?_⟩
    have so':=so.step x
    have q':=x.h _ _ q
    refine ⟨l',vs,v,rfl,rfl,q',by rw [sizeLine_eq,<- r.length]; exact hl,k σ Hf' _ x.f (so'.mutd (s:=.pin l' xs) (s':=.pin l' (xs ++ [d])) rfl rfl es e2 ⟨rfl,vs ++ [v],zcg,(r.up x.f).append (.cons r' .nil)⟩)⟩
   ·cases ef
  ·cases ef
end
theorem zrj {i : Nat} {m : Addr -> List D -> List D -> List D -> Option (List D × D)} {f : List Sl -> Option (List D × List D)} {ρ : List Sl} {l : Addr} {xs ds0 ds1 ys : List D} {d : D} (h : ρ[i]? = some (.pin l xs)) (hf : f ρ = some (ds0,ds1)) (hm : m l ds0 ds1 xs = some (ys,d)) : zh3 i m f ρ = some (d,ρ.set i (.pin l ys)):=by
 unfold zh3
 rw [h]
 show (f ρ).bind _ = _
 rw [hf,Option.bind_some,hm]
 rfl
theorem z7x {i : Nat} {m : Addr -> List D -> List D -> List D -> Option (List D × D)} {f : List Sl -> Option (List D × List D)} {ρ : List Sl} {xs ds0 ds1 ys : List D} {d : D} (h : ρ[i]? = some (.own xs)) (hf : f ρ = some (ds0,ds1)) (hm : ∀ l,m l ds0 ds1 xs = some (ys,d)) : zl2 i m f ρ = some (d,ρ.set i (.own ys)):=by
 unfold zl2
 rw [h]
 show (f ρ).bind _ = _
 rw [hf,Option.bind_some,dif_pos ⟨(ys,d),hm⟩]
 have e : (⟨(ys,d),hm⟩ : ∃ q,∀ l,m l ds0 ds1 xs = some q).choose = (ys,d):=by
  have:=(⟨(ys,d),hm⟩ : ∃ q,∀ l,m l ds0 ds1 xs = some q).choose_spec 0
  rw [hm 0] at this
  exact (Option.some.inj this).symm
 rw [e]
theorem zen {f : List Sl -> Option D} {g : List Sl -> Option (List D × List D)} {ρ : List Sl} {d : D} {a b : List D} (h : f ρ = some d) (h' : g ρ = some (a,b)) : zdj f g ρ = some (d :: a,b):=by
 unfold zdj
 rw [h,h']
 rfl
theorem zn9 {g : List Sl -> Option (List D)} {ρ : List Sl} {ds : List D} (h : g ρ = some ds) : zgl g ρ = some ([],ds):=by
 unfold zgl
 rw [h]
 rfl
theorem zrm {f : List Sl -> Option (D × List Sl)} {ρ ρ' : List Sl} {d : D} {K : Fl -> Prop} (h : f ρ = some (d,ρ')) (k : K (.nx ρ')) : wp (zh9 f) ρ K:=⟨_,by unfold zh9; rw [h]; rfl,k⟩
theorem zw0 {i : Nat} {f : List Sl -> Option (D × List Sl)} {ρ ρ' : List Sl} {d : D} {K : Fl -> Prop} (h : f ρ = some (d,ρ')) (k : K (.nx (ρ'.set i (.im (.lst [d]))))) : wp (zlf i f) ρ K:=⟨_,by unfold zlf; rw [h]; rfl,k⟩
theorem zpr {i : Nat} {f : List Sl -> Option D} {ρ : List Sl} {d : D} {l : Addr} {xs : List D} {K : Fl -> Prop} (h : f ρ = some d) (h' : ρ[i]? = some (.pin l xs)) (hl : xs.length < 16777216) (k : K (.nx (ρ.set i (.pin l (xs ++ [d]))))) : wp (zi3 i f) ρ K:=⟨_,by
 unfold zi3
 rw [h,Option.bind_some,h']
 exact if_pos hl,k⟩
theorem zn0 {f : List Sl -> Option D} {ρ : List Sl} {d : D} {K : Fl -> Prop} (h : f ρ = some d) (k : K (.rtS d ρ)) : wp (zi4 f) ρ K:=⟨_,by unfold zi4; rw [h]; rfl,k⟩
theorem zvh {l : Addr} {i : Nat} {ρ : List Sl} {ys : List D} (h : ρ[i]? = some (.pin l ys)) : zfg l i ρ = some ys:=by
 unfold zfg
 rw [h]
 exact if_pos rfl
theorem zzi {N : Nat} {F : List Sl -> Option Fl} {l : Addr} {ds0 ds1 xs ys : List D} {ρ : List Sl} (h : F (ziv N l ds0 ds1 xs) = some (.nx ρ)) (h' : ρ[ds0.length]? = some (.pin l ys)) : zhc N F l ds0 ds1 xs = some (ys,.non):=by
 unfold zhc
 rw [h,Option.bind_some]
 show (zfg l ds0.length ρ).map _ = _
 rw [zvh h']
 rfl
theorem z6z {N : Nat} {F : List Sl -> Option Fl} {l : Addr} {ds0 ds1 xs ys : List D} {d : D} {ρ : List Sl} (h : F (ziv N l ds0 ds1 xs) = some (.rtS d ρ)) (h' : ρ[ds0.length]? = some (.pin l ys)) : zhc N F l ds0 ds1 xs = some (ys,d):=by
 unfold zhc
 rw [h,Option.bind_some]
 show (zfg l ds0.length ρ).map _ = _
 rw [zvh h']
 rfl
end L2
namespace N_k42
open PySem PySem.Spec PyProof.Rows L2
local macro_rules | `(tactic| walk_at "sc")=>`(tactic| exact ⟨rfl,rfl,rfl,by decide +kernel,rfl,by decide +kernel,by decide +kernel⟩)
noncomputable def top (i : Nat) : Stmt:=PySem.Challenge.pw_standstill_k42_a_paper.main.body.getD i (.Pass ⟨0,0,0,0⟩)
noncomputable abbrev s_8 : Stmt:=top 2
noncomputable abbrev zk8 : Stmt:=top 9
noncomputable abbrev zkd : Stmt:=top 10
noncomputable abbrev zjg : Stmt:=top 11
noncomputable abbrev zkg : Stmt:=top 12
noncomputable abbrev zkj : Stmt:=top 16
noncomputable abbrev zjz : Stmt:=top 17
noncomputable abbrev zka : Stmt:=top 18
noncomputable abbrev zj6 : Stmt:=top 19
noncomputable abbrev zku : Stmt:=top 21
noncomputable abbrev zkb : Stmt:=top 22
noncomputable abbrev zk7 : Stmt:=top 23
noncomputable abbrev zkx : Stmt:=top 24
noncomputable abbrev s_4 : Stmt:=top 25
noncomputable abbrev zkr : Stmt:=top 26
noncomputable abbrev zjt : Stmt:=top 27
noncomputable abbrev zjo : Stmt:=top 28
noncomputable abbrev zjk : Stmt:=top 30
noncomputable abbrev zj5 : Stmt:=top 31
noncomputable abbrev zkf : Stmt:=top 32
noncomputable abbrev ziy : Stmt:=top 33
noncomputable abbrev s_5 : Stmt:=top 35
noncomputable abbrev s_0 : Stmt:=top 36
noncomputable abbrev zks : Stmt:=top 37
noncomputable abbrev zj4 : Stmt:=top 38
noncomputable abbrev zj7 : Stmt:=top 39
noncomputable abbrev zkl : Stmt:=top 40
noncomputable abbrev s_9 : Stmt:=top 41
noncomputable abbrev zkw : Stmt:=top 42
noncomputable abbrev s_6 : Stmt:=top 43
noncomputable abbrev zko : Stmt:=top 44
noncomputable abbrev zjv : Stmt:=top 45
noncomputable abbrev zja : Stmt:=top 46
noncomputable abbrev zkm : Stmt:=top 47
noncomputable abbrev s_3 : Stmt:=top 48
noncomputable abbrev s_7 : Stmt:=top 49
noncomputable abbrev zkz : Stmt:=top 50
noncomputable abbrev zjb : Stmt:=top 51
noncomputable abbrev s_1 : Stmt:=top 52
noncomputable abbrev zjw : Stmt:=top 53
noncomputable abbrev zjr : Stmt:=top 54
noncomputable abbrev zjc : Stmt:=top 55
noncomputable abbrev ziz : Stmt:=top 56
noncomputable abbrev zj3 : Stmt:=top 57
noncomputable abbrev zji : Stmt:=top 58
noncomputable abbrev zj9 : Stmt:=top 59
noncomputable abbrev zk1 : Stmt:=top 60
noncomputable abbrev zj0 : Stmt:=top 61
noncomputable abbrev zjm : Stmt:=top 62
noncomputable abbrev s_2 : Stmt:=top 63
noncomputable abbrev zi5 : Stmt:=zfm (top 5) 0
noncomputable abbrev zjf : Stmt:=zfm (top 5) 5
noncomputable abbrev zkn : Stmt:=zfm (top 5) 8
noncomputable abbrev zjj : Stmt:=zfm (top 6) 0
noncomputable abbrev zkt : Stmt:=zfm (top 6) 5
noncomputable abbrev zjq : Stmt:=zfm (top 6) 8
noncomputable abbrev zi2 : Stmt:=zfm (top 7) 0
noncomputable abbrev zk6 : Stmt:=zfm (top 7) 5
noncomputable abbrev zk9 : Stmt:=zfm (top 7) 8
noncomputable abbrev zkv : Stmt:=zfm (top 8) 0
noncomputable abbrev zkk : Stmt:=zfm (top 8) 5
noncomputable abbrev zk4 : Stmt:=zfm (top 8) 8
theorem zqs : zba ["many","some","listed","thing"] ["many","some"] (zao s_8):=by walk_at "sc"
theorem zsh : zba ["told","word"] ["told"] (zao zk8):=by walk_at "sc"
theorem z8g : zba ["items","entries"] ["items","entries"] (zao zkd):=by walk_at "sc"
theorem z5z : zba ["items","sheet"] ["items","sheet"] (zao zjg):=by walk_at "sc"
theorem z2z : zba ["items","without"] ["items","without"] (zao zkg):=by walk_at "sc"
theorem z8l : zba ["rule"] ["rule"] (zao zkj):=by walk_at "sc"
theorem z1k : zba ["rule","sheet"] ["rule","sheet"] (zao zjz):=by walk_at "sc"
theorem z07 : zba ["rule","sheet","without"] ["rule","sheet","without"] (zao zka):=by walk_at "sc"
theorem z2f : zba ["rule","sheet"] ["rule","sheet"] (zao zj6):=by walk_at "sc"
theorem zr7 : zba ["sheet","thing","truth","other"] ["sheet","thing","truth"] (zao zku):=by walk_at "sc"
theorem zv4 : zba ["rule","sheet","without","thing"] ["rule","sheet","without"] (zao zkb):=by walk_at "sc"
theorem z7i : zba ["sheet","bar"] ["sheet","bar"] (zao zk7):=by walk_at "sc"
theorem zs7 : zba ["plain","worlds","bars","sheet","why","number"] ["plain","worlds","bars","sheet","why"] (zao zkx):=by walk_at "sc"
theorem z0g : zba ["listed","number"] ["listed","number"] (zao s_4):=by walk_at "sc"
theorem zup : zba ["plain","sheet","things","without"] ["plain","sheet","things"] (zao zkr):=by walk_at "sc"
theorem zzn : zba ["sheet","things"] ["sheet","things"] (zao zjt):=by walk_at "sc"
theorem zv5 : zba ["plain","worlds","bars","sheet","step","pair"] ["plain","worlds","bars","sheet","step"] (zao zjo):=by walk_at "sc"
theorem zo9 : zba ["plain","worlds","bars","line","bar","things"] ["plain","worlds","bars","line"] (zao zjk):=by walk_at "sc"
theorem znf : zba ["many","bar","thing","sheet","truth"] ["many","bar"] (zao zj5):=by walk_at "sc"
theorem zma : zba ["plain","worlds","bars","sheet","steps","after","place","step","ends"] ["plain","worlds","bars","sheet","steps"] (zao zkf):=by walk_at "sc"
theorem zqe : zba ["plain","worlds","paper","bars","line"] ["plain","worlds","paper"] (zao ziy):=by walk_at "sc"
theorem z03 : zba ["_law_script","_law_k"] ["_law_script","_law_k"] (zao s_5):=by walk_at "sc"
theorem zlb : zba ["_law_cell","_law_many","_law_found","_law_number","_law_k"] ["_law_cell","_law_many"] (zao s_0):=by walk_at "sc"
theorem zx8 : zba ["_law_x"] ["_law_x"] (zao zks):=by walk_at "sc"
theorem zmy : zba ["_law_xs","_law_many","_law_word","_law_items","_law_near"] ["_law_xs","_law_many"] (zao zj4):=by walk_at "sc"
theorem zrf : zba ["_law_cell","_law_many","_law_calm","_law_xs","_law_parts"] ["_law_cell","_law_many","_law_calm"] (zao zj7):=by walk_at "sc"
theorem zmj : zba ["_law_kind","_law_many","_law_rules","_law_k","_law_on","_law_part_here"] ["_law_kind","_law_many"] (zao zkl):=by walk_at "sc"
theorem zhd : zba ["_law_rules","_law_found","_law_word","_law_head","_law_parts","_law_mine","_law_part_here"] ["_law_rules"] (zao s_9):=by walk_at "sc"
theorem z68 : zba ["_law_part_here","_law_sheet"] ["_law_part_here","_law_sheet"] (zao zkw):=by walk_at "sc"
theorem z3a : zba ["_law_rule_here","_law_sheet"] ["_law_rule_here","_law_sheet"] (zao s_6):=by walk_at "sc"
theorem zvg : zba ["_law_part_here","_law_sheet","_law_without","_law_left"] ["_law_part_here","_law_sheet","_law_without"] (zao zko):=by walk_at "sc"
theorem zw4 : zba ["_law_rule_here","_law_sheet","_law_without"] ["_law_rule_here","_law_sheet","_law_without"] (zao zjv):=by walk_at "sc"
theorem zjx : zba ["_law_rules","_law_sheet","_law_left","_law_going","_law_rule_here"] ["_law_rules","_law_sheet"] (zao zja):=by walk_at "sc"
theorem z7s : zba ["_law_sheet","_law_bar"] ["_law_sheet","_law_bar"] (zao zkm):=by walk_at "sc"
theorem zog : zba ["_law_rules","_law_sets","_law_bars","_law_sheet","_law_why","_law_word","_law_told","_law_without"] ["_law_rules","_law_sets","_law_bars","_law_sheet","_law_why"] (zao s_3):=by walk_at "sc"
theorem z42 : zba ["_law_sheet","_law_thing","_law_entry"] ["_law_sheet","_law_thing","_law_entry"] (zao s_7):=by walk_at "sc"
theorem zn3 : zba ["_law_rules","_law_sets","_law_bars","_law_sheet","_law_found","_law_left","_law_mine"] ["_law_rules","_law_sets","_law_bars","_law_sheet"] (zao zkz):=by walk_at "sc"
theorem zqt : zba ["_law_cell","_law_rules","_law_sets","_law_lines","_law_sheet","_law_xs","_law_word"] ["_law_cell","_law_rules","_law_sets","_law_lines","_law_sheet"] (zao zjb):=by walk_at "sc"
theorem zgy : zba ["_law_rules","_law_sets","_law_sheet","_law_bar","_law_lines","_law_cell","_law_xs","_law_thing","_law_things","_law_whys_here","_law_truth","_law_one"] ["_law_rules","_law_sets","_law_sheet","_law_bar","_law_lines","_law_cell"] (zao s_1):=by walk_at "sc"
theorem zxi : zba ["_law_part_here","_law_rising","_law_held"] ["_law_part_here","_law_rising","_law_held"] (zao zjw):=by walk_at "sc"
theorem zkc : zba ["_law_rules","_law_held","_law_rising","_law_turn","_law_word","_law_head","_law_parts"] ["_law_rules","_law_held"] (zao zjr):=by walk_at "sc"
theorem zl7 : zba ["_law_many","_law_rules","_law_rows","_law_k","_law_held"] ["_law_many","_law_rules"] (zao zjc):=by walk_at "sc"
theorem zlt : zba ["_law_steps","_law_found","_law_pair","_law_why"] ["_law_steps"] (zao ziz):=by walk_at "sc"
theorem zod : zba ["_law_many","_law_bar","_law_sheet","_law_thing","_law_truth"] ["_law_many","_law_bar"] (zao zj3):=by walk_at "sc"
theorem zki : zba ["_law_many","_law_rules","_law_sets","_law_bars","_law_line","_law_bar","_law_steps","_law_sheet","_law_pair","_law_why"] ["_law_many","_law_rules","_law_sets","_law_bars","_law_line"] (zao zji):=by walk_at "sc"
theorem zmo : zba ["_law_many","_law_rules","_law_sets","_law_lines","_law_bars","_law_k","_law_line"] ["_law_many","_law_rules","_law_sets","_law_lines"] (zao zj9):=by walk_at "sc"
theorem zhh : zba ["_law_line","_law_x","_law_bar","_law_steps","_law_at","_law_pair","_law_why"] ["_law_line","_law_x"] (zao zk1):=by walk_at "sc"
theorem zis : zba ["_law_sets","_law_lines","_law_cell","_law_many","_law_xs","_law_way","_law_at","_law_thing","_law_mine"] ["_law_sets","_law_lines","_law_cell","_law_many"] (zao zj0):=by walk_at "sc"
theorem zmv : zba ["_law_many","_law_rules","_law_sets","_law_lines","_law_handed","_law_mine","_law_found"] ["_law_many","_law_rules","_law_sets","_law_lines"] (zao zjm):=by walk_at "sc"
theorem zfl : zba ["_law_script","_law_hs","_law_many","_law_rules","_law_cell","_law_sets","_law_lines","_law_some","_law_mine"] ["_law_script"] (zao s_2):=by walk_at "sc"
theorem z5d : zba ["self","thing"] ["self","thing"] (zao zi5):=by walk_at "sc"
theorem zzc : zba ["self","sheet"] ["self","sheet"] (zao zjf):=by walk_at "sc"
theorem zyo : zba ["self","sheet","without"] ["self","sheet","without"] (zao zkn):=by walk_at "sc"
theorem z5b : zba ["self","thing"] ["self","thing"] (zao zjj):=by walk_at "sc"
theorem z15 : zba ["self","sheet"] ["self","sheet"] (zao zkt):=by walk_at "sc"
theorem z1d : zba ["self","sheet","without"] ["self","sheet","without"] (zao zjq):=by walk_at "sc"
theorem z1j : zba ["self","bound","items"] ["self","bound","items"] (zao zi2):=by walk_at "sc"
theorem z0r : zba ["self","sheet"] ["self","sheet"] (zao zk6):=by walk_at "sc"
theorem z5v : zba ["self","sheet","without"] ["self","sheet","without"] (zao zk9):=by walk_at "sc"
theorem z7f : zba ["self","bound","items"] ["self","bound","items"] (zao zkv):=by walk_at "sc"
theorem zy9 : zba ["self","sheet"] ["self","sheet"] (zao zkk):=by walk_at "sc"
theorem z38 : zba ["self","sheet","without"] ["self","sheet","without"] (zao zk4):=by walk_at "sc"
set_option genInjectivity false
set_option genSizeOf false
structure Wa where
 f_8 : Addr
 fd_8 : FuncData
 f_48 : Addr
 fd_48 : FuncData
 f_30 : Addr
 fd_30 : FuncData
 f_20 : Addr
 fd_20 : FuncData
 f_51 : Addr
 fd_51 : FuncData
 f_31 : Addr
 fd_31 : FuncData
 f_52 : Addr
 fd_52 : FuncData
 f_53 : Addr
 fd_53 : FuncData
 f_54 : Addr
 fd_54 : FuncData
 f_44 : Addr
 fd_44 : FuncData
 f_45 : Addr
 fd_45 : FuncData
 f_55 : Addr
 fd_55 : FuncData
 f_13 : Addr
 fd_13 : FuncData
 f_4 : Addr
 fd_4 : FuncData
 f_46 : Addr
 fd_46 : FuncData
 f_56 : Addr
 fd_56 : FuncData
 f_47 : Addr
 fd_47 : FuncData
 f_40 : Addr
 fd_40 : FuncData
 f_32 : Addr
 fd_32 : FuncData
 f_33 : Addr
 fd_33 : FuncData
 f_41 : Addr
 fd_41 : FuncData
 f_5 : Addr
 fd_5 : FuncData
 f_0 : Addr
 fd_0 : FuncData
 f_42 : Addr
 fd_42 : FuncData
 f_34 : Addr
 fd_34 : FuncData
 f_43 : Addr
 fd_43 : FuncData
 f_21 : Addr
 fd_21 : FuncData
 f_9 : Addr
 fd_9 : FuncData
 f_49 : Addr
 fd_49 : FuncData
 f_6 : Addr
 fd_6 : FuncData
 f_50 : Addr
 fd_50 : FuncData
 f_22 : Addr
 fd_22 : FuncData
 f_14 : Addr
 fd_14 : FuncData
 f_35 : Addr
 fd_35 : FuncData
 f_3 : Addr
 fd_3 : FuncData
 f_7 : Addr
 fd_7 : FuncData
 f_23 : Addr
 fd_23 : FuncData
 f_10 : Addr
 fd_10 : FuncData
 f_1 : Addr
 fd_1 : FuncData
 f_57 : Addr
 fd_57 : FuncData
 f_11 : Addr
 fd_11 : FuncData
 f_36 : Addr
 fd_36 : FuncData
 f_37 : Addr
 fd_37 : FuncData
 f_24 : Addr
 fd_24 : FuncData
 f_25 : Addr
 fd_25 : FuncData
 f_38 : Addr
 fd_38 : FuncData
 f_12 : Addr
 fd_12 : FuncData
 f_15 : Addr
 fd_15 : FuncData
 f_39 : Addr
 fd_39 : FuncData
 f_2 : Addr
 fd_2 : FuncData
 f_58 : Addr
 fd_58 : FuncData
 f_26 : Addr
 fd_26 : FuncData
 f_16 : Addr
 fd_16 : FuncData
 f_59 : Addr
 fd_59 : FuncData
 f_27 : Addr
 fd_27 : FuncData
 f_17 : Addr
 fd_17 : FuncData
 f_60 : Addr
 fd_60 : FuncData
 f_28 : Addr
 fd_28 : FuncData
 f_18 : Addr
 fd_18 : FuncData
 f_61 : Addr
 fd_61 : FuncData
 f_29 : Addr
 fd_29 : FuncData
 f_19 : Addr
 fd_19 : FuncData
 C_In : Addr
 C_Out : Addr
 C_Least : Addr
 C_Most : Addr
structure Wd (K : PySem.W.Frag) (mg : Str -> Option Value) (a : Wa) : Prop where
 F_8 : Fun K "marks" "marks" s_8 a.f_8 a.fd_8
 b_8 : za2 K a.fd_8 ["many","some"] []
 g_8 : mg "marks" = some (.ref a.f_8)
 F_48 : Fun K "part_of" "part_of" zk8 a.f_48 a.fd_48
 b_48 : za2 K a.fd_48 ["told"] []
 g_48 : mg "part_of" = some (.ref a.f_48)
 F_30 : Fun K "worth_in" "worth_in" zkd a.f_30 a.fd_30
 b_30 : za2 K a.fd_30 ["items","entries"] []
 g_30 : mg "worth_in" = some (.ref a.f_30)
 F_20 : Fun K "worth_not_out" "worth_not_out" zjg a.f_20 a.fd_20
 b_20 : za2 K a.fd_20 ["items","sheet"] []
 g_20 : mg "worth_not_out" = some (.ref a.f_20)
 F_51 : Fun K "outside" "outside" zkg a.f_51 a.fd_51
 b_51 : za2 K a.fd_51 ["items","without"] []
 g_51 : mg "outside" = some (.ref a.f_51)
 F_31 : Fun K "body_of" "body_of" zkj a.f_31 a.fd_31
 b_31 : za2 K a.fd_31 ["rule"] []
 g_31 : mg "body_of" = some (.ref a.f_31)
 F_52 : Fun K "body_sure" "body_sure" zjz a.f_52 a.fd_52
 b_52 : za2 K a.fd_52 ["rule","sheet"] []
 g_52 : mg "body_sure" = some (.ref a.f_52)
 F_53 : Fun K "body_lost" "body_lost" zka a.f_53 a.fd_53
 b_53 : za2 K a.fd_53 ["rule","sheet","without"] []
 g_53 : mg "body_lost" = some (.ref a.f_53)
 F_54 : Fun K "surely_broken" "surely_broken" zj6 a.f_54 a.fd_54
 b_54 : za2 K a.fd_54 ["rule","sheet"] []
 g_54 : mg "surely_broken" = some (.ref a.f_54)
 F_44 : Fun K "put_to" "put_to" zku a.f_44 a.fd_44
 b_44 : za2 K a.fd_44 ["sheet","thing","truth"] []
 g_44 : mg "put_to" = some (.ref a.f_44)
 F_45 : Fun K "rests_outside" "rests_outside" zkb a.f_45 a.fd_45
 b_45 : za2 K a.fd_45 ["rule","sheet","without"] []
 g_45 : mg "rests_outside" = some (.ref a.f_45)
 F_55 : Fun K "fits" "fits" zk7 a.f_55 a.fd_55
 b_55 : za2 K a.fd_55 ["sheet","bar"] []
 g_55 : mg "fits" = some (.ref a.f_55)
 F_13 : Fun K "right_why" "right_why" zkx a.f_13 a.fd_13
 b_13 : za2 K a.fd_13 ["plain","worlds","bars","sheet","why"] []
 g_13 : mg "right_why" = some (.ref a.f_13)
 F_4 : Fun K "has_number" "has_number" s_4 a.f_4 a.fd_4
 b_4 : za2 K a.fd_4 ["listed","number"] []
 g_4 : mg "has_number" = some (.ref a.f_4)
 F_46 : Fun K "right_group" "right_group" zkr a.f_46 a.fd_46
 b_46 : za2 K a.fd_46 ["plain","sheet","things"] []
 g_46 : mg "right_group" = some (.ref a.f_46)
 F_56 : Fun K "has_in" "has_in" zjt a.f_56 a.fd_56
 b_56 : za2 K a.fd_56 ["sheet","things"] []
 g_56 : mg "has_in" = some (.ref a.f_56)
 F_47 : Fun K "right_step" "right_step" zjo a.f_47 a.fd_47
 b_47 : za2 K a.fd_47 ["plain","worlds","bars","sheet","step"] []
 g_47 : mg "right_step" = some (.ref a.f_47)
 F_40 : Fun K "right_line" "right_line" zjk a.f_40 a.fd_40
 b_40 : za2 K a.fd_40 ["plain","worlds","bars","line"] []
 g_40 : mg "right_line" = some (.ref a.f_40)
 F_32 : Fun K "begun" "begun" zj5 a.f_32 a.fd_32
 b_32 : za2 K a.fd_32 ["many","bar"] []
 g_32 : mg "begun" = some (.ref a.f_32)
 F_33 : Fun K "right_steps" "right_steps" zkf a.f_33 a.fd_33
 b_33 : za2 K a.fd_33 ["plain","worlds","bars","sheet","steps"] []
 g_33 : mg "right_steps" = some (.ref a.f_33)
 F_41 : Fun K "right_paper" "right_paper" ziy a.f_41 a.fd_41
 b_41 : za2 K a.fd_41 ["plain","worlds","paper"] []
 g_41 : mg "right_paper" = some (.ref a.f_41)
 F_5 : Fun K "_law_cell_at" "_law_cell_at" s_5 a.f_5 a.fd_5
 b_5 : za2 K a.fd_5 ["_law_script","_law_k"] []
 g_5 : mg "_law_cell_at" = some (.ref a.f_5)
 F_0 : Fun K "_law_mixed" "_law_mixed" s_0 a.f_0 a.fd_0
 b_0 : za2 K a.fd_0 ["_law_cell","_law_many"] []
 g_0 : mg "_law_mixed" = some (.ref a.f_0)
 F_42 : Fun K "_law_worth" "_law_worth" zks a.f_42 a.fd_42
 b_42 : za2 K a.fd_42 ["_law_x"] []
 g_42 : mg "_law_worth" = some (.ref a.f_42)
 F_34 : Fun K "_law_part" "_law_part" zj4 a.f_34 a.fd_34
 b_34 : za2 K a.fd_34 ["_law_xs","_law_many"] []
 g_34 : mg "_law_part" = some (.ref a.f_34)
 F_43 : Fun K "_law_rule" "_law_rule" zj7 a.f_43 a.fd_43
 b_43 : za2 K a.fd_43 ["_law_cell","_law_many","_law_calm"] []
 g_43 : mg "_law_rule" = some (.ref a.f_43)
 F_21 : Fun K "_law_ring" "_law_ring" zkl a.f_21 a.fd_21
 b_21 : za2 K a.fd_21 ["_law_kind","_law_many"] []
 g_21 : mg "_law_ring" = some (.ref a.f_21)
 F_9 : Fun K "_law_copy" "_law_copy" s_9 a.f_9 a.fd_9
 b_9 : za2 K a.fd_9 ["_law_rules"] []
 g_9 : mg "_law_copy" = some (.ref a.f_9)
 F_49 : Fun K "_law_part_sure" "_law_part_sure" zkw a.f_49 a.fd_49
 b_49 : za2 K a.fd_49 ["_law_part_here","_law_sheet"] []
 g_49 : mg "_law_part_sure" = some (.ref a.f_49)
 F_6 : Fun K "_law_broken" "_law_broken" s_6 a.f_6 a.fd_6
 b_6 : za2 K a.fd_6 ["_law_rule_here","_law_sheet"] []
 g_6 : mg "_law_broken" = some (.ref a.f_6)
 F_50 : Fun K "_law_part_lost" "_law_part_lost" zko a.f_50 a.fd_50
 b_50 : za2 K a.fd_50 ["_law_part_here","_law_sheet","_law_without"] []
 g_50 : mg "_law_part_lost" = some (.ref a.f_50)
 F_22 : Fun K "_law_holds_up" "_law_holds_up" zjv a.f_22 a.fd_22
 b_22 : za2 K a.fd_22 ["_law_rule_here","_law_sheet","_law_without"] []
 g_22 : mg "_law_holds_up" = some (.ref a.f_22)
 F_14 : Fun K "_law_loose" "_law_loose" zja a.f_14 a.fd_14
 b_14 : za2 K a.fd_14 ["_law_rules","_law_sheet"] []
 g_14 : mg "_law_loose" = some (.ref a.f_14)
 F_35 : Fun K "_law_fits" "_law_fits" zkm a.f_35 a.fd_35
 b_35 : za2 K a.fd_35 ["_law_sheet","_law_bar"] []
 g_35 : mg "_law_fits" = some (.ref a.f_35)
 F_3 : Fun K "_law_right" "_law_right" s_3 a.f_3 a.fd_3
 b_3 : za2 K a.fd_3 ["_law_rules","_law_sets","_law_bars","_law_sheet","_law_why"] []
 g_3 : mg "_law_right" = some (.ref a.f_3)
 F_7 : Fun K "_law_with" "_law_with" s_7 a.f_7 a.fd_7
 b_7 : za2 K a.fd_7 ["_law_sheet","_law_thing","_law_entry"] []
 g_7 : mg "_law_with" = some (.ref a.f_7)
 F_23 : Fun K "_law_whys" "_law_whys" zkz a.f_23 a.fd_23
 b_23 : za2 K a.fd_23 ["_law_rules","_law_sets","_law_bars","_law_sheet"] []
 g_23 : mg "_law_whys" = some (.ref a.f_23)
 F_10 : Fun K "_law_lie" "_law_lie" zjb a.f_10 a.fd_10
 b_10 : za2 K a.fd_10 ["_law_cell","_law_rules","_law_sets","_law_lines","_law_sheet"] []
 g_10 : mg "_law_lie" = some (.ref a.f_10)
 F_1 : Fun K "_law_bar_out" "_law_bar_out" s_1 a.f_1 a.fd_1
 b_1 : za2 K a.fd_1 ["_law_rules","_law_sets","_law_sheet","_law_bar","_law_lines","_law_cell"] []
 g_1 : mg "_law_bar_out" = some (.ref a.f_1)
 F_57 : Fun K "_law_holds" "_law_holds" zjw a.f_57 a.fd_57
 b_57 : za2 K a.fd_57 ["_law_part_here","_law_rising","_law_held"] []
 g_57 : mg "_law_holds" = some (.ref a.f_57)
 F_11 : Fun K "_law_stands" "_law_stands" zjr a.f_11 a.fd_11
 b_11 : za2 K a.fd_11 ["_law_rules","_law_held"] []
 g_11 : mg "_law_stands" = some (.ref a.f_11)
 F_36 : Fun K "_law_standing" "_law_standing" zjc a.f_36 a.fd_36
 b_36 : za2 K a.fd_36 ["_law_many","_law_rules"] []
 g_36 : mg "_law_standing" = some (.ref a.f_36)
 F_37 : Fun K "_law_again" "_law_again" ziz a.f_37 a.fd_37
 b_37 : za2 K a.fd_37 ["_law_steps"] []
 g_37 : mg "_law_again" = some (.ref a.f_37)
 F_24 : Fun K "_law_begun" "_law_begun" zj3 a.f_24 a.fd_24
 b_24 : za2 K a.fd_24 ["_law_many","_law_bar"] []
 g_24 : mg "_law_begun" = some (.ref a.f_24)
 F_25 : Fun K "_law_line_right" "_law_line_right" zji a.f_25 a.fd_25
 b_25 : za2 K a.fd_25 ["_law_many","_law_rules","_law_sets","_law_bars","_law_line"] []
 g_25 : mg "_law_line_right" = some (.ref a.f_25)
 F_38 : Fun K "_law_paper_right" "_law_paper_right" zj9 a.f_38 a.fd_38
 b_38 : za2 K a.fd_38 ["_law_many","_law_rules","_law_sets","_law_lines"] []
 g_38 : mg "_law_paper_right" = some (.ref a.f_38)
 F_12 : Fun K "_law_other_line" "_law_other_line" zk1 a.f_12 a.fd_12
 b_12 : za2 K a.fd_12 ["_law_line","_law_x"] []
 g_12 : mg "_law_other_line" = some (.ref a.f_12)
 F_15 : Fun K "_law_spoiled" "_law_spoiled" zj0 a.f_15 a.fd_15
 b_15 : za2 K a.fd_15 ["_law_sets","_law_lines","_law_cell","_law_many"] []
 g_15 : mg "_law_spoiled" = some (.ref a.f_15)
 F_39 : Fun K "_law_asked" "_law_asked" zjm a.f_39 a.fd_39
 b_39 : za2 K a.fd_39 ["_law_many","_law_rules","_law_sets","_law_lines"] []
 g_39 : mg "_law_asked" = some (.ref a.f_39)
 F_2 : Fun K "law" "law" s_2 a.f_2 a.fd_2
 b_2 : za2 K a.fd_2 ["_law_script"] []
 g_2 : mg "law" = some (.ref a.f_2)
 F_58 : Fun K "__init__" "In.__init__" zi5 a.f_58 a.fd_58
 b_58 : za2 K a.fd_58 ["self","thing"] []
 F_26 : Fun K "sure" "In.sure" zjf a.f_26 a.fd_26
 b_26 : za2 K a.fd_26 ["self","sheet"] []
 F_16 : Fun K "lost" "In.lost" zkn a.f_16 a.fd_16
 b_16 : za2 K a.fd_16 ["self","sheet","without"] []
 F_59 : Fun K "__init__" "Out.__init__" zjj a.f_59 a.fd_59
 b_59 : za2 K a.fd_59 ["self","thing"] []
 F_27 : Fun K "sure" "Out.sure" zkt a.f_27 a.fd_27
 b_27 : za2 K a.fd_27 ["self","sheet"] []
 F_17 : Fun K "lost" "Out.lost" zjq a.f_17 a.fd_17
 b_17 : za2 K a.fd_17 ["self","sheet","without"] []
 F_60 : Fun K "__init__" "Least.__init__" zi2 a.f_60 a.fd_60
 b_60 : za2 K a.fd_60 ["self","bound","items"] []
 F_28 : Fun K "sure" "Least.sure" zk6 a.f_28 a.fd_28
 b_28 : za2 K a.fd_28 ["self","sheet"] []
 F_18 : Fun K "lost" "Least.lost" zk9 a.f_18 a.fd_18
 b_18 : za2 K a.fd_18 ["self","sheet","without"] []
 F_61 : Fun K "__init__" "Most.__init__" zkv a.f_61 a.fd_61
 b_61 : za2 K a.fd_61 ["self","bound","items"] []
 F_29 : Fun K "sure" "Most.sure" zkk a.f_29 a.fd_29
 b_29 : za2 K a.fd_29 ["self","sheet"] []
 F_19 : Fun K "lost" "Most.lost" zk4 a.f_19 a.fd_19
 b_19 : za2 K a.fd_19 ["self","sheet","without"] []
 g_In : mg "In" = some (.ref a.C_In)
 cl_In : Cls K a.C_In
 mk_In : Mk K a.C_In a.f_58
 na_In_thing : zdn K a.C_In "thing"
 m_26 : zdv K a.C_In "sure" a.f_26
 m_16 : zdv K a.C_In "lost" a.f_16
 g_Out : mg "Out" = some (.ref a.C_Out)
 cl_Out : Cls K a.C_Out
 mk_Out : Mk K a.C_Out a.f_59
 na_Out_thing : zdn K a.C_Out "thing"
 m_27 : zdv K a.C_Out "sure" a.f_27
 m_17 : zdv K a.C_Out "lost" a.f_17
 g_Least : mg "Least" = some (.ref a.C_Least)
 cl_Least : Cls K a.C_Least
 mk_Least : Mk K a.C_Least a.f_60
 na_Least_bound : zdn K a.C_Least "bound"
 na_Least_pieces : zdn K a.C_Least "pieces"
 m_28 : zdv K a.C_Least "sure" a.f_28
 m_18 : zdv K a.C_Least "lost" a.f_18
 g_Most : mg "Most" = some (.ref a.C_Most)
 cl_Most : Cls K a.C_Most
 mk_Most : Mk K a.C_Most a.f_61
 na_Most_bound : zdn K a.C_Most "bound"
 na_Most_pieces : zdn K a.C_Most "pieces"
 m_29 : zdv K a.C_Most "sure" a.f_29
 m_19 : zdv K a.C_Most "lost" a.f_19
 kt_NoneType_bool : PySem.W.kitOne K (.type "NoneType") (.type "bool") = some false
 kt_bool_bool : PySem.W.kitOne K (.type "bool") (.type "bool") = some true
 kt_int_bool : PySem.W.kitOne K (.type "int") (.type "bool") = some false
 kt_str_bool : PySem.W.kitOne K (.type "str") (.type "bool") = some false
 kt_list_bool : PySem.W.kitOne K (.type "list") (.type "bool") = some false
 kt_tuple_bool : PySem.W.kitOne K (.type "tuple") (.type "bool") = some false
 kt_dict_bool : PySem.W.kitOne K (.type "dict") (.type "bool") = some false
 z_all : mg "all" = none
 z_any : mg "any" = none
 z_bool : mg "bool" = none
 z_enumerate : mg "enumerate" = none
 z_isinstance : mg "isinstance" = none
 z_len : mg "len" = none
 z_list : mg "list" = none
 z_range : mg "range" = none
 z_set : mg "set" = none
 z_sorted : mg "sorted" = none
 z_sum : mg "sum" = none
set_option genInjectivity true
set_option genSizeOf true
section
variable {P : Program} {w : World} {K : PySem.W.Frag} {mg : Str -> Option Value} {base : Heap}
noncomputable def cl (a : Wa) : Str -> Addr:=fun s=>if s = "In" then a.C_In else if s = "Out" then a.C_Out else if s = "Least" then a.C_Least else if s = "Most" then a.C_Most else 0
theorem zj2 {a : Wa} : cl a "In" = a.C_In:=by unfold cl; rw [if_pos rfl]
theorem zjn {a : Wa} (W : Wd K mg a) : Cls K (cl a "In"):=by rw [zj2]; exact W.cl_In
theorem zxt {a : Wa} (W : Wd K mg a) : Mk K (cl a "In") a.f_58:=by rw [zj2]; exact W.mk_In
theorem z0e {a : Wa} (W : Wd K mg a) : mg "In" = some (.ref (cl a "In")):=by rw [zj2]; exact W.g_In
theorem zmt {a : Wa} (W : Wd K mg a) : zdn K (cl a "In") "thing":=by rw [zj2]; exact W.na_In_thing
theorem z4t {a : Wa} (W : Wd K mg a) : zdv K (cl a "In") "sure" a.f_26:=by rw [zj2]; exact W.m_26
theorem z3y {a : Wa} (W : Wd K mg a) : zdv K (cl a "In") "lost" a.f_16:=by rw [zj2]; exact W.m_16
theorem zjh {a : Wa} : cl a "Out" = a.C_Out:=by unfold cl; rw [if_neg (by decide +kernel)]; rw [if_pos rfl]
theorem zl0 {a : Wa} (W : Wd K mg a) : Cls K (cl a "Out"):=by rw [zjh]; exact W.cl_Out
theorem zxe {a : Wa} (W : Wd K mg a) : Mk K (cl a "Out") a.f_59:=by rw [zjh]; exact W.mk_Out
theorem z7g {a : Wa} (W : Wd K mg a) : mg "Out" = some (.ref (cl a "Out")):=by rw [zjh]; exact W.g_Out
theorem zpf {a : Wa} (W : Wd K mg a) : zdn K (cl a "Out") "thing":=by rw [zjh]; exact W.na_Out_thing
theorem z4h {a : Wa} (W : Wd K mg a) : zdv K (cl a "Out") "sure" a.f_27:=by rw [zjh]; exact W.m_27
theorem z6s {a : Wa} (W : Wd K mg a) : zdv K (cl a "Out") "lost" a.f_17:=by rw [zjh]; exact W.m_17
theorem ziq {a : Wa} : cl a "Least" = a.C_Least:=by unfold cl; rw [if_neg (by decide +kernel)]; rw [if_neg (by decide +kernel)]; rw [if_pos rfl]
theorem zhv {a : Wa} (W : Wd K mg a) : Cls K (cl a "Least"):=by rw [ziq]; exact W.cl_Least
theorem zxf {a : Wa} (W : Wd K mg a) : Mk K (cl a "Least") a.f_60:=by rw [ziq]; exact W.mk_Least
theorem zx9 {a : Wa} (W : Wd K mg a) : mg "Least" = some (.ref (cl a "Least")):=by rw [ziq]; exact W.g_Least
theorem zqp {a : Wa} (W : Wd K mg a) : zdn K (cl a "Least") "bound":=by rw [ziq]; exact W.na_Least_bound
theorem zqc {a : Wa} (W : Wd K mg a) : zdn K (cl a "Least") "pieces":=by rw [ziq]; exact W.na_Least_pieces
theorem z79 {a : Wa} (W : Wd K mg a) : zdv K (cl a "Least") "sure" a.f_28:=by rw [ziq]; exact W.m_28
theorem zx4 {a : Wa} (W : Wd K mg a) : zdv K (cl a "Least") "lost" a.f_18:=by rw [ziq]; exact W.m_18
theorem zib {a : Wa} : cl a "Most" = a.C_Most:=by unfold cl; rw [if_neg (by decide +kernel)]; rw [if_neg (by decide +kernel)]; rw [if_neg (by decide +kernel)]; rw [if_pos rfl]
theorem zht {a : Wa} (W : Wd K mg a) : Cls K (cl a "Most"):=by rw [zib]; exact W.cl_Most
theorem z1g {a : Wa} (W : Wd K mg a) : Mk K (cl a "Most") a.f_61:=by rw [zib]; exact W.mk_Most
theorem z2p {a : Wa} (W : Wd K mg a) : mg "Most" = some (.ref (cl a "Most")):=by rw [zib]; exact W.g_Most
theorem zq7 {a : Wa} (W : Wd K mg a) : zdn K (cl a "Most") "bound":=by rw [zib]; exact W.na_Most_bound
theorem zqv {a : Wa} (W : Wd K mg a) : zdn K (cl a "Most") "pieces":=by rw [zib]; exact W.na_Most_pieces
theorem z5k {a : Wa} (W : Wd K mg a) : zdv K (cl a "Most") "sure" a.f_29:=by rw [zib]; exact W.m_29
theorem z0a {a : Wa} (W : Wd K mg a) : zdv K (cl a "Most") "lost" a.f_19:=by rw [zib]; exact W.m_19
theorem z7h {a : Wa} (W : Wd K mg a) : zuv K "bool":=fun t ht=>by
 simp only [List.mem_cons,List.not_mem_nil,or_false] at ht
 rcases ht with rfl | rfl | rfl | rfl | rfl | rfl | rfl
 ·exact W.kt_NoneType_bool
 ·exact W.kt_bool_bool
 ·exact W.kt_int_bool
 ·exact W.kt_str_bool
 ·exact W.kt_list_bool
 ·exact W.kt_tuple_bool
 ·exact W.kt_dict_bool
end
noncomputable def b_37 : List Sl -> Option Fl :=
 (zai (zdb 1 (fun _=>some []))
  (zai (zc5 (zbl (zaa 0)) (zb8 (za3 (zaq 2) (za3 (zaq 3) zcf))) (zai (za4 (mB (m2 dEq (mIx (zaf 3) (fun _=>some (.int 0))) (fun _=>some (.str "group")))) (zbd 3 (zbm (zab (mIx (zaf 3) (fun _=>some (.int 0))) (zab (zal (zbl (mIx (zaf 3) (fun _=>some (.int 1))))) (fun _=>some []))))) zbf)
  (ze9 1 (zbm (zab (zaa 2) (zab (zaa 3) (fun _=>some [])))))))
  (zet 1)))
noncomputable def zqx (as : List D) : Option D:=zbk 4 b_37 as
noncomputable def b_9 : List Sl -> Option Fl :=
 (zai (zdb 1 (fun _=>some []))
  (zai (zc5 (zbl (zaa 0)) (zb8 (za3 (zaq 2) (za3 (zaq 3) (za3 (zaq 4) zcf)))) (zai (zdb 5 (fun _=>some []))
  (zai (zc5 (zbl (zaa 4)) (zaq 6) (zai (za4 (mB (m2 dEq (zap zcd (zab (zaa 6) (fun _=>some []))) (fun _=>some (.int 3)))) (zbd 6 (zbm (zab (mIx (zaf 6) (fun _=>some (.int 0))) (zab (mIx (zaf 6) (fun _=>some (.int 1))) (zab (zal (zbl (mIx (zaf 6) (fun _=>some (.int 2))))) (fun _=>some [])))))) zbf)
  (ze9 5 (zaa 6))))
  (ze5 5 (ze9 1 (zbm (zab (zaa 2) (zab (zaa 3) (zab (zaa 5) (fun _=>some []))))))))))
  (zet 1)))
noncomputable def m_9 (as : List D) : Option D:=zbk 7 b_9 as
noncomputable def b_24 : List Sl -> Option Fl :=
 (zai (zdb 2 (za7 1 [] (zdm (zab (zaa 0) (fun _=>some []))) (zaq 0) (fun _=>some true) (fun _=>some .non)))
  (zai (zc5 (zbl (zaa 1)) (zb8 (za3 (zaq 3) (za3 (zaq 4) zcf))) (zfa 2 (zaa 3) (zaa 4)))
  (zet 2)))
noncomputable def znj (as : List D) : Option (List D):=zk3 5 b_24 as
noncomputable def b_49 : List Sl -> Option Fl :=
 (zai (za4 (mB (m2 dEq (mIx (zaf 0) (fun _=>some (.int 0))) (fun _=>some (.str "in")))) (zav (m2 dIs (mIx (zaf 1) (mIx (zaf 0) (fun _=>some (.int 1)))) (fun _=>some (.bl true)))) zbf)
  (zai (za4 (mB (m2 dEq (mIx (zaf 0) (fun _=>some (.int 0))) (fun _=>some (.str "out")))) (zav (m2 dIs (mIx (zaf 1) (mIx (zaf 0) (fun _=>some (.int 1)))) (fun _=>some (.bl false)))) zbf)
  (zai (za4 (mB (m2 dEq (mIx (zaf 0) (fun _=>some (.int 0))) (fun _=>some (.str "least")))) (zav (m2 dGe (zap zd2 (zab (zal (za7 2 [1] (zbl (mIx (zaf 0) (fun _=>some (.int 2)))) (zb8 (za3 (zaq 0) (za3 (zaq 1) zcf))) (mB (m2 dIs (mIx (zaf 2) (zaa 0)) (fun _=>some (.bl true)))) (zaa 1))) (fun _=>some []))) (mIx (zaf 0) (fun _=>some (.int 1))))) zbf)
  (zav (m2 dLe (zap zd2 (zab (zal (za7 2 [1] (zbl (mIx (zaf 0) (fun _=>some (.int 2)))) (zb8 (za3 (zaq 0) (za3 (zaq 1) zcf))) (mB (m2 zdl (mIx (zaf 2) (zaa 0)) (fun _=>some (.bl false)))) (zaa 1))) (fun _=>some []))) (mIx (zaf 0) (fun _=>some (.int 1))))))))
noncomputable def zmk (as : List D) : Option D:=zbk 2 b_49 as
noncomputable def b_6 : List Sl -> Option Fl :=
 (zai (za4 (mOr (mB (m2 dEq (mIx (zaf 0) (fun _=>some (.int 0))) (fun _=>some (.str "may")))) (zdp (mB (m2 dEq (mIx (zaf 0) (fun _=>some (.int 0))) (fun _=>some (.str "make")))) (mB (m2 zdl (mIx (zaf 1) (mIx (zaf 0) (fun _=>some (.int 1)))) (fun _=>some (.bl false)))))) (zav (fun _=>some (.bl false))) zbf)
  (zav (zap zf5 (zab (zal (za7 1 [1] (zbl (mIx (zaf 0) (fun _=>some (.int 2)))) (zaq 0) (fun _=>some true) (zap zmk (zab (zaa 0) (zab (zaa 1) (fun _=>some [])))))) (fun _=>some [])))))
noncomputable def m_6 (as : List D) : Option D:=zbk 2 b_6 as
noncomputable def b_35 : List Sl -> Option Fl :=
 (zav (zap zf5 (zab (zal (za7 2 [0] (zbl (zaa 1)) (zb8 (za3 (zaq 0) (za3 (zaq 1) zcf))) (fun _=>some true) (m2 dEq (mIx (zaf 2) (zaa 0)) (zaa 1)))) (fun _=>some []))))
noncomputable def zm4 (as : List D) : Option D:=zbk 2 b_35 as
noncomputable def b_50 : List Sl -> Option Fl :=
 (zai (za4 (mB (m2 dEq (mIx (zaf 0) (fun _=>some (.int 0))) (fun _=>some (.str "in")))) (zav (vOr (m2 dIs (mIx (zaf 1) (mIx (zaf 0) (fun _=>some (.int 1)))) (fun _=>some (.bl false))) (mIx (zaf 2) (mIx (zaf 0) (fun _=>some (.int 1)))))) zbf)
  (zai (za4 (mB (m2 dEq (mIx (zaf 0) (fun _=>some (.int 0))) (fun _=>some (.str "out")))) (zav (m2 dIs (mIx (zaf 1) (mIx (zaf 0) (fun _=>some (.int 1)))) (fun _=>some (.bl true)))) zbf)
  (zai (za4 (mB (m2 dEq (mIx (zaf 0) (fun _=>some (.int 0))) (fun _=>some (.str "least")))) (zai (zbd 3 (zal (za7 2 [1,2] (zbl (mIx (zaf 0) (fun _=>some (.int 2)))) (zb8 (za3 (zaq 0) (za3 (zaq 1) zcf))) (zdp (mB (m2 zdl (mIx (zaf 2) (zaa 0)) (fun _=>some (.bl false)))) (zd9 (zcn (mIx (zaf 3) (zaa 0))))) (zaa 1))))
  (zav (m2 dLt (zap zd2 (zab (zaa 3) (fun _=>some []))) (mIx (zaf 0) (fun _=>some (.int 1)))))) zbf)
  (zav (m2 dGt (zap zd2 (zab (zal (za7 2 [1] (zbl (mIx (zaf 0) (fun _=>some (.int 2)))) (zb8 (za3 (zaq 0) (za3 (zaq 1) zcf))) (mB (m2 dIs (mIx (zaf 2) (zaa 0)) (fun _=>some (.bl true)))) (zaa 1))) (fun _=>some []))) (mIx (zaf 0) (fun _=>some (.int 1))))))))
noncomputable def zry (as : List D) : Option D:=zbk 4 b_50 as
noncomputable def b_22 : List Sl -> Option Fl :=
 (zai (za4 (mOr (mB (m2 dEq (mIx (zaf 0) (fun _=>some (.int 0))) (fun _=>some (.str "never")))) (zd9 (zcn (mIx (zaf 2) (mIx (zaf 0) (fun _=>some (.int 1))))))) (zav (fun _=>some (.bl false))) zbf)
  (zav (zfb (zap ze6 (zab (zal (za7 1 [1,2] (zbl (mIx (zaf 0) (fun _=>some (.int 2)))) (zaq 0) (fun _=>some true) (zap zry (zab (zaa 0) (zab (zaa 1) (zab (zaa 2) (fun _=>some []))))))) (fun _=>some []))))))
noncomputable def zml (as : List D) : Option D:=zbk 3 b_22 as
noncomputable def b_3 : List Sl -> Option Fl :=
 (zai (zgw (zb8 (za3 (zaq 5) (za3 (zaq 6) zcf))) (zaa 4))
  (zai (za4 (mB (m2 dEq (zaa 5) (fun _=>some (.str "rule")))) (zav (zd6 (m2 dLt (zaa 6) (zap zcd (zab (zaa 0) (fun _=>some [])))) (zap m_6 (zab (mIx (zaf 0) (zaa 6)) (zab (zaa 3) (fun _=>some [])))))) zbf)
  (zai (za4 (mB (m2 dEq (zaa 5) (fun _=>some (.str "bar")))) (zav (zd6 (m2 dLt (zaa 6) (zap zcd (zab (zaa 2) (fun _=>some [])))) (zap zm4 (zab (zaa 3) (zab (mIx (zaf 2) (zaa 6)) (fun _=>some [])))))) zbf)
  (zai (za4 (zdp (mB (m2 dEq (zaa 5) (fun _=>some (.str "world")))) (mB (m2 dLt (zaa 6) (zap zcd (zab (zaa 1) (fun _=>some [])))))) (zav (m2 dEq (zaa 3) (zal (za7 1 [1,6] (zdm (zab (zap zcd (zab (zaa 3) (fun _=>some []))) (fun _=>some []))) (zaq 0) (fun _=>some true) (m2 dIn (zaa 0) (mIx (zaf 1) (zaa 2))))))) zbf)
  (zai (za4 (mB (m2 dEq (zaa 5) (fun _=>some (.str "world")))) (zav (fun _=>some (.bl false))) zbf)
  (zai (za4 (zd9 (zcn (zap ze6 (zab (zal (za7 1 [3] (zbl (zaa 6)) (zaq 0) (fun _=>some true) (m2 dIs (mIx (zaf 1) (zaa 0)) (fun _=>some (.bl true))))) (fun _=>some []))))) (zav (fun _=>some (.bl false))) zbf)
  (zai (zbd 7 (zal (za7 1 [6] (zdm (zab (zap zcd (zab (zaa 3) (fun _=>some []))) (fun _=>some []))) (zaq 0) (fun _=>some true) (m2 dIn (zaa 0) (zaa 1)))))
  (zav (zfb (zap ze6 (zab (zal (za7 1 [3,7] (zbl (zaa 0)) (zaq 0) (fun _=>some true) (zap zml (zab (zaa 0) (zab (zaa 1) (zab (zaa 2) (fun _=>some []))))))) (fun _=>some []))))))))))))
noncomputable def m_3 (as : List D) : Option D:=zbk 8 b_3 as
noncomputable def b_7 : List Sl -> Option Fl :=
 (zgq (zcz (zal (zcz (zal (mSl (zaa 0) (fun _=>some none) (mPt (zaa 1)))) (zal (zab (zaa 2) (fun _=>some []))))) (zal (mSl (zaa 0) (mPt (m2 zci (zaa 1) (fun _=>some (.int 1)))) (fun _=>some none)))))
noncomputable def m_7 (as : List D) : Option D:=zbk 3 b_7 as
noncomputable def b_25 : List Sl -> Option Fl :=
 (zai (zgw (zb8 (za3 (zaq 5) (za3 (zaq 6) zcf))) (zaa 4))
  (zai (za4 (mOr (mB (m2 dEq (zaa 6) (zal (fun _=>some [])))) (mB (m2 zdl (mIx (zbl (mIx (zaf 6) (m1 zff (fun _=>some (.int 1))))) (fun _=>some (.int 0))) (fun _=>some .non)))) (zav (fun _=>some (.bl false))) zbf)
  (zai (zdb 7 (zky znj (zab (zaa 0) (zab (zaa 5) (fun _=>some [])))))
  (zai (zc5 (zbl (zal (mSl (zaa 6) (fun _=>some none) (mPt (m1 zff (fun _=>some (.int 1))))))) (zb8 (za3 (zaq 8) (za3 (zaq 9) zcf))) (zai (za4 (mOr (mB (m2 dIs (zaa 8) (fun _=>some .non))) (mB (m2 zdl (mIx (zaf 7) (mIx (zaf 8) (fun _=>some (.int 0)))) (fun _=>some .non)))) (zav (fun _=>some (.bl false))) zbf)
  (zai (za4 (zd9 (zcn (zhj m_3 (zab (zaa 1) (zab (zaa 2) (zab (zaa 3) (zab (zap m_7 (zab (zg9 7) (zab (mIx (zaf 8) (fun _=>some (.int 0))) (zab (zfb (mIx (zaf 8) (fun _=>some (.int 1)))) (fun _=>some []))))) (zab (zaa 9) (fun _=>some []))))))))) (zav (fun _=>some (.bl false))) zbf)
  (zfa 7 (mIx (zaf 8) (fun _=>some (.int 0))) (mIx (zaf 8) (fun _=>some (.int 1)))))))
  (ze5 7 (zav (zap m_3 (zab (zaa 1) (zab (zaa 2) (zab (zaa 3) (zab (zaa 7) (zab (mIx (zbl (mIx (zaf 6) (m1 zff (fun _=>some (.int 1))))) (fun _=>some (.int 1))) (fun _=>some [])))))))))))))
noncomputable def zo0 (as : List D) : Option D:=zbk 10 b_25 as
noncomputable def b_38 : List Sl -> Option Fl :=
 (zai (zbd 4 (zal (za7 2 [] (zbl (zaa 3)) (zb8 (za3 (zaq 0) (za3 (zaq 1) zcf))) (fun _=>some true) (zaa 0))))
  (zai (zc5 (zfe (zab (zaa 3) (fun _=>some []))) (zb8 (za3 (zaq 5) (za3 (zaq 6) zcf))) (za4 (zd9 (zcn (zap zo0 (zab (zaa 0) (zab (zaa 1) (zab (zaa 2) (zab (zal (mSl (zaa 4) (fun _=>some none) (mPt (zaa 5)))) (zab (zaa 6) (fun _=>some []))))))))) (zav (fun _=>some (.bl false))) zbf))
  (zav (zd6 (m2 dNe (zaa 3) (zal (fun _=>some []))) (m2 dEq (mIx (zaf 4) (m1 zff (fun _=>some (.int 1)))) (zal (fun _=>some [])))))))
noncomputable def zo7 (as : List D) : Option D:=zbk 7 b_38 as
noncomputable def b_32 : List Sl -> Option Fl :=
 (zai (zdb 3 (za7 1 [] (zdm (zab (zaa 0) (fun _=>some []))) (zaq 0) (fun _=>some true) (fun _=>some .non)))
  (zai (zc5 (zbl (zaa 1)) (zb8 (za3 (zaq 2) (za3 (zaq 4) zcf))) (zfa 3 (zaa 2) (zaa 4)))
  (zet 3)))
noncomputable def zmx (as : List D) : Option D:=zbk 5 b_32 as
noncomputable def b_44 : List Sl -> Option Fl :=
 (zai (zdb 3 (zaf 0))
  (zai (zfa 3 (zaa 1) (zaa 2))
  (zet 3)))
noncomputable def zqu (as : List D) : Option D:=zbk 4 b_44 as
noncomputable def b_55 : List Sl -> Option Fl :=
 (zav (zap zf5 (zab (zal (za7 2 [0] (zbl (zaa 1)) (zb8 (za3 (zaq 0) (za3 (zaq 1) zcf))) (fun _=>some true) (m2 dEq (mIx (zaf 2) (zaa 0)) (zaa 1)))) (fun _=>some []))))
noncomputable def zpu (as : List D) : Option D:=zbk 2 b_55 as
noncomputable def b_4 : List Sl -> Option Fl :=
 (zav (ziu dLe dLt (fun _=>some (.int 0)) (zaa 1) (zap zcd (zab (zaa 0) (fun _=>some [])))))
noncomputable def m_4 (as : List D) : Option D:=zbk 2 b_4 as
noncomputable def b_8 : List Sl -> Option Fl :=
 (zai (zos 2)
  (zai (zc5 (zbl (zaa 1)) (zaq 3) (zin 2 (zaa 3) (fun _=>some (.bl true))))
  (ze5 2 (zgq (za7 1 [2] (zdm (zab (zaa 0) (fun _=>some []))) (zaq 0) (fun _=>some true) (m2 zrc (zaa 0) (zaa 1)))))))
noncomputable def m_8 (as : List D) : Option D:=zbk 4 b_8 as
noncomputable def b_56 : List Sl -> Option Fl :=
 (zav (zap ze6 (zab (zal (za7 1 [0] (zbl (zaa 1)) (zaq 0) (fun _=>some true) (m2 dIs (mIx (zaf 1) (zaa 0)) (fun _=>some (.bl true))))) (fun _=>some []))))
noncomputable def zpv (as : List D) : Option D:=zbk 2 b_56 as
noncomputable def b_16 : List Sl -> Option Fl :=
 (zav (vOr (m2 dIs (mIx (zaf 1) (zek "In" "thing" (zaa 0))) (fun _=>some (.bl false))) (mIx (zaf 2) (zek "In" "thing" (zaa 0)))))
noncomputable def m_16 (as : List D) : Option D:=zbk 3 b_16 as
noncomputable def b_51 : List Sl -> Option Fl :=
 (zgq (za7 1 [1] (zbl (zaa 0)) (zaq 0) (zd9 (zcn (mIx (zaf 1) (mIx (zaf 0) (fun _=>some (.int 0)))))) (zaa 0)))
noncomputable def zop (as : List D) : Option D:=zbk 2 b_51 as
noncomputable def b_20 : List Sl -> Option Fl :=
 (zav (zap zd2 (zab (zal (za7 2 [1] (zbl (zaa 0)) (zb8 (za3 (zaq 0) (za3 (zaq 1) zcf))) (mB (m2 zdl (mIx (zaf 2) (zaa 0)) (fun _=>some (.bl false)))) (zaa 1))) (fun _=>some []))))
noncomputable def zl4 (as : List D) : Option D:=zbk 2 b_20 as
noncomputable def b_18 : List Sl -> Option Fl :=
 (zav (m2 dLt (zap zl4 (zab (zap zop (zab (zek "Least" "pieces" (zaa 0)) (zab (zaa 2) (fun _=>some [])))) (zab (zaa 1) (fun _=>some [])))) (zek "Least" "bound" (zaa 0))))
noncomputable def m_18 (as : List D) : Option D:=zbk 3 b_18 as
noncomputable def b_30 : List Sl -> Option Fl :=
 (zav (zap zd2 (zab (zal (za7 2 [1] (zbl (zaa 0)) (zb8 (za3 (zaq 0) (za3 (zaq 1) zcf))) (mB (m2 dIs (mIx (zaf 2) (zaa 0)) (fun _=>some (.bl true)))) (zaa 1))) (fun _=>some []))))
noncomputable def zny (as : List D) : Option D:=zbk 2 b_30 as
noncomputable def b_19 : List Sl -> Option Fl :=
 (zav (m2 dGt (zap zny (zab (zek "Most" "pieces" (zaa 0)) (zab (zaa 1) (fun _=>some [])))) (zek "Most" "bound" (zaa 0))))
noncomputable def m_19 (as : List D) : Option D:=zbk 3 b_19 as
noncomputable def b_17 : List Sl -> Option Fl :=
 (zav (m2 dIs (mIx (zaf 1) (zek "Out" "thing" (zaa 0))) (fun _=>some (.bl true))))
noncomputable def m_17 (as : List D) : Option D:=zbk 3 b_17 as
noncomputable def zwd (as : List D) : Option (List Str × List D):=zlj 2 [("thing",(zaa 1))] as
noncomputable def zso (as : List D) : Option (List Str × List D):=zlj 3 [("bound",(zaa 1)),("pieces",(zal (zaf 2)))] as
noncomputable def zta (as : List D) : Option (List Str × List D):=zlj 3 [("bound",(zaa 1)),("pieces",(zal (zaf 2)))] as
noncomputable def zt2 (as : List D) : Option (List Str × List D):=zlj 2 [("thing",(zaa 1))] as
noncomputable def b_48 : List Sl -> Option Fl :=
 (zai (zbd 1 (mIx (zaf 0) (fun _=>some (.int 0))))
  (zai (za4 (mB (m2 dEq (zaa 1) (fun _=>some (.str "in")))) (zav (zi1 "In" zwd (zab (mIx (zaf 0) (fun _=>some (.int 1))) (fun _=>some [])))) zbf)
  (zai (za4 (mB (m2 dEq (zaa 1) (fun _=>some (.str "out")))) (zav (zi1 "Out" zt2 (zab (mIx (zaf 0) (fun _=>some (.int 1))) (fun _=>some [])))) zbf)
  (zai (za4 (mB (m2 dEq (zaa 1) (fun _=>some (.str "least")))) (zav (zi1 "Least" zso (zab (mIx (zaf 0) (fun _=>some (.int 1))) (zab (mIx (zaf 0) (fun _=>some (.int 2))) (fun _=>some []))))) zbf)
  (zav (zi1 "Most" zta (zab (mIx (zaf 0) (fun _=>some (.int 1))) (zab (mIx (zaf 0) (fun _=>some (.int 2))) (fun _=>some [])))))))))
noncomputable def zo8 (as : List D) : Option D:=zbk 2 b_48 as
noncomputable def b_31 : List Sl -> Option Fl :=
 (zgq (za7 1 [] (zbl (mIx (zaf 0) (fun _=>some (.int 2)))) (zaq 0) (fun _=>some true) (zap zo8 (zab (zaa 0) (fun _=>some [])))))
noncomputable def znx (as : List D) : Option D:=zbk 1 b_31 as
noncomputable def b_53 : List Sl -> Option Fl :=
 (zav (zap ze6 (zab (zal (za7 1 [1,2] (zbl (zap znx (zab (zaa 0) (fun _=>some [])))) (zaq 0) (fun _=>some true) (zd4 (zdf "In" "lost" m_16 (zaa 0) (zab (zaa 1) (zab (zaa 2) (fun _=>some [])))) (zd4 (zdf "Out" "lost" m_17 (zaa 0) (zab (zaa 1) (zab (zaa 2) (fun _=>some [])))) (zd4 (zdf "Least" "lost" m_18 (zaa 0) (zab (zaa 1) (zab (zaa 2) (fun _=>some [])))) (zdf "Most" "lost" m_19 (zaa 0) (zab (zaa 1) (zab (zaa 2) (fun _=>some []))))))))) (fun _=>some []))))
noncomputable def zps (as : List D) : Option D:=zbk 3 b_53 as
noncomputable def b_45 : List Sl -> Option Fl :=
 (zai (zbd 3 (mIx (zaf 0) (fun _=>some (.int 1))))
  (zav (zd6 (m2 zdl (zaa 3) (fun _=>some .non)) (zd6 (mIx (zaf 2) (zaa 3)) (zfb (zap zps (zab (zaa 0) (zab (zaa 1) (zab (zaa 2) (fun _=>some []))))))))))
noncomputable def zqh (as : List D) : Option D:=zbk 4 b_45 as
noncomputable def b_46 : List Sl -> Option Fl :=
 (zai (zbd 3 (zap m_8 (zab (mIx (zaf 0) (fun _=>some (.int 0))) (zab (zaa 2) (fun _=>some [])))))
  (zai (za4 (zcn (zap ze6 (zab (zal (za7 1 [1,3] (zbl (mIx (zaf 0) (fun _=>some (.int 1)))) (zaq 0) (fun _=>some true) (zap zqh (zab (zaa 0) (zab (zaa 1) (zab (zaa 2) (fun _=>some []))))))) (fun _=>some [])))) (zav (fun _=>some (.bl false))) zbf)
  (zav (zap zpv (zab (zaa 1) (zab (zaa 2) (fun _=>some [])))))))
noncomputable def zpi (as : List D) : Option D:=zbk 4 b_46 as
noncomputable def b_26 : List Sl -> Option Fl :=
 (zav (m2 dIs (mIx (zaf 1) (zek "In" "thing" (zaa 0))) (fun _=>some (.bl true))))
noncomputable def m_26 (as : List D) : Option D:=zbk 2 b_26 as
noncomputable def b_28 : List Sl -> Option Fl :=
 (zav (m2 dGe (zap zny (zab (zek "Least" "pieces" (zaa 0)) (zab (zaa 1) (fun _=>some [])))) (zek "Least" "bound" (zaa 0))))
noncomputable def m_28 (as : List D) : Option D:=zbk 2 b_28 as
noncomputable def b_29 : List Sl -> Option Fl :=
 (zav (m2 dLe (zap zl4 (zab (zek "Most" "pieces" (zaa 0)) (zab (zaa 1) (fun _=>some [])))) (zek "Most" "bound" (zaa 0))))
noncomputable def m_29 (as : List D) : Option D:=zbk 2 b_29 as
noncomputable def b_27 : List Sl -> Option Fl :=
 (zav (m2 dIs (mIx (zaf 1) (zek "Out" "thing" (zaa 0))) (fun _=>some (.bl false))))
noncomputable def m_27 (as : List D) : Option D:=zbk 2 b_27 as
noncomputable def b_52 : List Sl -> Option Fl :=
 (zav (zap zf5 (zab (zal (za7 1 [1] (zbl (zap znx (zab (zaa 0) (fun _=>some [])))) (zaq 0) (fun _=>some true) (zd4 (zdf "In" "sure" m_26 (zaa 0) (zab (zaa 1) (fun _=>some []))) (zd4 (zdf "Out" "sure" m_27 (zaa 0) (zab (zaa 1) (fun _=>some []))) (zd4 (zdf "Least" "sure" m_28 (zaa 0) (zab (zaa 1) (fun _=>some []))) (zdf "Most" "sure" m_29 (zaa 0) (zab (zaa 1) (fun _=>some [])))))))) (fun _=>some []))))
noncomputable def zq2 (as : List D) : Option D:=zbk 2 b_52 as
noncomputable def b_54 : List Sl -> Option Fl :=
 (zai (za4 (mB (m2 dEq (mIx (zaf 0) (fun _=>some (.int 0))) (fun _=>some (.str "may")))) (zav (fun _=>some (.bl false))) zbf)
  (zai (za4 (zdp (mB (m2 dEq (mIx (zaf 0) (fun _=>some (.int 0))) (fun _=>some (.str "make")))) (mB (m2 zdl (mIx (zaf 1) (mIx (zaf 0) (fun _=>some (.int 1)))) (fun _=>some (.bl false))))) (zav (fun _=>some (.bl false))) zbf)
  (zav (zap zq2 (zab (zaa 0) (zab (zaa 1) (fun _=>some [])))))))
noncomputable def zq3 (as : List D) : Option D:=zbk 2 b_54 as
noncomputable def b_13 : List Sl -> Option Fl :=
 (zai (za4 (mB (m2 dEq (mIx (zaf 4) (fun _=>some (.int 0))) (fun _=>some (.str "group")))) (zav (zap zpi (zab (zaa 0) (zab (zaa 3) (zab (mIx (zaf 4) (fun _=>some (.int 1))) (fun _=>some [])))))) zbf)
  (zai (zbd 5 (mIx (zaf 4) (fun _=>some (.int 1))))
  (zai (za4 (mB (m2 dEq (mIx (zaf 4) (fun _=>some (.int 0))) (fun _=>some (.str "rule")))) (zav (zd6 (zap m_4 (zab (mIx (zaf 0) (fun _=>some (.int 1))) (zab (zaa 5) (fun _=>some [])))) (zap zq3 (zab (mIx (zbl (mIx (zaf 0) (fun _=>some (.int 1)))) (zaa 5)) (zab (zaa 3) (fun _=>some [])))))) zbf)
  (zai (za4 (mB (m2 dEq (mIx (zaf 4) (fun _=>some (.int 0))) (fun _=>some (.str "bar")))) (zav (zd6 (zap m_4 (zab (zaa 2) (zab (zaa 5) (fun _=>some [])))) (zap zpu (zab (zaa 3) (zab (mIx (zaf 2) (zaa 5)) (fun _=>some [])))))) zbf)
  (zav (zd6 (m2 dEq (mIx (zaf 4) (fun _=>some (.int 0))) (fun _=>some (.str "world"))) (zd6 (zap m_4 (zab (zaa 1) (zab (zaa 5) (fun _=>some [])))) (m2 dEq (zaa 3) (zap m_8 (zab (mIx (zaf 0) (fun _=>some (.int 0))) (zab (mIx (zaf 1) (zaa 5)) (fun _=>some []))))))))))))
noncomputable def zn8 (as : List D) : Option D:=zbk 6 b_13 as
noncomputable def b_47 : List Sl -> Option Fl :=
 (zai (zbd 5 (mIx (zaf 4) (fun _=>some (.int 0))))
  (zai (za4 (mB (m2 dIs (zaa 5) (fun _=>some .non))) (zav (zap zn8 (zab (zaa 0) (zab (zaa 1) (zab (zaa 2) (zab (zaa 3) (zab (mIx (zaf 4) (fun _=>some (.int 1))) (fun _=>some [])))))))) zbf)
  (zai (za4 (mB (m2 zdl (mIx (zaf 3) (mIx (zaf 5) (fun _=>some (.int 0)))) (fun _=>some .non))) (zav (fun _=>some (.bl false))) zbf)
  (zav (zap zn8 (zab (zaa 0) (zab (zaa 1) (zab (zaa 2) (zab (zap zqu (zab (zaa 3) (zab (mIx (zaf 5) (fun _=>some (.int 0))) (zab (zfb (mIx (zaf 5) (fun _=>some (.int 1)))) (fun _=>some []))))) (zab (mIx (zaf 4) (fun _=>some (.int 1))) (fun _=>some [])))))))))))
noncomputable def zri (as : List D) : Option D:=zbk 6 b_47 as
noncomputable def b_33 : List Sl -> Option Fl :=
 (zai (zdb 5 (zaf 3))
  (zai (zc5 (zmb (zaa 4)) (zb8 (za3 (zaq 6) (za3 (zaq 7) zcf))) (zai (zbd 8 (m2 dIs (mIx (zaf 7) (fun _=>some (.int 0))) (fun _=>some .non)))
  (zai (za4 (mB (m2 dNe (zaa 8) (m2 dEq (zaa 6) (zap zcd (zab (zaa 4) (fun _=>some [])))))) (zav (fun _=>some (.bl false))) zbf)
  (zai (za4 (zd9 (zcn (zhj zri (zab (zaa 0) (zab (zaa 1) (zab (zaa 2) (zab (zg9 5) (zab (zaa 7) (fun _=>some []))))))))) (zav (fun _=>some (.bl false))) zbf)
  (za4 (zd9 (zcn (zaa 8))) (zfa 5 (mIx (zbl (mIx (zaf 7) (fun _=>some (.int 0)))) (fun _=>some (.int 0))) (mIx (zbl (mIx (zaf 7) (fun _=>some (.int 0)))) (fun _=>some (.int 1)))) zbf)))))
  (zav (m2 dGt (zap zcd (zab (zaa 4) (fun _=>some []))) (fun _=>some (.int 0))))))
noncomputable def zp6 (as : List D) : Option D:=zbk 9 b_33 as
noncomputable def b_40 : List Sl -> Option Fl :=
 (zai (zbd 4 (mIx (zaf 3) (fun _=>some (.int 0))))
  (zai (zbd 5 (zal (za7 2 [] (zbl (zaa 4)) (zb8 (za3 (zaq 0) (za3 (zaq 1) zcf))) (fun _=>some true) (zaa 0))))
  (zai (za4 (mB (m2 dLt (zl3 (zaa 5)) (zap zcd (zab (zaa 5) (fun _=>some []))))) (zav (fun _=>some (.bl false))) zbf)
  (zav (zap zp6 (zab (zaa 0) (zab (zaa 1) (zab (zaa 2) (zab (zap zmx (zab (mIx (zaf 0) (fun _=>some (.int 0))) (zab (zaa 4) (fun _=>some [])))) (zab (mIx (zaf 3) (fun _=>some (.int 1))) (fun _=>some [])))))))))))
noncomputable def zrx (as : List D) : Option D:=zbk 6 b_40 as
noncomputable def b_41 : List Sl -> Option Fl :=
 (zai (zdb 3 (fun _=>some []))
  (zai (zc5 (zbl (zaa 2)) (zaq 4) (zai (za4 (zd9 (zcn (zhj zrx (zab (zaa 0) (zab (zaa 1) (zab (zg9 3) (zab (zaa 4) (fun _=>some [])))))))) (zav (fun _=>some (.bl false))) zbf)
  (ze9 3 (mIx (zaf 4) (fun _=>some (.int 0))))))
  (ze5 3 (zav (zd6 (m2 dGt (zap zcd (zab (zaa 3) (fun _=>some []))) (fun _=>some (.int 0))) (m2 dEq (zap zcd (zab (mIx (zaf 3) (m1 zff (fun _=>some (.int 1)))) (fun _=>some []))) (fun _=>some (.int 0))))))))
noncomputable def zqo (as : List D) : Option D:=zbk 5 b_41 as
noncomputable def b_39 : List Sl -> Option Fl :=
 (zai (zbd 4 (zal (zab (zbm (zab (zaa 0) (zab (zap m_9 (zab (zaa 1) (fun _=>some []))) (fun _=>some [])))) (zab (zal (za7 1 [] (zbl (zaa 2)) (zaq 0) (fun _=>some true) (zal (zaf 0)))) (fun _=>some [])))))
  (zai (zbd 5 (zal (za7 2 [] (zbl (zaa 3)) (zb8 (za3 (zaq 0) (za3 (zaq 1) zcf))) (fun _=>some true) (zbm (zab (zal (zaf 0)) (zab (zap zqx (zab (zaa 1) (fun _=>some []))) (fun _=>some [])))))))
  (zai (zbd 6 (zap zqo (zab (mIx (zaf 4) (fun _=>some (.int 0))) (zab (mIx (zaf 4) (fun _=>some (.int 1))) (zab (zaa 5) (fun _=>some []))))))
  (zai (za4 (mOr (zd9 (zcn (zpk "bool" (zaa 6)))) (mB (m2 dNe (zaa 6) (zap zo7 (zab (zaa 0) (zab (zaa 1) (zab (zaa 2) (zab (zaa 3) (fun _=>some []))))))))) (zav (fun _=>some (.bl false))) zbf)
  (zav (zd6 (m2 dEq (zaa 4) (zal (zab (zbm (zab (zaa 0) (zab (zaa 1) (fun _=>some [])))) (zab (zaa 2) (fun _=>some []))))) (m2 dEq (zaa 5) (zaa 3))))))))
noncomputable def zp7 (as : List D) : Option D:=zbk 7 b_39 as
noncomputable def b_0 : List Sl -> Option Fl :=
 (zai (zdb 2 (fun _=>some []))
  (zai (zbd 3 (m2 zci (m2 zdc (m2 zbv (zaa 0) (fun _=>some (.int 2305843009213693951))) (fun _=>some (.int 1315423911))) (fun _=>some (.int 48271))))
  (zai (zc5 (zdm (zab (zaa 1) (fun _=>some []))) (zaq 4) (zai (zbd 3 (m2 zbv (m2 zci (m2 zci (m2 zdc (zaa 3) (m2 zci (zaa 3) (fun _=>some (.int 69621)))) (m2 zdc (fun _=>some (.int 7)) (zaa 4))) (fun _=>some (.int 1))) (fun _=>some (.int 2305843009213693951))))
  (ze9 2 (zaa 3))))
  (zet 2))))
noncomputable def m_0 (as : List D) : Option D:=zbk 5 b_0 as
noncomputable def b_10 : List Sl -> Option Fl :=
 (zai (zbd 5 (zap m_0 (zab (zaa 0) (zab (fun _=>some (.int 3)) (fun _=>some [])))))
  (zai (zbd 6 (mIx (zab (fun _=>some (.str "rule")) (zab (fun _=>some (.str "group")) (zab (fun _=>some (.str "bar")) (zab (fun _=>some (.str "world")) (fun _=>some []))))) (m2 zbv (mIx (zaf 5) (fun _=>some (.int 0))) (fun _=>some (.int 4)))))
  (zai (za4 (mB (m2 dEq (zaa 6) (fun _=>some (.str "group")))) (zi4 (zbm (zab (zaa 6) (zab (zal (za7 2 [5] (zfe (zab (zaa 4) (fun _=>some []))) (zb8 (za3 (zaq 0) (za3 (zaq 1) zcf))) (mOr (mB (m2 dIs (zaa 1) (fun _=>some (.bl true)))) (mB (m2 dEq (m2 zbv (m2 zgg (mIx (zaf 2) (fun _=>some (.int 1))) (m2 zci (zaa 0) (fun _=>some (.int 1)))) (fun _=>some (.int 2))) (fun _=>some (.int 0))))) (zaa 0))) (fun _=>some []))))) zbf)
  (zi4 (zbm (zab (zaa 6) (zab (m2 zbv (mIx (zaf 5) (fun _=>some (.int 2))) (m2 zci (fun _=>some (.int 1)) (zh8 "rule" "bar" "world" (zap zcd (zab (zaa 1) (fun _=>some []))) (zap zcd (zab (zgx 3) (fun _=>some []))) (zap zcd (zab (zaa 2) (fun _=>some []))) (zaa 6)))) (fun _=>some []))))))))
noncomputable def zmu : Addr -> List D -> List D -> List D -> Option (List D × D):=zhc 7 b_10
noncomputable def b_14 : List Sl -> Option Fl :=
 (zai (zdb 2 (za7 1 [] (zbl (zaa 1)) (zaq 0) (fun _=>some true) (m2 zdl (zaa 0) (fun _=>some (.bl false)))))
  (zai (zbd 3 (fun _=>some (.bl true)))
  (zai (zge (zcn (zaa 3)) (zai (zbd 3 (fun _=>some (.bl false)))
  (zc5 (zbl (zaa 0)) (zaq 4) (za4 (zcn (zhj zml (zab (zaa 4) (zab (zaa 1) (zab (zg9 2) (fun _=>some [])))))) (zai (zfa 2 (mIx (zaf 4) (fun _=>some (.int 1))) (fun _=>some (.bl false)))
  (zbd 3 (fun _=>some (.bl true)))) zbf))) 1000000000)
  (zet 2))))
noncomputable def zq1 (as : List D) : Option D:=zbk 5 b_14 as
noncomputable def b_23 : List Sl -> Option Fl :=
 (zai (zdb 4 (za7 2 [3] (zfe (zab (zaa 0) (fun _=>some []))) (zb8 (za3 (zaq 0) (za3 (zaq 1) zcf))) (zcn (zap m_6 (zab (zaa 1) (zab (zaa 2) (fun _=>some []))))) (zbm (zab (fun _=>some (.str "rule")) (zab (zaa 0) (fun _=>some []))))))
  (zai (zit 4 (zh1 (zal (za7 2 [3] (zfe (zab (zaa 2) (fun _=>some []))) (zb8 (za3 (zaq 0) (za3 (zaq 1) zcf))) (zcn (zap zm4 (zab (zaa 2) (zab (zaa 1) (fun _=>some []))))) (zbm (zab (fun _=>some (.str "bar")) (zab (zaa 0) (fun _=>some []))))))))
  (zai (zit 4 (zh1 (zal (za7 1 [0,1,2,3] (zdm (zab (zap zcd (zab (zaa 1) (fun _=>some []))) (fun _=>some []))) (zaq 0) (zcn (zap m_3 (zab (zaa 1) (zab (zaa 2) (zab (zaa 3) (zab (zaa 4) (zab (zbm (zab (fun _=>some (.str "world")) (zab (zaa 0) (fun _=>some [])))) (fun _=>some [])))))))) (zbm (zab (fun _=>some (.str "world")) (zab (zaa 0) (fun _=>some []))))))))
  (zai (zbd 5 (zap zq1 (zab (zaa 0) (zab (zaa 3) (fun _=>some [])))))
  (zai (zbd 6 (zal (za7 2 [] (zfe (zab (zaa 5) (fun _=>some []))) (zb8 (za3 (zaq 0) (za3 (zaq 1) zcf))) (zcn (zaa 1)) (zaa 0))))
  (zai (za4 (zcn (zap ze6 (zab (zal (za7 1 [3] (zbl (zaa 6)) (zaq 0) (fun _=>some true) (m2 dIs (mIx (zaf 1) (zaa 0)) (fun _=>some (.bl true))))) (fun _=>some [])))) (ze9 4 (zbm (zab (fun _=>some (.str "group")) (zab (zaa 6) (fun _=>some []))))) zbf)
  (zet 4)))))))
noncomputable def zrh (as : List D) : Option D:=zbk 7 b_23 as
noncomputable def b_1 (rc : Addr -> List D -> List D -> List D -> Option (List D × D)) : List Sl -> Option Fl :=
 (zai (zbd 6 (zap m_0 (zab (zaa 5) (zab (fun _=>some (.int 4)) (fun _=>some [])))))
  (zai (zbd 8 (zal (za7 2 [] (zfe (zab (zaa 2) (fun _=>some []))) (zb8 (za3 (zaq 0) (za3 (zaq 1) zcf))) (mB (m2 dIs (zaa 1) (fun _=>some .non))) (zaa 0))))
  (zai (zbd 9 (zap zrh (zab (zaa 0) (zab (zaa 1) (zab (zal (za7 1 [] (zn2 4) (zaq 0) (fun _=>some true) (mIx (zaf 0) (fun _=>some (.int 0))))) (zab (zaa 2) (fun _=>some [])))))))
  (za4 (mOr (mB (m2 dEq (zaa 8) (zal (fun _=>some [])))) (zdp (mB (m2 dNe (zaa 9) (zal (fun _=>some [])))) (mB (m2 dGt (m2 zbv (mIx (zaf 6) (fun _=>some (.int 0))) (fun _=>some (.int 4))) (fun _=>some (.int 0)))))) (zai (za4 (mB (m2 dEq (zaa 9) (zal (fun _=>some [])))) (zlf 9 (zh3 4 zmu (zdj (mIx (zaf 6) (fun _=>some (.int 1))) (zdj (zaa 0) (zdj (zaa 1) (zgl (zab (zaa 2) (fun _=>some [])))))))) zbf)
  (zi3 4 (zbm (zab (zaa 3) (zab (zal (zab (zbm (zab (fun _=>some .non) (zab (mIx (zaf 9) (m2 zbv (mIx (zaf 6) (fun _=>some (.int 2))) (zap zcd (zab (zaa 9) (fun _=>some []))))) (fun _=>some [])))) (fun _=>some []))) (fun _=>some [])))))) (zai (zbd 7 (mIx (zaf 8) (m2 zbv (mIx (zaf 6) (fun _=>some (.int 2))) (zap zcd (zab (zaa 8) (fun _=>some []))))))
  (zai (zbd 10 (m2 dEq (m2 zbv (mIx (zaf 6) (fun _=>some (.int 3))) (fun _=>some (.int 2))) (fun _=>some (.int 0))))
  (zai (zh9 (zh3 4 rc (zdj (zaa 0) (zdj (zaa 1) (zdj (zap m_7 (zab (zaa 2) (zab (zaa 7) (zab (zaa 10) (fun _=>some []))))) (zdj (zal (zcz (zaa 3) (zal (zab (zbm (zab (zaa 7) (zab (zaa 10) (fun _=>some [])))) (fun _=>some []))))) (zgl (zab (mIx (zaf 6) (fun _=>some (.int 0))) (fun _=>some [])))))))))
  (zai (zbd 11 (m2 zij (zap zcd (zab (zgx 4) (fun _=>some []))) (fun _=>some (.int 1))))
  (zai (zh9 (zh3 4 rc (zdj (zaa 0) (zdj (zaa 1) (zdj (zap m_7 (zab (zaa 2) (zab (zaa 7) (zab (zfb (zaa 10)) (fun _=>some []))))) (zdj (zal (zcz (zaa 3) (zal (zab (zbm (zab (zaa 7) (zab (zfb (zaa 10)) (fun _=>some [])))) (fun _=>some []))))) (zgl (zab (mIx (zaf 6) (fun _=>some (.int 1))) (fun _=>some [])))))))))
  (zi3 4 (zbm (zab (zaa 3) (zab (zal (zab (zbm (zab (zbm (zab (zaa 7) (zab (zfb (zaa 10)) (fun _=>some [])))) (zab (zbm (zab (fun _=>some (.str "bar")) (zab (zaa 11) (fun _=>some [])))) (fun _=>some [])))) (zab (zbm (zab (fun _=>some .non) (zab (zbm (zab (fun _=>some (.str "bar")) (zab (m2 zij (zap zcd (zab (zgx 4) (fun _=>some []))) (fun _=>some (.int 1))) (fun _=>some [])))) (fun _=>some [])))) (fun _=>some [])))) (fun _=>some []))))))))))))))
noncomputable def m_1 : Nat -> Addr -> List D -> List D -> List D -> Option (List D × D)
 | 0=>fun _ _ _ _=>none
 | j + 1=>zhc 12 (b_1 (m_1 j))
noncomputable def b_5 : List Sl -> Option Fl :=
 (zai (za4 (mB (m2 dLt (zaa 1) (zap zcd (zab (zaa 0) (fun _=>some []))))) (zav (mIx (zaf 0) (zaa 1))) zbf)
  (zav (fun _=>some (.int 0))))
noncomputable def m_5 (as : List D) : Option D:=zbk 2 b_5 as
noncomputable def b_21 : List Sl -> Option Fl :=
 (zai (zdb 2 (fun _=>some []))
  (zai (zc5 (zdm (zab (zaa 1) (fun _=>some []))) (zaq 3) (zai (zbd 4 (m2 zbv (m2 zci (zaa 3) (fun _=>some (.int 1))) (zaa 1)))
  (zai (zbd 5 (mIx (zab (fun _=>some .non) (zab (zbm (zab (fun _=>some (.str "in")) (zab (zaa 3) (fun _=>some [])))) (zab (zbm (zab (fun _=>some (.str "out")) (zab (zaa 3) (fun _=>some [])))) (zab (zbm (zab (fun _=>some (.str "least")) (zab (fun _=>some (.int 2)) (zab (zal (zab (zbm (zab (zaa 3) (zab (fun _=>some (.int 2)) (fun _=>some [])))) (zab (zbm (zab (zaa 4) (zab (fun _=>some (.int 1)) (fun _=>some [])))) (fun _=>some [])))) (fun _=>some []))))) (zab (zbm (zab (fun _=>some (.str "most")) (zab (fun _=>some (.int 0)) (zab (zal (zab (zbm (zab (zaa 3) (zab (fun _=>some (.int 1)) (fun _=>some [])))) (fun _=>some []))) (fun _=>some []))))) (fun _=>some [])))))) (zaa 0)))
  (za4 (mB (m2 zdl (zaa 5) (fun _=>some .non))) (ze9 2 (zbm (zab (mIx (zab (fun _=>some (.str "make")) (zab (fun _=>some (.str "may")) (fun _=>some []))) (m2 zgg (m2 zbv (m2 zdc (zaa 3) (zaa 0)) (fun _=>some (.int 5))) (fun _=>some (.int 4)))) (zab (zaa 4) (zab (zal (zab (zaa 5) (fun _=>some []))) (fun _=>some [])))))) zbf))))
  (zet 2)))
noncomputable def zo2 (as : List D) : Option (List D):=zk3 6 b_21 as
noncomputable def b_42 : List Sl -> Option Fl :=
 (zai (za4 (mB (m2 dEq (m2 zbv (zaa 0) (fun _=>some (.int 8))) (fun _=>some (.int 5)))) (zav (m2 zbv (m2 zdc (m2 zdc (m2 zdc (zaa 0) (zaa 0)) (zaa 0)) (zaa 0)) (m2 zp0 (fun _=>some (.int 10)) (fun _=>some (.int 60))))) zbf)
  (zav (mIx (zab (fun _=>some (.int 1)) (zab (fun _=>some (.int 1)) (zab (fun _=>some (.int 2)) (zab (fun _=>some (.int 0)) (zab (fun _=>some (.int 3)) (zab (fun _=>some (.int 1)) (zab (fun _=>some (.int 1)) (zab (fun _=>some (.int 2)) (fun _=>some []))))))))) (m2 zbv (m2 zgg (zaa 0) (fun _=>some (.int 8))) (fun _=>some (.int 8))))))
noncomputable def zl8 (as : List D) : Option D:=zbk 1 b_42 as
noncomputable def b_34 : List Sl -> Option Fl :=
 (zai (zbd 2 (mIx (zab (fun _=>some (.str "in")) (zab (fun _=>some (.str "out")) (zab (fun _=>some (.str "in")) (zab (fun _=>some (.str "least")) (zab (fun _=>some (.str "most")) (fun _=>some [])))))) (m2 zbv (mIx (zaf 0) (fun _=>some (.int 0))) (fun _=>some (.int 5)))))
  (zai (za4 (mOr (mB (m2 dEq (zaa 2) (fun _=>some (.str "in")))) (mB (m2 dEq (zaa 2) (fun _=>some (.str "out"))))) (zav (zbm (zab (zaa 2) (zab (m2 zbv (mIx (zaf 0) (fun _=>some (.int 1))) (zaa 1)) (fun _=>some []))))) zbf)
  (zai (zbd 3 (zal (za7 1 [1,0] (zdm (zab (m2 zbv (mIx (zaf 0) (fun _=>some (.int 2))) (fun _=>some (.int 4))) (fun _=>some []))) (zaq 0) (fun _=>some true) (zbm (zab (m2 zbv (mIx (zaf 2) (m2 zci (fun _=>some (.int 4)) (m2 zdc (fun _=>some (.int 2)) (zaa 0)))) (zaa 1)) (zab (zap zl8 (zab (mIx (zaf 2) (m2 zci (fun _=>some (.int 5)) (m2 zdc (fun _=>some (.int 2)) (zaa 0)))) (fun _=>some []))) (fun _=>some [])))))))
  (zai (zbd 4 (zap zd2 (zab (zal (za7 2 [] (zbl (zal (mSl (zaa 3) (fun _=>some none) (mPt (m2 zbv (mIx (zaf 0) (fun _=>some (.int 3))) (fun _=>some (.int 5))))))) (zb8 (za3 (zaq 0) (za3 (zaq 1) zcf))) (fun _=>some true) (zaa 1))) (fun _=>some []))))
  (zav (zbm (zab (zaa 2) (zab (m2 zij (m2 zci (zaa 4) (m2 zbv (m2 zgg (mIx (zaf 0) (fun _=>some (.int 3))) (fun _=>some (.int 5))) (fun _=>some (.int 3)))) (fun _=>some (.int 1))) (zab (zaa 3) (fun _=>some []))))))))))
noncomputable def zm2 (as : List D) : Option D:=zbk 5 b_34 as
noncomputable def b_43 : List Sl -> Option Fl :=
 (zai (zbd 3 (zap m_0 (zab (zaa 0) (zab (fun _=>some (.int 33)) (fun _=>some [])))))
  (zai (za4 (mB (m2 dEq (zaa 1) (fun _=>some (.int 0)))) (zav (zbm (zab (fun _=>some (.str "never")) (zab (fun _=>some .non) (zab (zal (mSl (zal (zab (zbm (zab (mIx (zab (fun _=>some (.str "least")) (zab (fun _=>some (.str "most")) (fun _=>some []))) (m2 zbv (mIx (zaf 3) (fun _=>some (.int 0))) (fun _=>some (.int 2)))) (zab (m2 zij (m2 zbv (mIx (zaf 3) (fun _=>some (.int 1))) (fun _=>some (.int 3))) (fun _=>some (.int 1))) (zab (zal (fun _=>some [])) (fun _=>some []))))) (fun _=>some []))) (fun _=>some none) (mPt (m2 zbv (mIx (zaf 3) (fun _=>some (.int 2))) (fun _=>some (.int 6)))))) (fun _=>some [])))))) zbf)
  (zai (zbd 4 (zal (za7 1 [1,3] (zdm (zab (mIx (zab (fun _=>some (.int 1)) (zab (fun _=>some (.int 1)) (zab (fun _=>some (.int 2)) (zab (fun _=>some (.int 2)) (zab (fun _=>some (.int 3)) (zab (fun _=>some (.int 0)) (fun _=>some []))))))) (m2 zbv (mIx (zaf 3) (fun _=>some (.int 0))) (fun _=>some (.int 6)))) (fun _=>some []))) (zaq 0) (fun _=>some true) (zap zm2 (zab (zal (mSl (zaa 2) (mPt (m2 zci (fun _=>some (.int 3)) (m2 zdc (fun _=>some (.int 10)) (zaa 0)))) (mPt (m2 zci (fun _=>some (.int 13)) (m2 zdc (fun _=>some (.int 10)) (zaa 0)))))) (zab (zaa 1) (fun _=>some [])))))))
  (zai (za4 (zdp (mB (m2 dEq (m2 zbv (mIx (zaf 3) (fun _=>some (.int 1))) (fun _=>some (.int 8))) (fun _=>some (.int 0)))) (zdp (zd9 (zcn (zaa 2))) (mOr (mB (m2 dNe (zaa 4) (zal (fun _=>some [])))) (mB (m2 dEq (m2 zbv (mIx (zaf 3) (fun _=>some (.int 2))) (fun _=>some (.int 4))) (fun _=>some (.int 0))))))) (zav (zbm (zab (fun _=>some (.str "never")) (zab (fun _=>some .non) (zab (zaa 4) (fun _=>some [])))))) zbf)
  (zav (zbm (zab (mIx (zab (fun _=>some (.str "make")) (zab (fun _=>some (.str "may")) (fun _=>some []))) (m2 zbv (m2 zgg (mIx (zaf 3) (fun _=>some (.int 1))) (fun _=>some (.int 8))) (fun _=>some (.int 2)))) (zab (m2 zbv (m2 zgg (mIx (zaf 3) (fun _=>some (.int 2))) (fun _=>some (.int 4))) (zaa 1)) (zab (zaa 4) (fun _=>some []))))))))))
noncomputable def zqb (as : List D) : Option D:=zbk 5 b_43 as
noncomputable def b_12 : List Sl -> Option Fl :=
 (zai (zgw (zb8 (za3 (zaq 2) (za3 (zaq 3) zcf))) (zaa 0))
  (zai (zbd 4 (m2 zbv (zaa 1) (zap zcd (zab (zaa 3) (fun _=>some [])))))
  (zai (zgw (zb8 (za3 (zaq 5) (za3 (zaq 6) zcf))) (mIx (zaf 3) (zaa 4)))
  (zai (za4 (mB (m2 dEq (mIx (zaf 6) (fun _=>some (.int 0))) (fun _=>some (.str "group")))) (zbd 6 (zbm (zab (fun _=>some (.str "group")) (zab (zal (mSl (mIx (zaf 6) (fun _=>some (.int 1))) (mPt (fun _=>some (.int 1))) (fun _=>some none))) (fun _=>some []))))) (zbd 6 (zbm (zab (mIx (zaf 6) (fun _=>some (.int 0))) (zab (m2 zci (mIx (zaf 6) (fun _=>some (.int 1))) (fun _=>some (.int 1))) (fun _=>some []))))))
  (zav (zbm (zab (zaa 2) (zab (zal (zcz (zal (zcz (zal (mSl (zaa 3) (fun _=>some none) (mPt (zaa 4)))) (zal (zab (zbm (zab (zaa 5) (zab (zaa 6) (fun _=>some [])))) (fun _=>some []))))) (zal (mSl (zaa 3) (mPt (m2 zci (zaa 4) (fun _=>some (.int 1)))) (fun _=>some none))))) (fun _=>some [])))))))))
noncomputable def zpp (as : List D) : Option D:=zbk 7 b_12 as
noncomputable def b_15 : List Sl -> Option Fl :=
 (zai (zbd 4 (zap m_0 (zab (zaa 2) (zab (fun _=>some (.int 4)) (fun _=>some [])))))
  (zai (zbd 5 (m2 zbv (mIx (zaf 4) (fun _=>some (.int 0))) (fun _=>some (.int 14))))
  (zai (zbd 6 (m2 zbv (mIx (zaf 4) (fun _=>some (.int 1))) (zap zcd (zab (zaa 1) (fun _=>some [])))))
  (zai (za4 (mB (m2 dEq (zaa 5) (fun _=>some (.int 4)))) (zav (zbm (zab (zaa 0) (zab (zal (mSl (zaa 1) (fun _=>some none) (mPt (m1 zff (fun _=>some (.int 1)))))) (fun _=>some []))))) zbf)
  (zai (za4 (mB (m2 dEq (zaa 5) (fun _=>some (.int 5)))) (zav (zbm (zab (zaa 0) (zab (zal (zcz (zal (mSl (zaa 1) (fun _=>some none) (mPt (zaa 6)))) (zal (mSl (zaa 1) (mPt (m2 zci (zaa 6) (fun _=>some (.int 1)))) (fun _=>some none))))) (fun _=>some []))))) zbf)
  (zai (za4 (mB (m2 dEq (zaa 5) (fun _=>some (.int 6)))) (zav (zbm (zab (zaa 0) (zab (zal (zcz (zal (mSl (zaa 1) (fun _=>some none) (mPt (m2 zci (zaa 6) (fun _=>some (.int 1)))))) (zal (mSl (zaa 1) (mPt (zaa 6)) (fun _=>some none))))) (fun _=>some []))))) zbf)
  (zai (za4 (mB (m2 dEq (zaa 5) (fun _=>some (.int 7)))) (zav (zbm (zab (zaa 0) (zab (zal (zcz (zal (mSl (zaa 1) (mPt (zaa 6)) (fun _=>some none))) (zal (mSl (zaa 1) (fun _=>some none) (mPt (zaa 6)))))) (fun _=>some []))))) zbf)
  (zai (za4 (zdp (mB (m2 dEq (zaa 5) (fun _=>some (.int 8)))) (mB (m2 dNe (zaa 0) (zal (fun _=>some []))))) (zav (zbm (zab (zal (mSl (zaa 0) (mPt (fun _=>some (.int 1))) (fun _=>some none))) (zab (zaa 1) (fun _=>some []))))) zbf)
  (zai (za4 (zdp (mB (m2 dEq (zaa 5) (fun _=>some (.int 9)))) (zdp (mB (m2 dNe (zaa 0) (zal (fun _=>some [])))) (mB (m2 dGt (zaa 3) (fun _=>some (.int 0)))))) (zai (zbd 7 (m2 zbv (mIx (zaf 4) (fun _=>some (.int 2))) (zaa 3)))
  (zai (zbd 8 (zal (za7 1 [7] (zbl (mIx (zaf 0) (m1 zff (fun _=>some (.int 1))))) (zaq 0) (mB (m2 dNe (zaa 0) (zaa 1))) (zaa 0))))
  (zai (za4 (mB (m2 dEq (zaa 8) (mIx (zaf 0) (m1 zff (fun _=>some (.int 1)))))) (zbd 8 (zal (zlv (zal (zcz (zaa 8) (zal (zab (zaa 7) (fun _=>some [])))))))) zbf)
  (zav (zbm (zab (zal (zcz (zal (mSl (zaa 0) (fun _=>some none) (mPt (m1 zff (fun _=>some (.int 1)))))) (zal (zab (zaa 8) (fun _=>some []))))) (zab (zaa 1) (fun _=>some [])))))))) zbf)
  (zai (za4 (mOr (mB (m2 dEq (zaa 5) (fun _=>some (.int 10)))) (mB (m2 dEq (zaa 5) (fun _=>some (.int 11))))) (zav (zbm (zab (zaa 0) (zab (zal (zcz (zal (zcz (zal (mSl (zaa 1) (fun _=>some none) (mPt (zaa 6)))) (zal (zab (zap zpp (zab (mIx (zaf 1) (zaa 6)) (zab (mIx (zaf 4) (fun _=>some (.int 3))) (fun _=>some [])))) (fun _=>some []))))) (zal (mSl (zaa 1) (mPt (m2 zci (zaa 6) (fun _=>some (.int 1)))) (fun _=>some none))))) (fun _=>some []))))) zbf)
  (zai (za4 (mB (m2 dEq (zaa 5) (fun _=>some (.int 12)))) (zav (zbm (zab (zaa 0) (zab (zal (zcz (zaa 1) (zal (zab (mIx (zaf 1) (mIx (zab (m1 zff (fun _=>some (.int 1))) (zab (fun _=>some (.int 0)) (fun _=>some []))) (m2 zbv (mIx (zaf 4) (fun _=>some (.int 2))) (fun _=>some (.int 2))))) (fun _=>some []))))) (fun _=>some []))))) zbf)
  (zai (za4 (mB (m2 dEq (zaa 5) (fun _=>some (.int 13)))) (zav (zbm (zab (zaa 0) (zab (zal (mSl (zaa 1) (fun _=>some none) (mPt (fun _=>some (.int 0))))) (fun _=>some []))))) zbf)
  (zav (zbm (zab (zaa 0) (zab (zaa 1) (fun _=>some [])))))))))))))))))
noncomputable def zp5 (as : List D) : Option D:=zbk 9 b_15 as
noncomputable def b_57 : List Sl -> Option Fl :=
 (zai (za4 (mB (m2 dEq (mIx (zaf 0) (fun _=>some (.int 0))) (fun _=>some (.str "in")))) (zav (mIx (zaf 1) (mIx (zaf 0) (fun _=>some (.int 1))))) zbf)
  (zai (za4 (mB (m2 dEq (mIx (zaf 0) (fun _=>some (.int 0))) (fun _=>some (.str "out")))) (zav (zfb (mIx (zaf 2) (mIx (zaf 0) (fun _=>some (.int 1)))))) zbf)
  (zai (za4 (mB (m2 dEq (mIx (zaf 0) (fun _=>some (.int 0))) (fun _=>some (.str "least")))) (zav (m2 dGe (zap zd2 (zab (zal (za7 2 [1] (zbl (mIx (zaf 0) (fun _=>some (.int 2)))) (zb8 (za3 (zaq 0) (za3 (zaq 1) zcf))) (zcn (mIx (zaf 2) (zaa 0))) (zaa 1))) (fun _=>some []))) (mIx (zaf 0) (fun _=>some (.int 1))))) zbf)
  (zav (m2 dLe (zap zd2 (zab (zal (za7 2 [2] (zbl (mIx (zaf 0) (fun _=>some (.int 2)))) (zb8 (za3 (zaq 0) (za3 (zaq 1) zcf))) (zcn (mIx (zaf 2) (zaa 0))) (zaa 1))) (fun _=>some []))) (mIx (zaf 0) (fun _=>some (.int 1))))))))
noncomputable def zon (as : List D) : Option D:=zbk 3 b_57 as
noncomputable def b_11 : List Sl -> Option Fl :=
 (zai (za4 (zcn (zap ze6 (zab (zal (za7 1 [1] (zbl (zaa 0)) (zaq 0) (fun _=>some true) (zap m_6 (zab (zaa 0) (zab (zaa 1) (fun _=>some [])))))) (fun _=>some [])))) (zav (fun _=>some (.bl false))) zbf)
  (zai (zdb 2 (za7 1 [] (zbl (zaa 1)) (zaq 0) (fun _=>some true) (fun _=>some (.bl false))))
  (zai (zc5 (zdm (zab (zap zcd (zab (zaa 1) (fun _=>some []))) (fun _=>some []))) (zaq 3) (zc5 (zbl (zaa 0)) (zb8 (za3 (zaq 4) (za3 (zaq 5) (za3 (zaq 6) zcf)))) (za4 (zdp (mB (m2 dNe (zaa 4) (fun _=>some (.str "never")))) (zdp (zcn (mIx (zaf 1) (zaa 5))) (zd9 (zcn (mIx (zaf 2) (zaa 5)))))) (zfa 2 (zaa 5) (zap zf5 (zab (zal (za7 1 [2,1] (zbl (zaa 6)) (zaq 0) (fun _=>some true) (zlh zon (zab (zaa 0) (zab (zg9 1) (zab (zaa 2) (fun _=>some []))))))) (fun _=>some [])))) zbf)))
  (ze5 2 (zav (m2 dEq (zaa 2) (zaa 1)))))))
noncomputable def zmg (as : List D) : Option D:=zbk 7 b_11 as
noncomputable def b_36 : List Sl -> Option Fl :=
 (zai (zbd 2 (zal (zab (zal (fun _=>some [])) (fun _=>some []))))
  (zai (zc5 (zdm (zab (zaa 0) (fun _=>some []))) (zaq 3) (zbd 2 (zal (zcz (zal (za7 1 [] (zbl (zaa 2)) (zaq 0) (fun _=>some true) (zal (zcz (zaa 0) (zal (zab (fun _=>some (.bl true)) (fun _=>some []))))))) (zal (za7 1 [] (zbl (zaa 2)) (zaq 0) (fun _=>some true) (zal (zcz (zaa 0) (zal (zab (fun _=>some (.bl false)) (fun _=>some [])))))))))))
  (zai (zbd 4 (zal (za7 1 [1] (zbl (zaa 2)) (zaq 0) (zcn (zap zmg (zab (zaa 1) (zab (zaa 0) (fun _=>some []))))) (zaa 0))))
  (zgq (za7 1 [] (zbl (zaa 4)) (zaq 0) (fun _=>some true) (zal (za7 2 [] (zfe (zab (zaa 0) (fun _=>some []))) (zb8 (za3 (zaq 0) (za3 (zaq 1) zcf))) (zcn (zaa 1)) (zaa 0))))))))
noncomputable def zp3 (as : List D) : Option D:=zbk 5 b_36 as
noncomputable def b_2 : List Sl -> Option Fl :=
 (zai (zbd 1 (zap m_0 (zab (zap m_5 (zab (zaa 0) (zab (fun _=>some (.int 0)) (fun _=>some [])))) (zab (fun _=>some (.int 6)) (fun _=>some [])))))
  (zai (zbd 2 (m2 zgg (m2 zci (m2 zbv (mIx (zaf 1) (fun _=>some (.int 0))) (fun _=>some (.int 10))) (fun _=>some (.int 2))) (fun _=>some (.int 3))))
  (zai (zdb 3 (zky zo2 (zab (m2 zbv (mIx (zaf 1) (fun _=>some (.int 1))) (fun _=>some (.int 5))) (zab (zaa 2) (fun _=>some [])))))
  (zai (zc5 (zbl (zal (mSl (zaa 0) (mPt (fun _=>some (.int 2))) (mPt (fun _=>some (.int 12)))))) (zaq 4) (ze9 3 (zap zqb (zab (zaa 4) (zab (zaa 2) (zab (m2 dEq (m2 zbv (mIx (zaf 1) (fun _=>some (.int 2))) (fun _=>some (.int 2))) (fun _=>some (.int 0))) (fun _=>some [])))))))
  (zai (ze5 3 (zbd 5 (zap zp3 (zab (zaa 2) (zab (zaa 3) (fun _=>some []))))))
  (zai (za4 (mB (m2 dEq (m2 zbv (mIx (zaf 1) (fun _=>some (.int 3))) (fun _=>some (.int 4))) (fun _=>some (.int 1)))) (zbd 5 (zal (mSl (zaa 5) (mPt (fun _=>some (.int 1))) (fun _=>some none)))) zbf)
  (zai (za4 (mB (m2 dEq (m2 zbv (mIx (zaf 1) (fun _=>some (.int 3))) (fun _=>some (.int 4))) (fun _=>some (.int 2)))) (zbd 5 (zal (zcz (zaa 5) (zal (zab (zal (za7 1 [1] (zdm (zab (zaa 2) (fun _=>some []))) (zaq 0) (mB (m2 dEq (m2 zbv (m2 zgg (mIx (zaf 1) (fun _=>some (.int 4))) (m2 zci (zaa 0) (fun _=>some (.int 1)))) (fun _=>some (.int 2))) (fun _=>some (.int 0)))) (zaa 0))) (fun _=>some [])))))) zbf)
  (zai (zdb 6 (fun _=>some []))
  (zai (ze5 3 (zh9 (zl2 6 (m_1 9) (zdj (zaa 3) (zdj (zaa 5) (zdj (zal (za7 1 [] (zdm (zab (zaa 2) (fun _=>some []))) (zaq 0) (fun _=>some true) (fun _=>some .non))) (zdj (zal (fun _=>some [])) (zgl (zab (zap m_5 (zab (zaa 0) (zab (fun _=>some (.int 1)) (fun _=>some [])))) (fun _=>some []))))))))))
  (zai (zc5 (zbl (zal (zcz (zal (zab (zap m_5 (zab (zaa 0) (zab (fun _=>some (.int 0)) (fun _=>some [])))) (fun _=>some []))) (zal (mSl (zaa 0) (mPt (fun _=>some (.int 2))) (mPt (fun _=>some (.int 42)))))))) (zaq 4) (zai (ze5 6 (zgw (zb8 (za3 (zaq 7) (za3 (zaq 8) zcf))) (zap zp5 (zab (zaa 5) (zab (zaa 6) (zab (zaa 4) (zab (zaa 2) (fun _=>some []))))))))
  (ze5 3 (za4 (zd9 (zcn (zap zp7 (zab (zaa 2) (zab (zaa 3) (zab (zaa 7) (zab (zaa 8) (fun _=>some [])))))))) (zav (fun _=>some (.bl false))) zbf))))
  (zav (fun _=>some (.bl true)))))))))))))
noncomputable def m_2 (as : List D) : Option D:=zbk 9 b_2 as
section
variable {P : Program} {w : World} {K : PySem.W.Frag} {mg : Str -> Option Value} {base : Heap}
theorem z0b {a : Wa} (W : Wd K mg a) : zax P w K mg base CX0 1 a.f_37 a.fd_37 ["_law_steps"] (spD ⟨K,cl a⟩ ["_law_steps"].length zqx) :=
 zbt (k:=0) (N:=["_law_steps","_law_found","_law_pair","_law_why"]) (F:=b_37) W.F_37 zlt fun cdv A outer s H E hr=>have hu:=hr.units; by
  unfold b_37
  exact (zaj (zfq 1 zlt.nd (zbz zag))
  (zaj (zd5 PassesOwn.never rfl (zb2 (dv 0)) (zck rfl (zbc (zcc 2 4 zlt.nd) (zbc (zcc 3 4 zlt.nd) zcm))) (zaj (zbg (za1 (zbi hu) zbh (DE.db (zah (dvC 3) zae)) (DE.db zbq)) (zan (zb5 3 zlt.nd (zbu (zac (zah (dvC 3) zae) (zac (DO.de (zhb boot_list rfl W.z_list (DE.dc (zah (dvC 3) zae)))) zag))))) zbj)
  (zan (zhe (ze7 (zfi PySem.F.plainAttrs_list PySem.F.slot_list_append PySem.F.type_list_append zgn (pv 1) (zdr (zbu (zac (dv 2) (zac (dv 3) zag))) zee)))))))
  (zan (zg2 1))))
theorem z56 {a : Wa} (W : Wd K mg a) : zax P w K mg base CX0 1 a.f_9 a.fd_9 ["_law_rules"] (spD ⟨K,cl a⟩ ["_law_rules"].length m_9) :=
 zbt (k:=0) (N:=["_law_rules","_law_found","_law_word","_law_head","_law_parts","_law_mine","_law_part_here"]) (F:=b_9) W.F_9 zhd fun cdv A outer s H E hr=>have hu:=hr.units; by
  unfold b_9
  exact (zaj (zfq 1 zhd.nd (zbz zag))
  (zaj (zd5 PassesOwn.never rfl (zb2 (dv 0)) (zck rfl (zbc (zcc 2 7 zhd.nd) (zbc (zcc 3 7 zhd.nd) (zbc (zcc 4 7 zhd.nd) zcm)))) (zaj (zfq 5 zhd.nd (zbz zag))
  (zaj (zd5 PassesOwn.never rfl (zb2 (dv 4)) (zcc 6 7 zhd.nd) (zaj (zbg (za1 (zbi hu) zbh (DE.db (zb3 zc6 zda rfl W.z_len PySem.boot_len (zbb (DE.db (dv 6)) zbx))) (DE.db zae)) (zan (zb5 6 zhd.nd (zbu (zac (zah (dvC 6) zae) (zac (zah (dvC 6) zae) (zac (DO.de (zhb boot_list rfl W.z_list (DE.dc (zah (dvC 6) zae)))) zag)))))) zbj)
  (zan (zhe (ze7 (zfi PySem.F.plainAttrs_list PySem.F.slot_list_append PySem.F.type_list_append zgn (pv 5) (zdr (dv 6) zee)))))))
  (zan (zg8 5 (zhe (ze7 (zfi PySem.F.plainAttrs_list PySem.F.slot_list_append PySem.F.type_list_append zgn (pv 1) (zdr (zbu (zac (dv 2) (zac (dv 3) (zac (dv 5) zag)))) zee)))))))))
  (zan (zg2 1))))
theorem z8h {a : Wa} (W : Wd K mg a) : zax P w K mg base CX0 1 a.f_24 a.fd_24 ["_law_many","_law_bar"] (spO ⟨K,cl a⟩ ["_law_many","_law_bar"].length znj) :=
 zuo (k:=0) (N:=["_law_many","_law_bar","_law_sheet","_law_thing","_law_truth"]) (F:=b_24) W.F_24 zod fun cdv A outer s H E hr=>by
  unfold b_24
  exact (zaj (znt 2 1 [] ["_law_k"] zod.nd rfl (DI.de (zev rfl W.z_range (zac (dv 0) zag))) (fun _ _ _ _ _=>(dgc 0 1)) (fun _ _ _ _ _=>zcl) (fun _ _ _ _ _=>zed))
  (zaj (zd5 PassesOwn.never rfl (zb2 (dv 1)) (zck rfl (zbc (zcc 3 5 zod.nd) (zbc (zcc 4 5 zod.nd) zcm))) (zan (zim (pv 2) (dv 3) (dv 4))))
  (zan (zg2 2))))
theorem z3d {a : Wa} (W : Wd K mg a) : zax P w K mg base CX0 1 a.f_49 a.fd_49 ["_law_part_here","_law_sheet"] (spD ⟨K,cl a⟩ ["_law_part_here","_law_sheet"].length zmk) :=
 zbt (k:=0) (N:=["_law_part_here","_law_sheet"]) (F:=b_49) W.F_49 z68 fun cdv A outer s H E hr=>have hu:=hr.units; by
  unfold b_49
  exact (zaj (zbg (za1 (zbi hu) zbh (DE.db (zah (dvC 0) zae)) (DE.db zbq)) (zan (zaw (zb6 zdu zdz (DE.db (zah (dvC 1) (zah (dvC 0) zae))) (DE.db zby)))) zbj)
  (zaj (zbg (za1 (zbi hu) zbh (DE.db (zah (dvC 0) zae)) (DE.db zbq)) (zan (zaw (zb6 zdu zdz (DE.db (zah (dvC 1) (zah (dvC 0) zae))) (DE.db zby)))) zbj)
  (zaj (zbg (za1 (zbi hu) zbh (DE.db (zah (dvC 0) zae)) (DE.db zbq)) (zan (zaw (zb6 zrw zo1 (DE.db (zb3 (zgs rfl) zg4 rfl W.z_sum boot_sum (zbb (DE.db (DO.de (zca 2 [1] ["_law_thing","_law_worth_here","_law_sheet"] rfl (DI.de (zb2 (zah (dvC 0) zae))) (fun _ _ _ _ _=>(zck rfl (zbc (dgc 0 2) (zbc (dgc 1 2) zcm)))) (fun _ _ _ _ _=>(zdw (za1 zdu zdz (DE.db (zah (zc8 2) (dvc 0))) (DE.db zby)))) (fun _ _ _ _ _=>(dvc 1))))) zbx))) (DE.db (zah (dvC 0) zae))))) zbj)
  (zan (zaw (zb6 zmw znq (DE.db (zb3 (zgs rfl) zg4 rfl W.z_sum boot_sum (zbb (DE.db (DO.de (zca 2 [1] ["_law_thing","_law_worth_here","_law_sheet"] rfl (DI.de (zb2 (zah (dvC 0) zae))) (fun _ _ _ _ _=>(zck rfl (zbc (dgc 0 2) (zbc (dgc 1 2) zcm)))) (fun _ _ _ _ _=>(zdw (za1 zf4 zfz (DE.db (zah (zc8 2) (dvc 0))) (DE.db zby)))) (fun _ _ _ _ _=>(dvc 1))))) zbx))) (DE.db (zah (dvC 0) zae))))))))
theorem zoq {a : Wa} (W : Wd K mg a) : zax P w K mg base CX0 2 a.f_6 a.fd_6 ["_law_rule_here","_law_sheet"] (spD ⟨K,cl a⟩ ["_law_rule_here","_law_sheet"].length m_6) :=
 zbt (k:=1) (N:=["_law_rule_here","_law_sheet"]) (F:=b_6) W.F_6 z3a fun cdv A outer s H E hr=>have hu:=hr.units; by
  unfold b_6
  exact (zaj (zbg (DW.dt (zgd (za1 (zbi hu) zbh (DE.db (zah (dvC 0) zae)) (DE.db zbq)) (zgk (DW.dt (zfh (za1 (zbi hu) zbh (DE.db (zah (dvC 0) zae)) (DE.db zbq)) (zgo (za1 zf4 zfz (DE.db (zah (dvC 1) (zah (dvC 0) zae))) (DE.db zby)))))))) (zan (zaw zby)) zbj)
  (zan (zaw (zb3 (zla rfl) zli rfl W.z_all boot_all (zbb (DE.db (DO.de (zca 1 [1] ["_law_part_here","_law_sheet"] rfl (DI.de (zb2 (zah (dvC 0) zae))) (fun _ _ _ _ _=>(dgc 0 1)) (fun _ _ _ _ _=>zcl) (fun _ _ _ _ _=>(zbp (z3d W) (hr.mono (by decide)) (glc rfl) W.g_49 W.F_49.kp W.b_49 (zac (dvc 0) (zac (dvc 1) zag))))))) zbx)))))
theorem zve {a : Wa} (W : Wd K mg a) : zax P w K mg base CX0 1 a.f_35 a.fd_35 ["_law_sheet","_law_bar"] (spD ⟨K,cl a⟩ ["_law_sheet","_law_bar"].length zm4) :=
 zbt (k:=0) (N:=["_law_sheet","_law_bar"]) (F:=b_35) W.F_35 z7s fun cdv A outer s H E hr=>have hu:=hr.units; by
  unfold b_35
  exact (zan (zaw (zb3 (zla rfl) zli rfl W.z_all boot_all (zbb (DE.db (DO.de (zca 2 [0] ["_law_thing","_law_truth","_law_sheet"] rfl (DI.de (zb2 (dv 1))) (fun _ _ _ _ _=>(zck rfl (zbc (dgc 0 2) (zbc (dgc 1 2) zcm)))) (fun _ _ _ _ _=>zcl) (fun _ _ _ _ _=>(zb6 (zbi hu) zbh (DE.db (zah (zc8 2) (dvc 0))) (DE.db (dvc 1))))))) zbx))))
theorem z2d {a : Wa} (W : Wd K mg a) : zax P w K mg base CX0 1 a.f_50 a.fd_50 ["_law_part_here","_law_sheet","_law_without"] (spD ⟨K,cl a⟩ ["_law_part_here","_law_sheet","_law_without"].length zry) :=
 zbt (k:=0) (N:=["_law_part_here","_law_sheet","_law_without","_law_left"]) (F:=b_50) W.F_50 zvg fun cdv A outer s H E hr=>have hu:=hr.units; by
  unfold b_50
  exact (zaj (zbg (za1 (zbi hu) zbh (DE.db (zah (dvC 0) zae)) (DE.db zbq)) (zan (zaw (zvs (zb6 zdu zdz (DE.db (zah (dvC 1) (zah (dvC 0) zae))) (DE.db zby)) (zf1 (zah (dvC 2) (zah (dvC 0) zae)))))) zbj)
  (zaj (zbg (za1 (zbi hu) zbh (DE.db (zah (dvC 0) zae)) (DE.db zbq)) (zan (zaw (zb6 zdu zdz (DE.db (zah (dvC 1) (zah (dvC 0) zae))) (DE.db zby)))) zbj)
  (zaj (zbg (za1 (zbi hu) zbh (DE.db (zah (dvC 0) zae)) (DE.db zbq)) (zaj (zgi 3 2 [1,2] ["_law_thing","_law_worth_here","_law_sheet","_law_without"] zvg.nd rfl (DI.de (zb2 (zah (dvC 0) zae))) (fun _ _ _ _ _=>(zck rfl (zbc (dgc 0 2) (zbc (dgc 1 2) zcm)))) (fun _ _ _ _ _=>(zdw (DW.dt (zfh (za1 zf4 zfz (DE.db (zah (zc8 2) (dvc 0))) (DE.db zby)) (zgo (ze4 (zcy (DE.db (zah (zc8 3) (dvc 0)))))))))) (fun _ _ _ _ _=>(dvc 1)))
  (zan (zaw (zb6 zhs zhr (DE.db (zb3 (zgs rfl) zg4 rfl W.z_sum boot_sum (zbb (DE.db (dv 3)) zbx))) (DE.db (zah (dvC 0) zae)))))) zbj)
  (zan (zaw (zb6 zi7 zkh (DE.db (zb3 (zgs rfl) zg4 rfl W.z_sum boot_sum (zbb (DE.db (DO.de (zca 2 [1] ["_law_thing","_law_worth_here","_law_sheet"] rfl (DI.de (zb2 (zah (dvC 0) zae))) (fun _ _ _ _ _=>(zck rfl (zbc (dgc 0 2) (zbc (dgc 1 2) zcm)))) (fun _ _ _ _ _=>(zdw (za1 zdu zdz (DE.db (zah (zc8 2) (dvc 0))) (DE.db zby)))) (fun _ _ _ _ _=>(dvc 1))))) zbx))) (DE.db (zah (dvC 0) zae))))))))
theorem zvk {a : Wa} (W : Wd K mg a) : zax P w K mg base CX0 2 a.f_22 a.fd_22 ["_law_rule_here","_law_sheet","_law_without"] (spD ⟨K,cl a⟩ ["_law_rule_here","_law_sheet","_law_without"].length zml) :=
 zbt (k:=1) (N:=["_law_rule_here","_law_sheet","_law_without"]) (F:=b_22) W.F_22 zw4 fun cdv A outer s H E hr=>have hu:=hr.units; by
  unfold b_22
  exact (zaj (zbg (DW.dt (zgd (za1 (zbi hu) zbh (DE.db (zah (dvC 0) zae)) (DE.db zbq)) (zgk (ze4 (zcy (DE.db (zah (dvC 2) (zah (dvC 0) zae)))))))) (zan (zaw zby)) zbj)
  (zan (zaw (zgr (zb3 (zhk rfl) zhx rfl W.z_any boot_any (zbb (DE.db (DO.de (zca 1 [1,2] ["_law_part_here","_law_sheet","_law_without"] rfl (DI.de (zb2 (zah (dvC 0) zae))) (fun _ _ _ _ _=>(dgc 0 1)) (fun _ _ _ _ _=>zcl) (fun _ _ _ _ _=>(zbp (z2d W) (hr.mono (by decide)) (glc rfl) W.g_50 W.F_50.kp W.b_50 (zac (dvc 0) (zac (dvc 1) (zac (dvc 2) zag)))))))) zbx))))))
theorem zra {a : Wa} (W : Wd K mg a) : zax P w K mg base CX0 3 a.f_3 a.fd_3 ["_law_rules","_law_sets","_law_bars","_law_sheet","_law_why"] (spD ⟨K,cl a⟩ ["_law_rules","_law_sets","_law_bars","_law_sheet","_law_why"].length m_3) :=
 zbt (k:=2) (N:=["_law_rules","_law_sets","_law_bars","_law_sheet","_law_why","_law_word","_law_told","_law_without"]) (F:=b_3) W.F_3 zog fun cdv A outer s H E hr=>have hu:=hr.units; by
  unfold b_3
  exact (zaj (zlw (dv 4) (zck rfl (zbc (zcc 5 8 zog.nd) (zbc (zcc 6 8 zog.nd) zcm))))
  (zaj (zbg (za1 (zbi hu) zbh (DE.db (dv 5)) (DE.db zbq)) (zan (zaw (zfu (zb6 zhs zhr (DE.db (dv 6)) (DE.db (zb3 zc6 zda rfl W.z_len PySem.boot_len (zbb (DE.db (dv 0)) zbx)))) (zf1 (zbp (zoq W) (hr.mono (by decide)) rfl W.g_6 W.F_6.kp W.b_6 (zac (zah (dvC 0) (dv 6)) (zac (dv 3) zag))))))) zbj)
  (zaj (zbg (za1 (zbi hu) zbh (DE.db (dv 5)) (DE.db zbq)) (zan (zaw (zfu (zb6 zhs zhr (DE.db (dv 6)) (DE.db (zb3 zc6 zda rfl W.z_len PySem.boot_len (zbb (DE.db (dv 2)) zbx)))) (zf1 (zbp (zve W) (hr.mono (by decide)) rfl W.g_35 W.F_35.kp W.b_35 (zac (dv 3) (zac (zah (dvC 2) (dv 6)) zag))))))) zbj)
  (zaj (zbg (DW.dt (zfh (za1 (zbi hu) zbh (DE.db (dv 5)) (DE.db zbq)) (zgo (za1 zhs zhr (DE.db (dv 6)) (DE.db (zb3 zc6 zda rfl W.z_len PySem.boot_len (zbb (DE.db (dv 1)) zbx))))))) (zan (zaw (zb6 (zbi hu) zbh (DE.db (dv 3)) (DE.db (DO.de (zca 1 [1,6] ["_law_thing","_law_sets","_law_told"] rfl (DI.de (zev rfl W.z_range (zac (zb3 zc6 zda rfl W.z_len PySem.boot_len (zbb (DE.db (dv 3)) zbx)) zag))) (fun _ _ _ _ _=>(dgc 0 1)) (fun _ _ _ _ _=>zcl) (fun _ _ _ _ _=>(zb6 ztz zsl (DE.db (dvc 0)) (DE.db (zah (zc8 1) (dvc 2))))))))))) zbj)
  (zaj (zbg (za1 (zbi hu) zbh (DE.db (dv 5)) (DE.db zbq)) (zan (zaw zby)) zbj)
  (zaj (zbg (ze4 (zcy (DE.db (zb3 (zhk rfl) zhx rfl W.z_any boot_any (zbb (DE.db (DO.de (zca 1 [3] ["_law_thing","_law_sheet"] rfl (DI.de (zb2 (dv 6))) (fun _ _ _ _ _=>(dgc 0 1)) (fun _ _ _ _ _=>zcl) (fun _ _ _ _ _=>(zb6 zdu zdz (DE.db (zah (zc8 1) (dvc 0))) (DE.db zby)))))) zbx))))) (zan (zaw zby)) zbj)
  (zaj (zb5 7 zog.nd (DO.de (zca 1 [6] ["_law_thing","_law_told"] rfl (DI.de (zev rfl W.z_range (zac (zb3 zc6 zda rfl W.z_len PySem.boot_len (zbb (DE.db (dv 3)) zbx)) zag))) (fun _ _ _ _ _=>(dgc 0 1)) (fun _ _ _ _ _=>zcl) (fun _ _ _ _ _=>(zb6 ztz zsl (DE.db (dvc 0)) (DE.db (dvc 1)))))))
  (zan (zaw (zgr (zb3 (zhk rfl) zhx rfl W.z_any boot_any (zbb (DE.db (DO.de (zca 1 [3,7] ["_law_rule_here","_law_sheet","_law_without"] rfl (DI.de (zb2 (dv 0))) (fun _ _ _ _ _=>(dgc 0 1)) (fun _ _ _ _ _=>zcl) (fun _ _ _ _ _=>(zbp (zvk W) (hr.mono (by decide)) (glc rfl) W.g_22 W.F_22.kp W.b_22 (zac (dvc 0) (zac (dvc 1) (zac (dvc 2) zag)))))))) zbx))))))))))))
theorem zoj {a : Wa} (W : Wd K mg a) : zax P w K mg base CX0 1 a.f_7 a.fd_7 ["_law_sheet","_law_thing","_law_entry"] (spD ⟨K,cl a⟩ ["_law_sheet","_law_thing","_law_entry"].length m_7) :=
 zbt (k:=0) (N:=["_law_sheet","_law_thing","_law_entry"]) (F:=b_7) W.F_7 z42 fun cdv A outer s H E hr=>by
  unfold b_7
  exact (zan (zlo (zds (DO.de (zds (DO.de (by refine zc4 ?a ?b ?c; (case a=>exact (dv 0)); (case b=>exact zdg); (case c=>exact (zcu (dv 1))))) (DO.de (zbz (zac (dv 2) zag))))) (DO.de (by refine zc4 ?a ?b ?c; (case a=>exact (dv 0)); (case b=>exact (zcu (zay zdo (dv 1) zae))); (case c=>exact zdg))))))
theorem z3k {a : Wa} (W : Wd K mg a) : zax P w K mg base CX0 4 a.f_25 a.fd_25 ["_law_many","_law_rules","_law_sets","_law_bars","_law_line"] (spD ⟨K,cl a⟩ ["_law_many","_law_rules","_law_sets","_law_bars","_law_line"].length zo0) :=
 zbt (k:=3) (N:=["_law_many","_law_rules","_law_sets","_law_bars","_law_line","_law_bar","_law_steps","_law_sheet","_law_pair","_law_why"]) (F:=b_25) W.F_25 zki fun cdv A outer s H E hr=>have hu:=hr.units; by
  unfold b_25
  exact (zaj (zlw (dv 4) (zck rfl (zbc (zcc 5 10 zki.nd) (zbc (zcc 6 10 zki.nd) zcm))))
  (zaj (zbg (DW.dt (zgd (za1 (zbi hu) zbh (DE.db (dv 6)) (DE.db (DO.de (zbz zag)))) (zgk (za1 zf4 zfz (DE.db (zah (DE.dc (zah (dvC 6) (zgj zae))) zae)) (DE.db zed))))) (zan (zaw zby)) zbj)
  (zaj (zfq 7 zki.nd (zr9 (z8h W) (hr.mono (by decide)) rfl W.g_24 W.F_24.kp W.b_24 (zac (dv 0) (zac (dv 5) zag))))
  (zaj (zd5 PassesOwn.never rfl (zb2 (DO.de (by refine zc4 ?a ?b ?c; (case a=>exact (dv 6)); (case b=>exact zdg); (case c=>exact (zcu (zgj zae)))))) (zck rfl (zbc (zcc 8 10 zki.nd) (zbc (zcc 9 10 zki.nd) zcm))) (zaj (zbg (DW.dt (zgd (za1 zdu zdz (DE.db (dv 8)) (DE.db zed)) (zgk (za1 zf4 zfz (DE.db (zah (dvC 7) (zah (dvC 8) zae))) (DE.db zed))))) (zan (zaw zby)) zbj)
  (zaj (zbg (ze4 (zcy (DE.db (zm8 (zra W) (hr.mono (by decide)) rfl W.g_3 W.F_3.kp W.b_3 (zbb (DE.db (dv 1)) (zbb (DE.db (dv 2)) (zbb (DE.db (dv 3)) (zbb (zz4 (zoj W) (hr.mono (by decide)) rfl W.g_7 W.F_7.kp W.b_7 (zbb (dvB 7) (zbb (DE.db (zah (dvC 8) zae)) (zbb (DE.db (zgr (zah (dvC 8) zae))) zbx)))) (zbb (DE.db (dv 9)) zbx))))))))) (zan (zaw zby)) zbj)
  (zan (zim (pv 7) (zah (dvC 8) zae) (zah (dvC 8) zae))))))
  (zan (zg8 7 (zaw (zbp (zra W) (hr.mono (by decide)) rfl W.g_3 W.F_3.kp W.b_3 (zac (dv 1) (zac (dv 2) (zac (dv 3) (zac (dv 7) (zac (zah (DE.dc (zah (dvC 6) (zgj zae))) zae) zag)))))))))))))
theorem zym {a : Wa} (W : Wd K mg a) : zax P w K mg base CX0 5 a.f_38 a.fd_38 ["_law_many","_law_rules","_law_sets","_law_lines"] (spD ⟨K,cl a⟩ ["_law_many","_law_rules","_law_sets","_law_lines"].length zo7) :=
 zbt (k:=4) (N:=["_law_many","_law_rules","_law_sets","_law_lines","_law_bars","_law_k","_law_line"]) (F:=b_38) W.F_38 zmo fun cdv A outer s H E hr=>have hu:=hr.units; by
  unfold b_38
  exact (zaj (zgi 4 2 [] ["_law_bar","_law_steps"] zmo.nd rfl (DI.de (zb2 (dv 3))) (fun _ _ _ _ _=>(zck rfl (zbc (dgc 0 2) (zbc (dgc 1 2) zcm)))) (fun _ _ _ _ _=>zcl) (fun _ _ _ _ _=>(dvc 0)))
  (zaj (zd5 PassesOwn.never rfl (zio rfl W.z_enumerate (zac (dv 3) zag)) (zck rfl (zbc (zcc 5 7 zmo.nd) (zbc (zcc 6 7 zmo.nd) zcm))) (zan (zbg (ze4 (zcy (DE.db (zbp (z3k W) (hr.mono (by decide)) rfl W.g_25 W.F_25.kp W.b_25 (zac (dv 0) (zac (dv 1) (zac (dv 2) (zac (DO.de (by refine zc4 ?a ?b ?c; (case a=>exact (dv 4)); (case b=>exact zdg); (case c=>exact (zcu (dv 5))))) (zac (dv 6) zag))))))))) (zan (zaw zby)) zbj)))
  (zan (zaw (zfu (zb6 (zg3 hu) zgz (DE.db (dv 3)) (DE.db (DO.de (zbz zag)))) (zf1 (zb6 (zbi hu) zbh (DE.db (zah (dvC 4) (zgj zae))) (DE.db (DO.de (zbz zag))))))))))
theorem zxz {a : Wa} (W : Wd K mg a) : zax P w K mg base CX0 1 a.f_32 a.fd_32 ["many","bar"] (spD ⟨K,cl a⟩ ["many","bar"].length zmx) :=
 zbt (k:=0) (N:=["many","bar","thing","sheet","truth"]) (F:=b_32) W.F_32 znf fun cdv A outer s H E hr=>by
  unfold b_32
  exact (zaj (znt 3 1 [] ["thing"] znf.nd rfl (DI.de (zev rfl W.z_range (zac (dv 0) zag))) (fun _ _ _ _ _=>(dgc 0 1)) (fun _ _ _ _ _=>zcl) (fun _ _ _ _ _=>zed))
  (zaj (zd5 PassesOwn.never rfl (zb2 (dv 1)) (zck rfl (zbc (zcc 2 5 znf.nd) (zbc (zcc 4 5 znf.nd) zcm))) (zan (zim (pv 3) (dv 2) (dv 4))))
  (zan (zg2 3))))
theorem zxu {a : Wa} (W : Wd K mg a) : zax P w K mg base CX0 1 a.f_44 a.fd_44 ["sheet","thing","truth"] (spD ⟨K,cl a⟩ ["sheet","thing","truth"].length zqu) :=
 zbt (k:=0) (N:=["sheet","thing","truth","other"]) (F:=b_44) W.F_44 zr7 fun cdv A outer s H E hr=>by
  unfold b_44
  exact (zaj (zfq 3 zr7.nd (zhb boot_list rfl W.z_list (dvC 0)))
  (zaj (zim (pv 3) (dv 1) (dv 2))
  (zan (zg2 3))))
theorem z8a {a : Wa} (W : Wd K mg a) : zax P w K mg base CX0 1 a.f_55 a.fd_55 ["sheet","bar"] (spD ⟨K,cl a⟩ ["sheet","bar"].length zpu) :=
 zbt (k:=0) (N:=["sheet","bar"]) (F:=b_55) W.F_55 z7i fun cdv A outer s H E hr=>have hu:=hr.units; by
  unfold b_55
  exact (zan (zaw (zb3 (zla rfl) zli rfl W.z_all boot_all (zbb (DE.db (DO.de (zca 2 [0] ["thing","truth","sheet"] rfl (DI.de (zb2 (dv 1))) (fun _ _ _ _ _=>(zck rfl (zbc (dgc 0 2) (zbc (dgc 1 2) zcm)))) (fun _ _ _ _ _=>zcl) (fun _ _ _ _ _=>(zb6 (zbi hu) zbh (DE.db (zah (zc8 2) (dvc 0))) (DE.db (dvc 1))))))) zbx))))
theorem zph {a : Wa} (W : Wd K mg a) : zax P w K mg base CX0 1 a.f_4 a.fd_4 ["listed","number"] (spD ⟨K,cl a⟩ ["listed","number"].length m_4) :=
 zbt (k:=0) (N:=["listed","number"]) (F:=b_4) W.F_4 z0g fun cdv A outer s H E hr=>by
  unfold b_4
  exact (zan (zaw (z0z zmw znq zhs zhr (DE.db zae) (DE.db (dv 1)) (DE.db (zb3 zc6 zda rfl W.z_len PySem.boot_len (zbb (DE.db (dv 0)) zbx))))))
theorem zvw {a : Wa} (W : Wd K mg a) : zax P w K mg base CX0 1 a.f_8 a.fd_8 ["many","some"] (spD ⟨K,cl a⟩ ["many","some"].length m_8) :=
 zbt (k:=0) (N:=["many","some","listed","thing"]) (F:=b_8) W.F_8 zqs fun cdv A outer s H E hr=>have hu:=hr.units; by
  unfold b_8
  exact (zaj (z6a 2 zqs.nd)
  (zaj (zd5 PassesOwn.never rfl (zb2 (dv 1)) (zcc 3 4 zqs.nd) (zan (z7j hu (pv 2) (dv 3) zby)))
  (zan (zg8 2 (zlo (zca 1 [2] ["thing","listed"] rfl (DI.de (zev rfl W.z_range (zac (dv 0) zag))) (fun _ _ _ _ _=>(dgc 0 1)) (fun _ _ _ _ _=>zcl) (fun _ _ _ _ _=>(z67 hu (dvc 0) (dvc 1)))))))))
theorem zz0 {a : Wa} (W : Wd K mg a) : zax P w K mg base CX0 1 a.f_56 a.fd_56 ["sheet","things"] (spD ⟨K,cl a⟩ ["sheet","things"].length zpv) :=
 zbt (k:=0) (N:=["sheet","things"]) (F:=b_56) W.F_56 zzn fun cdv A outer s H E hr=>by
  unfold b_56
  exact (zan (zaw (zb3 (zhk rfl) zhx rfl W.z_any boot_any (zbb (DE.db (DO.de (zca 1 [0] ["thing","sheet"] rfl (DI.de (zb2 (dv 1))) (fun _ _ _ _ _=>(dgc 0 1)) (fun _ _ _ _ _=>zcl) (fun _ _ _ _ _=>(zb6 zdu zdz (DE.db (zah (zc8 1) (dvc 0))) (DE.db zby)))))) zbx))))
theorem z44 {a : Wa} (W : Wd K mg a) : zax P w K mg base CX0 1 a.f_16 a.fd_16 ["self","sheet","without"] (spD ⟨K,cl a⟩ ["self","sheet","without"].length m_16) :=
 zbt (k:=0) (N:=["self","sheet","without"]) (F:=b_16) W.F_16 zyo fun cdv A outer s H E hr=>by
  unfold b_16
  exact (zan (zaw (zvs (zb6 zdu zdz (DE.db (zah (dvC 1) (ze3 "In" (zjn W) (zmt W) (dv 0)))) (DE.db zby)) (zf1 (zah (dvC 2) (ze3 "In" (zjn W) (zmt W) (dv 0)))))))
theorem zzt {a : Wa} (W : Wd K mg a) : zax P w K mg base CX0 1 a.f_51 a.fd_51 ["items","without"] (spD ⟨K,cl a⟩ ["items","without"].length zop) :=
 zbt (k:=0) (N:=["items","without"]) (F:=b_51) W.F_51 z2z fun cdv A outer s H E hr=>by
  unfold b_51
  exact (zan (zlo (zca 1 [1] ["item","without"] rfl (DI.de (zb2 (dv 0))) (fun _ _ _ _ _=>(dgc 0 1)) (fun _ _ _ _ _=>(zdw (ze4 (zcy (DE.db (zah (zc8 1) (zah (zc8 0) zae))))))) (fun _ _ _ _ _=>(dvc 0)))))
theorem zsy {a : Wa} (W : Wd K mg a) : zax P w K mg base CX0 1 a.f_20 a.fd_20 ["items","sheet"] (spD ⟨K,cl a⟩ ["items","sheet"].length zl4) :=
 zbt (k:=0) (N:=["items","sheet"]) (F:=b_20) W.F_20 z5z fun cdv A outer s H E hr=>by
  unfold b_20
  exact (zan (zaw (zb3 (zgs rfl) zg4 rfl W.z_sum boot_sum (zbb (DE.db (DO.de (zca 2 [1] ["thing","worth","sheet"] rfl (DI.de (zb2 (dv 0))) (fun _ _ _ _ _=>(zck rfl (zbc (dgc 0 2) (zbc (dgc 1 2) zcm)))) (fun _ _ _ _ _=>(zdw (za1 zf4 zfz (DE.db (zah (zc8 2) (dvc 0))) (DE.db zby)))) (fun _ _ _ _ _=>(dvc 1))))) zbx))))
theorem z6t {a : Wa} (W : Wd K mg a) : zax P w K mg base CX0 2 a.f_18 a.fd_18 ["self","sheet","without"] (spD ⟨K,cl a⟩ ["self","sheet","without"].length m_18) :=
 zbt (k:=1) (N:=["self","sheet","without"]) (F:=b_18) W.F_18 z5v fun cdv A outer s H E hr=>by
  unfold b_18
  exact (zan (zaw (zb6 zhs zhr (DE.db (zbp (zsy W) (hr.mono (by decide)) rfl W.g_20 W.F_20.kp W.b_20 (zac (zbp (zzt W) (hr.mono (by decide)) rfl W.g_51 W.F_51.kp W.b_51 (zac (ze3 "Least" (zhv W) (zqc W) (dv 0)) (zac (dv 2) zag))) (zac (dv 1) zag)))) (DE.db (ze3 "Least" (zhv W) (zqp W) (dv 0))))))
theorem zvp {a : Wa} (W : Wd K mg a) : zax P w K mg base CX0 1 a.f_30 a.fd_30 ["items","entries"] (spD ⟨K,cl a⟩ ["items","entries"].length zny) :=
 zbt (k:=0) (N:=["items","entries"]) (F:=b_30) W.F_30 z8g fun cdv A outer s H E hr=>by
  unfold b_30
  exact (zan (zaw (zb3 (zgs rfl) zg4 rfl W.z_sum boot_sum (zbb (DE.db (DO.de (zca 2 [1] ["thing","worth","entries"] rfl (DI.de (zb2 (dv 0))) (fun _ _ _ _ _=>(zck rfl (zbc (dgc 0 2) (zbc (dgc 1 2) zcm)))) (fun _ _ _ _ _=>(zdw (za1 zdu zdz (DE.db (zah (zc8 2) (dvc 0))) (DE.db zby)))) (fun _ _ _ _ _=>(dvc 1))))) zbx))))
theorem z5f {a : Wa} (W : Wd K mg a) : zax P w K mg base CX0 2 a.f_19 a.fd_19 ["self","sheet","without"] (spD ⟨K,cl a⟩ ["self","sheet","without"].length m_19) :=
 zbt (k:=1) (N:=["self","sheet","without"]) (F:=b_19) W.F_19 z38 fun cdv A outer s H E hr=>by
  unfold b_19
  exact (zan (zaw (zb6 zi7 zkh (DE.db (zbp (zvp W) (hr.mono (by decide)) rfl W.g_30 W.F_30.kp W.b_30 (zac (ze3 "Most" (zht W) (zqv W) (dv 0)) (zac (dv 1) zag)))) (DE.db (ze3 "Most" (zht W) (zq7 W) (dv 0))))))
theorem z7r {a : Wa} (W : Wd K mg a) : zax P w K mg base CX0 1 a.f_17 a.fd_17 ["self","sheet","without"] (spD ⟨K,cl a⟩ ["self","sheet","without"].length m_17) :=
 zbt (k:=0) (N:=["self","sheet","without"]) (F:=b_17) W.F_17 z1d fun cdv A outer s H E hr=>by
  unfold b_17
  exact (zan (zaw (zb6 zdu zdz (DE.db (zah (dvC 1) (ze3 "Out" (zl0 W) (zpf W) (dv 0)))) (DE.db zby))))
theorem z9c {a : Wa} (W : Wd K mg a) : zax P w K mg base CX0 1 a.f_58 a.fd_58 ["self","thing"] (spI ⟨K,cl a⟩ "In" ["self","thing"].length zwd) :=
 zni (k:=0) (N:=["self","thing"]) (cn:="In") W.F_58 z5d fun cdv A outer s H E hr=>(zj1 (zjn W) (zmt W) (pv 0) (dv 1) zm6)
theorem z4c {a : Wa} (W : Wd K mg a) : zax P w K mg base CX0 1 a.f_60 a.fd_60 ["self","bound","items"] (spI ⟨K,cl a⟩ "Least" ["self","bound","items"].length zso) :=
 zni (k:=0) (N:=["self","bound","items"]) (cn:="Least") W.F_60 z1j fun cdv A outer s H E hr=>(zj1 (zhv W) (zqp W) (pv 0) (dv 1) (zj1 (zhv W) (zqc W) (pv 0) (DO.de (zhb boot_list rfl W.z_list (dvC 2))) zm6))
theorem z49 {a : Wa} (W : Wd K mg a) : zax P w K mg base CX0 1 a.f_61 a.fd_61 ["self","bound","items"] (spI ⟨K,cl a⟩ "Most" ["self","bound","items"].length zta) :=
 zni (k:=0) (N:=["self","bound","items"]) (cn:="Most") W.F_61 z7f fun cdv A outer s H E hr=>(zj1 (zht W) (zq7 W) (pv 0) (dv 1) (zj1 (zht W) (zqv W) (pv 0) (DO.de (zhb boot_list rfl W.z_list (dvC 2))) zm6))
theorem z0i {a : Wa} (W : Wd K mg a) : zax P w K mg base CX0 1 a.f_59 a.fd_59 ["self","thing"] (spI ⟨K,cl a⟩ "Out" ["self","thing"].length zt2) :=
 zni (k:=0) (N:=["self","thing"]) (cn:="Out") W.F_59 z5b fun cdv A outer s H E hr=>(zj1 (zl0 W) (zpf W) (pv 0) (dv 1) zm6)
theorem z8w {a : Wa} (W : Wd K mg a) : zax P w K mg base CX0 3 a.f_48 a.fd_48 ["told"] (spD ⟨K,cl a⟩ ["told"].length zo8) :=
 zbt (k:=2) (N:=["told","word"]) (F:=b_48) W.F_48 zsh fun cdv A outer s H E hr=>have hu:=hr.units; by
  unfold b_48
  exact (zaj (zb5 1 zsh.nd (zah (dvC 0) zae))
  (zaj (zbg (za1 (zbi hu) zbh (DE.db (dv 1)) (DE.db zbq)) (zan (zaw (zno "In" (zxt W) (z9c W) (hr.mono (by decide)) rfl (z0e W) W.b_58 (zac (zah (dvC 0) zae) zag)))) zbj)
  (zaj (zbg (za1 (zbi hu) zbh (DE.db (dv 1)) (DE.db zbq)) (zan (zaw (zno "Out" (zxe W) (z0i W) (hr.mono (by decide)) rfl (z7g W) W.b_59 (zac (zah (dvC 0) zae) zag)))) zbj)
  (zaj (zbg (za1 (zbi hu) zbh (DE.db (dv 1)) (DE.db zbq)) (zan (zaw (zno "Least" (zxf W) (z4c W) (hr.mono (by decide)) rfl (zx9 W) W.b_60 (zac (zah (dvC 0) zae) (zac (zah (dvC 0) zae) zag))))) zbj)
  (zan (zaw (zno "Most" (z1g W) (z49 W) (hr.mono (by decide)) rfl (z2p W) W.b_61 (zac (zah (dvC 0) zae) (zac (zah (dvC 0) zae) zag)))))))))
theorem zs0 {a : Wa} (W : Wd K mg a) : zax P w K mg base CX0 4 a.f_31 a.fd_31 ["rule"] (spD ⟨K,cl a⟩ ["rule"].length znx) :=
 zbt (k:=3) (N:=["rule"]) (F:=b_31) W.F_31 z8l fun cdv A outer s H E hr=>by
  unfold b_31
  exact (zan (zlo (zca 1 [] ["told"] rfl (DI.de (zb2 (zah (dvC 0) zae))) (fun _ _ _ _ _=>(dgc 0 1)) (fun _ _ _ _ _=>zcl) (fun _ _ _ _ _=>(zbp (z8w W) (hr.mono (by decide)) (glc rfl) W.g_48 W.F_48.kp W.b_48 (zac (dvc 0) zag))))))
theorem zxp {a : Wa} (W : Wd K mg a) : zax P w K mg base CX0 5 a.f_53 a.fd_53 ["rule","sheet","without"] (spD ⟨K,cl a⟩ ["rule","sheet","without"].length zps) :=
 zbt (k:=4) (N:=["rule","sheet","without"]) (F:=b_53) W.F_53 z07 fun cdv A outer s H E hr=>by
  unfold b_53
  exact (zan (zaw (zb3 (zhk rfl) zhx rfl W.z_any boot_any (zbb (DE.db (DO.de (zca 1 [1,2] ["part","sheet","without"] rfl (DI.de (zb2 (zbp (zs0 W) (hr.mono (by decide)) rfl W.g_31 W.F_31.kp W.b_31 (zac (dv 0) zag)))) (fun _ _ _ _ _=>(dgc 0 1)) (fun _ _ _ _ _=>zcl) (fun _ _ _ _ _=>(DE.orE (zhp "In" (dvc 0) (zjn W) (z3y W) (z44 W) (hr.mono (by decide)) W.b_16 (zac (dvc 1) (zac (dvc 2) zag))) (DE.orE (zhp "Out" (dvc 0) (zl0 W) (z6s W) (z7r W) (hr.mono (by decide)) W.b_17 (zac (dvc 1) (zac (dvc 2) zag))) (DE.orE (zhp "Least" (dvc 0) (zhv W) (zx4 W) (z6t W) (hr.mono (by decide)) W.b_18 (zac (dvc 1) (zac (dvc 2) zag))) (zhp "Most" (dvc 0) (zht W) (z0a W) (z5f W) (hr.mono (by decide)) W.b_19 (zac (dvc 1) (zac (dvc 2) zag)))))))))) zbx))))
theorem z69 {a : Wa} (W : Wd K mg a) : zax P w K mg base CX0 6 a.f_45 a.fd_45 ["rule","sheet","without"] (spD ⟨K,cl a⟩ ["rule","sheet","without"].length zqh) :=
 zbt (k:=5) (N:=["rule","sheet","without","thing"]) (F:=b_45) W.F_45 zv4 fun cdv A outer s H E hr=>by
  unfold b_45
  exact (zaj (zb5 3 zv4.nd (zah (dvC 0) zae))
  (zan (zaw (zfu (zb6 zf4 zfz (DE.db (dv 3)) (DE.db zed)) (zfu (zah (dvC 2) (dv 3)) (zf1 (zgr (zbp (zxp W) (hr.mono (by decide)) rfl W.g_53 W.F_53.kp W.b_53 (zac (dv 0) (zac (dv 1) (zac (dv 2) zag)))))))))))
theorem z0n {a : Wa} (W : Wd K mg a) : zax P w K mg base CX0 7 a.f_46 a.fd_46 ["plain","sheet","things"] (spD ⟨K,cl a⟩ ["plain","sheet","things"].length zpi) :=
 zbt (k:=6) (N:=["plain","sheet","things","without"]) (F:=b_46) W.F_46 zup fun cdv A outer s H E hr=>by
  unfold b_46
  exact (zaj (zb5 3 zup.nd (zbp (zvw W) (hr.mono (by decide)) rfl W.g_8 W.F_8.kp W.b_8 (zac (zah (dvC 0) zae) (zac (dv 2) zag))))
  (zaj (zbg (zcy (DE.db (zb3 (zhk rfl) zhx rfl W.z_any boot_any (zbb (DE.db (DO.de (zca 1 [1,3] ["rule","sheet","without"] rfl (DI.de (zb2 (zah (dvC 0) zae))) (fun _ _ _ _ _=>(dgc 0 1)) (fun _ _ _ _ _=>zcl) (fun _ _ _ _ _=>(zbp (z69 W) (hr.mono (by decide)) (glc rfl) W.g_45 W.F_45.kp W.b_45 (zac (dvc 0) (zac (dvc 1) (zac (dvc 2) zag)))))))) zbx)))) (zan (zaw zby)) zbj)
  (zan (zaw (zbp (zz0 W) (hr.mono (by decide)) rfl W.g_56 W.F_56.kp W.b_56 (zac (dv 1) (zac (dv 2) zag)))))))
theorem z3f {a : Wa} (W : Wd K mg a) : zax P w K mg base CX0 1 a.f_26 a.fd_26 ["self","sheet"] (spD ⟨K,cl a⟩ ["self","sheet"].length m_26) :=
 zbt (k:=0) (N:=["self","sheet"]) (F:=b_26) W.F_26 zzc fun cdv A outer s H E hr=>by
  unfold b_26
  exact (zan (zaw (zb6 zdu zdz (DE.db (zah (dvC 1) (ze3 "In" (zjn W) (zmt W) (dv 0)))) (DE.db zby))))
theorem zzm {a : Wa} (W : Wd K mg a) : zax P w K mg base CX0 2 a.f_28 a.fd_28 ["self","sheet"] (spD ⟨K,cl a⟩ ["self","sheet"].length m_28) :=
 zbt (k:=1) (N:=["self","sheet"]) (F:=b_28) W.F_28 z0r fun cdv A outer s H E hr=>by
  unfold b_28
  exact (zan (zaw (zb6 zrw zo1 (DE.db (zbp (zvp W) (hr.mono (by decide)) rfl W.g_30 W.F_30.kp W.b_30 (zac (ze3 "Least" (zhv W) (zqc W) (dv 0)) (zac (dv 1) zag)))) (DE.db (ze3 "Least" (zhv W) (zqp W) (dv 0))))))
theorem zy1 {a : Wa} (W : Wd K mg a) : zax P w K mg base CX0 2 a.f_29 a.fd_29 ["self","sheet"] (spD ⟨K,cl a⟩ ["self","sheet"].length m_29) :=
 zbt (k:=1) (N:=["self","sheet"]) (F:=b_29) W.F_29 zy9 fun cdv A outer s H E hr=>by
  unfold b_29
  exact (zan (zaw (zb6 zmw znq (DE.db (zbp (zsy W) (hr.mono (by decide)) rfl W.g_20 W.F_20.kp W.b_20 (zac (ze3 "Most" (zht W) (zqv W) (dv 0)) (zac (dv 1) zag)))) (DE.db (ze3 "Most" (zht W) (zq7 W) (dv 0))))))
theorem z16 {a : Wa} (W : Wd K mg a) : zax P w K mg base CX0 1 a.f_27 a.fd_27 ["self","sheet"] (spD ⟨K,cl a⟩ ["self","sheet"].length m_27) :=
 zbt (k:=0) (N:=["self","sheet"]) (F:=b_27) W.F_27 z15 fun cdv A outer s H E hr=>by
  unfold b_27
  exact (zan (zaw (zb6 zdu zdz (DE.db (zah (dvC 1) (ze3 "Out" (zl0 W) (zpf W) (dv 0)))) (DE.db zby))))
theorem z5x {a : Wa} (W : Wd K mg a) : zax P w K mg base CX0 5 a.f_52 a.fd_52 ["rule","sheet"] (spD ⟨K,cl a⟩ ["rule","sheet"].length zq2) :=
 zbt (k:=4) (N:=["rule","sheet"]) (F:=b_52) W.F_52 z1k fun cdv A outer s H E hr=>by
  unfold b_52
  exact (zan (zaw (zb3 (zla rfl) zli rfl W.z_all boot_all (zbb (DE.db (DO.de (zca 1 [1] ["part","sheet"] rfl (DI.de (zb2 (zbp (zs0 W) (hr.mono (by decide)) rfl W.g_31 W.F_31.kp W.b_31 (zac (dv 0) zag)))) (fun _ _ _ _ _=>(dgc 0 1)) (fun _ _ _ _ _=>zcl) (fun _ _ _ _ _=>(DE.orE (zhp "In" (dvc 0) (zjn W) (z4t W) (z3f W) (hr.mono (by decide)) W.b_26 (zac (dvc 1) zag)) (DE.orE (zhp "Out" (dvc 0) (zl0 W) (z4h W) (z16 W) (hr.mono (by decide)) W.b_27 (zac (dvc 1) zag)) (DE.orE (zhp "Least" (dvc 0) (zhv W) (z79 W) (zzm W) (hr.mono (by decide)) W.b_28 (zac (dvc 1) zag)) (zhp "Most" (dvc 0) (zht W) (z5k W) (zy1 W) (hr.mono (by decide)) W.b_29 (zac (dvc 1) zag))))))))) zbx))))
theorem z8k {a : Wa} (W : Wd K mg a) : zax P w K mg base CX0 6 a.f_54 a.fd_54 ["rule","sheet"] (spD ⟨K,cl a⟩ ["rule","sheet"].length zq3) :=
 zbt (k:=5) (N:=["rule","sheet"]) (F:=b_54) W.F_54 z2f fun cdv A outer s H E hr=>have hu:=hr.units; by
  unfold b_54
  exact (zaj (zbg (za1 (zbi hu) zbh (DE.db (zah (dvC 0) zae)) (DE.db zbq)) (zan (zaw zby)) zbj)
  (zaj (zbg (DW.dt (zfh (za1 (zbi hu) zbh (DE.db (zah (dvC 0) zae)) (DE.db zbq)) (zgo (za1 zf4 zfz (DE.db (zah (dvC 1) (zah (dvC 0) zae))) (DE.db zby))))) (zan (zaw zby)) zbj)
  (zan (zaw (zbp (z5x W) (hr.mono (by decide)) rfl W.g_52 W.F_52.kp W.b_52 (zac (dv 0) (zac (dv 1) zag)))))))
theorem zr5 {a : Wa} (W : Wd K mg a) : zax P w K mg base CX0 8 a.f_13 a.fd_13 ["plain","worlds","bars","sheet","why"] (spD ⟨K,cl a⟩ ["plain","worlds","bars","sheet","why"].length zn8) :=
 zbt (k:=7) (N:=["plain","worlds","bars","sheet","why","number"]) (F:=b_13) W.F_13 zs7 fun cdv A outer s H E hr=>have hu:=hr.units; by
  unfold b_13
  exact (zaj (zbg (za1 (zbi hu) zbh (DE.db (zah (dvC 4) zae)) (DE.db zbq)) (zan (zaw (zbp (z0n W) (hr.mono (by decide)) rfl W.g_46 W.F_46.kp W.b_46 (zac (dv 0) (zac (dv 3) (zac (zah (dvC 4) zae) zag)))))) zbj)
  (zaj (zb5 5 zs7.nd (zah (dvC 4) zae))
  (zaj (zbg (za1 (zbi hu) zbh (DE.db (zah (dvC 4) zae)) (DE.db zbq)) (zan (zaw (zfu (zbp (zph W) (hr.mono (by decide)) rfl W.g_4 W.F_4.kp W.b_4 (zac (zah (dvC 0) zae) (zac (dv 5) zag))) (zf1 (zbp (z8k W) (hr.mono (by decide)) rfl W.g_54 W.F_54.kp W.b_54 (zac (zah (DE.dc (zah (dvC 0) zae)) (dv 5)) (zac (dv 3) zag))))))) zbj)
  (zaj (zbg (za1 (zbi hu) zbh (DE.db (zah (dvC 4) zae)) (DE.db zbq)) (zan (zaw (zfu (zbp (zph W) (hr.mono (by decide)) rfl W.g_4 W.F_4.kp W.b_4 (zac (dv 2) (zac (dv 5) zag))) (zf1 (zbp (z8a W) (hr.mono (by decide)) rfl W.g_55 W.F_55.kp W.b_55 (zac (dv 3) (zac (zah (dvC 2) (dv 5)) zag))))))) zbj)
  (zan (zaw (zfu (zb6 (zbi hu) zbh (DE.db (zah (dvC 4) zae)) (DE.db zbq)) (zfu (zbp (zph W) (hr.mono (by decide)) rfl W.g_4 W.F_4.kp W.b_4 (zac (dv 1) (zac (dv 5) zag))) (zf1 (zb6 (zbi hu) zbh (DE.db (dv 3)) (DE.db (zbp (zvw W) (hr.mono (by decide)) rfl W.g_8 W.F_8.kp W.b_8 (zac (zah (dvC 0) zae) (zac (zah (dvC 1) (dv 5)) zag))))))))))))))
theorem zyk {a : Wa} (W : Wd K mg a) : zax P w K mg base CX0 9 a.f_47 a.fd_47 ["plain","worlds","bars","sheet","step"] (spD ⟨K,cl a⟩ ["plain","worlds","bars","sheet","step"].length zri) :=
 zbt (k:=8) (N:=["plain","worlds","bars","sheet","step","pair"]) (F:=b_47) W.F_47 zv5 fun cdv A outer s H E hr=>by
  unfold b_47
  exact (zaj (zb5 5 zv5.nd (zah (dvC 4) zae))
  (zaj (zbg (za1 zdu zdz (DE.db (dv 5)) (DE.db zed)) (zan (zaw (zbp (zr5 W) (hr.mono (by decide)) rfl W.g_13 W.F_13.kp W.b_13 (zac (dv 0) (zac (dv 1) (zac (dv 2) (zac (dv 3) (zac (zah (dvC 4) zae) zag)))))))) zbj)
  (zaj (zbg (za1 zf4 zfz (DE.db (zah (dvC 3) (zah (dvC 5) zae))) (DE.db zed)) (zan (zaw zby)) zbj)
  (zan (zaw (zbp (zr5 W) (hr.mono (by decide)) rfl W.g_13 W.F_13.kp W.b_13 (zac (dv 0) (zac (dv 1) (zac (dv 2) (zac (zbp (zxu W) (hr.mono (by decide)) rfl W.g_44 W.F_44.kp W.b_44 (zac (dv 3) (zac (zah (dvC 5) zae) (zac (zgr (zah (dvC 5) zae)) zag)))) (zac (zah (dvC 4) zae) zag)))))))))))
theorem z06 {a : Wa} (W : Wd K mg a) : zax P w K mg base CX0 10 a.f_33 a.fd_33 ["plain","worlds","bars","sheet","steps"] (spD ⟨K,cl a⟩ ["plain","worlds","bars","sheet","steps"].length zp6) :=
 zbt (k:=9) (N:=["plain","worlds","bars","sheet","steps","after","place","step","ends"]) (F:=b_33) W.F_33 zma fun cdv A outer s H E hr=>have hu:=hr.units; by
  unfold b_33
  exact (zaj (zfq 5 zma.nd (zhb boot_list rfl W.z_list (dvC 3)))
  (zaj (zd5 PassesOwn.never rfl (z2w rfl W.z_enumerate (dv 4)) (zck rfl (zbc (zcc 6 9 zma.nd) (zbc (zcc 7 9 zma.nd) zcm))) (zaj (zb5 8 zma.nd (zb6 zdu zdz (DE.db (zah (dvC 7) zae)) (DE.db zed)))
  (zaj (zbg (za1 (zg3 hu) zgz (DE.db (dv 8)) (DE.db (zb6 (zbi hu) zbh (DE.db (dv 6)) (DE.db (zb3 zc6 zda rfl W.z_len PySem.boot_len (zbb (DE.db (dv 4)) zbx)))))) (zan (zaw zby)) zbj)
  (zaj (zbg (ze4 (zcy (DE.db (zm8 (zyk W) (hr.mono (by decide)) rfl W.g_47 W.F_47.kp W.b_47 (zbb (DE.db (dv 0)) (zbb (DE.db (dv 1)) (zbb (DE.db (dv 2)) (zbb (dvB 5) (zbb (DE.db (dv 7)) zbx))))))))) (zan (zaw zby)) zbj)
  (zan (zbg (ze4 (zcy (DE.db (dv 8)))) (zan (zim (pv 5) (zah (DE.dc (zah (dvC 7) zae)) zae) (zah (DE.dc (zah (dvC 7) zae)) zae))) zbj))))))
  (zan (zaw (zb6 zi7 zkh (DE.db (zb3 zc6 zda rfl W.z_len PySem.boot_len (zbb (DE.db (dv 4)) zbx))) (DE.db zae))))))
theorem z2i {a : Wa} (W : Wd K mg a) : zax P w K mg base CX0 11 a.f_40 a.fd_40 ["plain","worlds","bars","line"] (spD ⟨K,cl a⟩ ["plain","worlds","bars","line"].length zrx) :=
 zbt (k:=10) (N:=["plain","worlds","bars","line","bar","things"]) (F:=b_40) W.F_40 zo9 fun cdv A outer s H E hr=>by
  unfold b_40
  exact (zaj (zb5 4 zo9.nd (zah (dvC 3) zae))
  (zaj (zgi 5 2 [] ["thing","truth"] zo9.nd rfl (DI.de (zb2 (dv 4))) (fun _ _ _ _ _=>(zck rfl (zbc (dgc 0 2) (zbc (dgc 1 2) zcm)))) (fun _ _ _ _ _=>zcl) (fun _ _ _ _ _=>(dvc 0)))
  (zaj (zbg (za1 zhs zhr (DE.db (z3h rfl rfl W.z_len rfl W.z_set (dv 5))) (DE.db (zb3 zc6 zda rfl W.z_len PySem.boot_len (zbb (DE.db (dv 5)) zbx)))) (zan (zaw zby)) zbj)
  (zan (zaw (zbp (z06 W) (hr.mono (by decide)) rfl W.g_33 W.F_33.kp W.b_33 (zac (dv 0) (zac (dv 1) (zac (dv 2) (zac (zbp (zxz W) (hr.mono (by decide)) rfl W.g_32 W.F_32.kp W.b_32 (zac (zah (dvC 0) zae) (zac (dv 4) zag))) (zac (zah (dvC 3) zae) zag)))))))))))
theorem z88 {a : Wa} (W : Wd K mg a) : zax P w K mg base CX0 12 a.f_41 a.fd_41 ["plain","worlds","paper"] (spD ⟨K,cl a⟩ ["plain","worlds","paper"].length zqo) :=
 zbt (k:=11) (N:=["plain","worlds","paper","bars","line"]) (F:=b_41) W.F_41 zqe fun cdv A outer s H E hr=>have hu:=hr.units; by
  unfold b_41
  exact (zaj (zfq 3 zqe.nd (zbz zag))
  (zaj (zd5 PassesOwn.never rfl (zb2 (dv 2)) (zcc 4 5 zqe.nd) (zaj (zbg (ze4 (zcy (DE.db (zm8 (z2i W) (hr.mono (by decide)) rfl W.g_40 W.F_40.kp W.b_40 (zbb (DE.db (dv 0)) (zbb (DE.db (dv 1)) (zbb (dvB 3) (zbb (DE.db (dv 4)) zbx)))))))) (zan (zaw zby)) zbj)
  (zan (zhe (ze7 (zfi PySem.F.plainAttrs_list PySem.F.slot_list_append PySem.F.type_list_append zgn (pv 3) (zdr (zah (dvC 4) zae) zee)))))))
  (zan (zg8 3 (zaw (zfu (zb6 zi7 zkh (DE.db (zb3 zc6 zda rfl W.z_len PySem.boot_len (zbb (DE.db (dv 3)) zbx))) (DE.db zae)) (zf1 (zb6 (zbi hu) zbh (DE.db (zb3 zc6 zda rfl W.z_len PySem.boot_len (zbb (DE.db (zah (dvC 3) (zgj zae))) zbx))) (DE.db zae)))))))))
theorem z1t {a : Wa} (W : Wd K mg a) : zax P w K mg base CX0 13 a.f_39 a.fd_39 ["_law_many","_law_rules","_law_sets","_law_lines"] (spD ⟨K,cl a⟩ ["_law_many","_law_rules","_law_sets","_law_lines"].length zp7) :=
 zbt (k:=12) (N:=["_law_many","_law_rules","_law_sets","_law_lines","_law_handed","_law_mine","_law_found"]) (F:=b_39) W.F_39 zmv fun cdv A outer s H E hr=>have hu:=hr.units; by
  unfold b_39
  exact (zaj (zb5 4 zmv.nd (DO.de (zbz (zac (zbu (zac (dv 0) (zac (zbp (z56 W) (hr.mono (by decide)) rfl W.g_9 W.F_9.kp W.b_9 (zac (dv 1) zag)) zag))) (zac (DO.de (zca 1 [] ["_law_one"] rfl (DI.de (zb2 (dv 2))) (fun _ _ _ _ _=>(dgc 0 1)) (fun _ _ _ _ _=>zcl) (fun _ _ _ _ _=>(DO.de (zhb boot_list (glc rfl) W.z_list (zc8 0)))))) zag)))))
  (zaj (zgi 5 2 [] ["_law_bar","_law_steps"] zmv.nd rfl (DI.de (zb2 (dv 3))) (fun _ _ _ _ _=>(zck rfl (zbc (dgc 0 2) (zbc (dgc 1 2) zcm)))) (fun _ _ _ _ _=>zcl) (fun _ _ _ _ _=>(zbu (zac (DO.de (zhb boot_list (glc rfl) W.z_list (zc8 0))) (zac (zbp (z0b W) (hr.mono (by decide)) (glc rfl) W.g_37 W.F_37.kp W.b_37 (zac (dvc 1) zag)) zag)))))
  (zaj (zb5 6 zmv.nd (zbp (z88 W) (hr.mono (by decide)) rfl W.g_41 W.F_41.kp W.b_41 (zac (zah (dvC 4) zae) (zac (zah (dvC 4) zae) (zac (dv 5) zag)))))
  (zaj (zbg (DW.dt (zgd (ze4 (zcy (DE.db (zw9 (T:="bool") (z7h W) rfl W.z_isinstance boot_bool rfl W.z_bool (DE.db (dv 6)))))) (zgk (za1 (zg3 hu) zgz (DE.db (dv 6)) (DE.db (zbp (zym W) (hr.mono (by decide)) rfl W.g_38 W.F_38.kp W.b_38 (zac (dv 0) (zac (dv 1) (zac (dv 2) (zac (dv 3) zag)))))))))) (zan (zaw zby)) zbj)
  (zan (zaw (zfu (zb6 (zbi hu) zbh (DE.db (dv 4)) (DE.db (DO.de (zbz (zac (zbu (zac (dv 0) (zac (dv 1) zag))) (zac (dv 2) zag)))))) (zf1 (zb6 (zbi hu) zbh (DE.db (dv 5)) (DE.db (dv 3)))))))))))
theorem zlu {a : Wa} (W : Wd K mg a) : zax P w K mg base CX0 1 a.f_0 a.fd_0 ["_law_cell","_law_many"] (spD ⟨K,cl a⟩ ["_law_cell","_law_many"].length m_0) :=
 zbt (k:=0) (N:=["_law_cell","_law_many","_law_found","_law_number","_law_k"]) (F:=b_0) W.F_0 zlb fun cdv A outer s H E hr=>by
  unfold b_0
  exact (zaj (zfq 2 zlb.nd (zbz zag))
  (zaj (zb5 3 zlb.nd (zay zdo (zay zf3 (zay zb9 (dv 0) zae) zae) zae))
  (zaj (zd5 PassesOwn.never rfl (zev rfl W.z_range (zac (dv 1) zag)) (zcc 4 5 zlb.nd) (zaj (zb5 3 zlb.nd (zay zb9 (zay zdo (zay zdo (zay zf3 (dv 3) (zay zdo (dv 3) zae)) (zay zf3 zae (dv 4))) zae) zae))
  (zan (zhe (ze7 (zfi PySem.F.plainAttrs_list PySem.F.slot_list_append PySem.F.type_list_append zgn (pv 2) (zdr (dv 3) zee)))))))
  (zan (zg2 2)))))
theorem zwu {a : Wa} (W : Wd K mg a) : zax P w K mg base CX0 2 a.f_10 a.fd_10 ["_law_cell","_law_rules","_law_sets","_law_lines","_law_sheet"] (spM ⟨K,cl a⟩ 3 ["_law_cell","_law_rules","_law_sets","_law_lines","_law_sheet"].length zmu) :=
 ztb (k:=1) (N:=["_law_cell","_law_rules","_law_sets","_law_lines","_law_sheet","_law_xs","_law_word"]) (F:=b_10) W.F_10 zqt fun cdv A outer s H E hr=>have hu:=hr.units; by
  unfold b_10
  exact (zaj (zb5 5 zqt.nd (zbp (zlu W) (hr.mono (by decide)) rfl W.g_0 W.F_0.kp W.b_0 (zac (dv 0) (zac zae zag))))
  (zaj (zb5 6 zqt.nd (zah (DO.dc (zbz (zac zbq (zac zbq (zac zbq (zac zbq zag)))))) (zay zb9 (zah (dvC 5) zae) zae)))
  (zaj (zbg (za1 (zbi hu) zbh (DE.db (dv 6)) (DE.db zbq)) (zan (zuz (zbu (zac (dv 6) (zac (DO.de (zca 2 [5] ["_law_thing","_law_entry","_law_xs"] rfl (DI.de (zio rfl W.z_enumerate (zac (dv 4) zag))) (fun _ _ _ _ _=>(zck rfl (zbc (dgc 0 2) (zbc (dgc 1 2) zcm)))) (fun _ _ _ _ _=>(zdw (DW.dt (zgd (za1 zdu zdz (DE.db (dvc 1)) (DE.db zby)) (zgk (za1 (zbi hu) zbh (DE.db (zay zb9 (zay zho (zah (zc8 2) zae) (zay zdo (dvc 0) zae)) zae)) (DE.db zae))))))) (fun _ _ _ _ _=>(dvc 0)))) zag))))) zbj)
  (zan (zuz (zbu (zac (dv 6) (zac (zay zb9 (zah (dvC 5) zae) (zay zdo zae (z7a "rule" "bar" "world" hu (zb3 zc6 zda rfl W.z_len PySem.boot_len (zbb (DE.db (dv 1)) zbx)) (zb3 zc6 zda rfl W.z_len PySem.boot_len (zbb (zou 3) zbx)) (zb3 zc6 zda rfl W.z_len PySem.boot_len (zbb (DE.db (dv 2)) zbx)) (dv 6) (fun _ _=>rfl) (fun _ _ _=>rfl) (fun _ _ _=>rfl) (fun _ _ _=>rfl)))) zag))))))))
theorem z0o {a : Wa} (W : Wd K mg a) : zax P w K mg base CX0 3 a.f_14 a.fd_14 ["_law_rules","_law_sheet"] (spD ⟨K,cl a⟩ ["_law_rules","_law_sheet"].length zq1) :=
 zbt (k:=2) (N:=["_law_rules","_law_sheet","_law_left","_law_going","_law_rule_here"]) (F:=b_14) W.F_14 zjx fun cdv A outer s H E hr=>by
  unfold b_14
  exact (zaj (znt 2 1 [] ["_law_entry"] zjx.nd rfl (DI.de (zb2 (dv 1))) (fun _ _ _ _ _=>(dgc 0 1)) (fun _ _ _ _ _=>zcl) (fun _ _ _ _ _=>(zb6 zf4 zfz (DE.db (dvc 0)) (DE.db zby))))
  (zaj (zb5 3 zjx.nd zby)
  (zaj (z7y 1000000000 PassesOwn.never (zcy (DE.db (dv 3))) (zaj (zb5 3 zjx.nd zby)
  (zan (zd5 PassesOwn.never rfl (zb2 (dv 0)) (zcc 4 5 zjx.nd) (zan (zbg (zcy (DE.db (zm8 (zvk W) (hr.mono (by decide)) rfl W.g_22 W.F_22.kp W.b_22 (zbb (DE.db (dv 4)) (zbb (DE.db (dv 1)) (zbb (dvB 2) zbx)))))) (zaj (zim (pv 2) (zah (dvC 4) zae) zby)
  (zan (zb5 3 zjx.nd zby))) zbj))))))
  (zan (zg2 2)))))
theorem z8s {a : Wa} (W : Wd K mg a) : zax P w K mg base CX0 4 a.f_23 a.fd_23 ["_law_rules","_law_sets","_law_bars","_law_sheet"] (spD ⟨K,cl a⟩ ["_law_rules","_law_sets","_law_bars","_law_sheet"].length zrh) :=
 zbt (k:=3) (N:=["_law_rules","_law_sets","_law_bars","_law_sheet","_law_found","_law_left","_law_mine"]) (F:=b_23) W.F_23 zn3 fun cdv A outer s H E hr=>by
  unfold b_23
  exact (zaj (znt 4 2 [3] ["_law_k","_law_rule_here","_law_sheet"] zn3.nd rfl (DI.de (zio rfl W.z_enumerate (zac (dv 0) zag))) (fun _ _ _ _ _=>(zck rfl (zbc (dgc 0 2) (zbc (dgc 1 2) zcm)))) (fun _ _ _ _ _=>(zdw (zcy (DE.db (zbp (zoq W) (hr.mono (by decide)) (glc rfl) W.g_6 W.F_6.kp W.b_6 (zac (dvc 1) (zac (dvc 2) zag))))))) (fun _ _ _ _ _=>(zbu (zac zbq (zac (dvc 0) zag)))))
  (zaj (zvf (ze7 (zfi PySem.F.plainAttrs_list PySem.F.slot_list_extend PySem.F.type_list_extend ztd (pv 4) (zdr (DO.de (zca 2 [3] ["_law_k","_law_bar","_law_sheet"] rfl (DI.de (zio rfl W.z_enumerate (zac (dv 2) zag))) (fun _ _ _ _ _=>(zck rfl (zbc (dgc 0 2) (zbc (dgc 1 2) zcm)))) (fun _ _ _ _ _=>(zdw (zcy (DE.db (zbp (zve W) (hr.mono (by decide)) (glc rfl) W.g_35 W.F_35.kp W.b_35 (zac (dvc 2) (zac (dvc 1) zag))))))) (fun _ _ _ _ _=>(zbu (zac zbq (zac (dvc 0) zag)))))) zee))))
  (zaj (zvf (ze7 (zfi PySem.F.plainAttrs_list PySem.F.slot_list_extend PySem.F.type_list_extend ztd (pv 4) (zdr (DO.de (zca 1 [0,1,2,3] ["_law_k","_law_rules","_law_sets","_law_bars","_law_sheet"] rfl (DI.de (zev rfl W.z_range (zac (zb3 zc6 zda rfl W.z_len PySem.boot_len (zbb (DE.db (dv 1)) zbx)) zag))) (fun _ _ _ _ _=>(dgc 0 1)) (fun _ _ _ _ _=>(zdw (zcy (DE.db (zbp (zra W) (hr.mono (by decide)) (glc rfl) W.g_3 W.F_3.kp W.b_3 (zac (dvc 1) (zac (dvc 2) (zac (dvc 3) (zac (dvc 4) (zac (zbu (zac zbq (zac (dvc 0) zag))) zag)))))))))) (fun _ _ _ _ _=>(zbu (zac zbq (zac (dvc 0) zag)))))) zee))))
  (zaj (zb5 5 zn3.nd (zbp (z0o W) (hr.mono (by decide)) rfl W.g_14 W.F_14.kp W.b_14 (zac (dv 0) (zac (dv 3) zag))))
  (zaj (zgi 6 2 [] ["_law_thing","_law_gone"] zn3.nd rfl (DI.de (zio rfl W.z_enumerate (zac (dv 5) zag))) (fun _ _ _ _ _=>(zck rfl (zbc (dgc 0 2) (zbc (dgc 1 2) zcm)))) (fun _ _ _ _ _=>(zdw (zcy (DE.db (dvc 1))))) (fun _ _ _ _ _=>(dvc 0)))
  (zaj (zbg (zcy (DE.db (zb3 (zhk rfl) zhx rfl W.z_any boot_any (zbb (DE.db (DO.de (zca 1 [3] ["_law_thing","_law_sheet"] rfl (DI.de (zb2 (dv 6))) (fun _ _ _ _ _=>(dgc 0 1)) (fun _ _ _ _ _=>zcl) (fun _ _ _ _ _=>(zb6 zdu zdz (DE.db (zah (zc8 1) (dvc 0))) (DE.db zby)))))) zbx)))) (zan (zhe (ze7 (zfi PySem.F.plainAttrs_list PySem.F.slot_list_append PySem.F.type_list_append zgn (pv 4) (zdr (zbu (zac zbq (zac (dv 6) zag))) zee))))) zbj)
  (zan (zg2 4))))))))
theorem zrb {a : Wa} (W : Wd K mg a) : ∀ j,zax P w K mg base CX0 (5 + j) a.f_1 a.fd_1 ["_law_rules","_law_sets","_law_sheet","_law_bar","_law_lines","_law_cell"] (spM ⟨K,cl a⟩ 4 ["_law_rules","_law_sets","_law_sheet","_law_bar","_law_lines","_law_cell"].length (m_1 j))
 | 0=>zzl (k:=4) (N:=["_law_rules","_law_sets","_law_sheet","_law_bar","_law_lines","_law_cell","_law_xs","_law_thing","_law_things","_law_whys_here","_law_truth","_law_one"]) W.F_1 zgy
 | j + 1=>ztb (k:=5 + j) (N:=["_law_rules","_law_sets","_law_sheet","_law_bar","_law_lines","_law_cell","_law_xs","_law_thing","_law_things","_law_whys_here","_law_truth","_law_one"]) (F:=b_1 (m_1 j)) W.F_1 zgy fun cdv A outer s H E hr=>have hu:=hr.units; by
  unfold b_1
  exact (zaj (zb5 6 zgy.nd (zbp (zlu W) (hr.mono (by omega)) rfl W.g_0 W.F_0.kp W.b_0 (zac (dv 5) (zac zae zag))))
  (zaj (zgi 8 2 [] ["_law_thing","_law_entry"] zgy.nd rfl (DI.de (zio rfl W.z_enumerate (zac (dv 2) zag))) (fun _ _ _ _ _=>(zck rfl (zbc (dgc 0 2) (zbc (dgc 1 2) zcm)))) (fun _ _ _ _ _=>(zdw (za1 zdu zdz (DE.db (dvc 1)) (DE.db zed)))) (fun _ _ _ _ _=>(dvc 0)))
  (zaj (zb5 9 zgy.nd (zbp (z8s W) (hr.mono (by omega)) rfl W.g_23 W.F_23.kp W.b_23 (zac (dv 0) (zac (dv 1) (zac (DO.de (zca 1 [] ["_law_line"] rfl (z73 4) (fun _ _ _ _ _=>(dgc 0 1)) (fun _ _ _ _ _=>zcl) (fun _ _ _ _ _=>(zah (zc8 0) zae)))) (zac (dv 2) zag))))))
  (zan (zbg (DW.dt (zgd (za1 (zbi hu) zbh (DE.db (dv 8)) (DE.db (DO.de (zbz zag)))) (zgk (DW.dt (zfh (za1 (zg3 hu) zgz (DE.db (dv 9)) (DE.db (DO.de (zbz zag)))) (zgo (za1 zi7 zkh (DE.db (zay zb9 (zah (dvC 6) zae) zae)) (DE.db zae)))))))) (zaj (zbg (za1 (zbi hu) zbh (DE.db (dv 9)) (DE.db (DO.de (zbz zag)))) (zan (z10 9 zgy.nd (zq0 (zwu W) (hr.mono (by omega)) rfl W.g_10 W.F_10.kp W.b_10 (zeq (zah (dvC 6) zae) (zeq (dv 0) (zeq (dv 1) (zob 4 (zac (dv 2) zag)))))))) zbj)
  (zan (ztu (ze7 (zfi PySem.F.plainAttrs_list PySem.F.slot_list_append PySem.F.type_list_append zgn (pv 4) (zdr (zbu (zac (dv 3) (zac (DO.de (zbz (zac (zbu (zac zed (zac (zah (dvC 9) (zay zb9 (zah (dvC 6) zae) (zb3 zc6 zda rfl W.z_len PySem.boot_len (zbb (DE.db (dv 9)) zbx)))) zag))) zag))) zag))) zee)))))) (zaj (zb5 7 zgy.nd (zah (dvC 8) (zay zb9 (zah (dvC 6) zae) (zb3 zc6 zda rfl W.z_len PySem.boot_len (zbb (DE.db (dv 8)) zbx)))))
  (zaj (zb5 10 zgy.nd (zb6 (zbi hu) zbh (DE.db (zay zb9 (zah (dvC 6) zae) zae)) (DE.db zae)))
  (zaj (zpz (zq0 (zrb W j) hr rfl W.g_1 W.F_1.kp W.b_1 (zeq (dv 0) (zeq (dv 1) (zeq (zbp (zoj W) (hr.mono (by omega)) rfl W.g_7 W.F_7.kp W.b_7 (zac (dv 2) (zac (dv 7) (zac (dv 10) zag)))) (zeq (DO.de (zds (dv 3) (DO.de (zbz (zac (zbu (zac (dv 7) (zac (dv 10) zag))) zag))))) (zob 4 (zac (zah (dvC 6) zae) zag))))))))
  (zaj (zb5 11 zgy.nd (zay znw (zb3 zc6 zda rfl W.z_len PySem.boot_len (zbb (zou 4) zbx)) zae))
  (zaj (zpz (zq0 (zrb W j) hr rfl W.g_1 W.F_1.kp W.b_1 (zeq (dv 0) (zeq (dv 1) (zeq (zbp (zoj W) (hr.mono (by omega)) rfl W.g_7 W.F_7.kp W.b_7 (zac (dv 2) (zac (dv 7) (zac (zgr (dv 10)) zag)))) (zeq (DO.de (zds (dv 3) (DO.de (zbz (zac (zbu (zac (dv 7) (zac (zgr (dv 10)) zag))) zag))))) (zob 4 (zac (zah (dvC 6) zae) zag))))))))
  (zan (ztu (ze7 (zfi PySem.F.plainAttrs_list PySem.F.slot_list_append PySem.F.type_list_append zgn (pv 4) (zdr (zbu (zac (dv 3) (zac (DO.de (zbz (zac (zbu (zac (zbu (zac (dv 7) (zac (zgr (dv 10)) zag))) (zac (zbu (zac zbq (zac (dv 11) zag))) zag))) (zac (zbu (zac zed (zac (zbu (zac zbq (zac (zay znw (zb3 zc6 zda rfl W.z_len PySem.boot_len (zbb (zou 4) zbx)) zae) zag))) zag))) zag)))) zag))) zee)))))))))))))))
theorem zrq {a : Wa} (W : Wd K mg a) : zax P w K mg base CX0 1 a.f_5 a.fd_5 ["_law_script","_law_k"] (spD ⟨K,cl a⟩ ["_law_script","_law_k"].length m_5) :=
 zbt (k:=0) (N:=["_law_script","_law_k"]) (F:=b_5) W.F_5 z03 fun cdv A outer s H E hr=>by
  unfold b_5
  exact (zaj (zbg (za1 zhs zhr (DE.db (dv 1)) (DE.db (zb3 zc6 zda rfl W.z_len PySem.boot_len (zbb (DE.db (dv 0)) zbx)))) (zan (zaw (zah (dvC 0) (dv 1)))) zbj)
  (zan (zaw zae)))
theorem z5s {a : Wa} (W : Wd K mg a) : zax P w K mg base CX0 1 a.f_21 a.fd_21 ["_law_kind","_law_many"] (spO ⟨K,cl a⟩ ["_law_kind","_law_many"].length zo2) :=
 zuo (k:=0) (N:=["_law_kind","_law_many","_law_rules","_law_k","_law_on","_law_part_here"]) (F:=b_21) W.F_21 zmj fun cdv A outer s H E hr=>by
  unfold b_21
  exact (zaj (zfq 2 zmj.nd (zbz zag))
  (zaj (zd5 PassesOwn.never rfl (zev rfl W.z_range (zac (dv 1) zag)) (zcc 3 6 zmj.nd) (zaj (zb5 4 zmj.nd (zay zb9 (zay zdo (dv 3) zae) (dv 1)))
  (zaj (zb5 5 zmj.nd (zah (DO.dc (zbz (zac zed (zac (zbu (zac zbq (zac (dv 3) zag))) (zac (zbu (zac zbq (zac (dv 3) zag))) (zac (zbu (zac zbq (zac zae (zac (DO.de (zbz (zac (zbu (zac (dv 3) (zac zae zag))) (zac (zbu (zac (dv 4) (zac zae zag))) zag)))) zag)))) (zac (zbu (zac zbq (zac zae (zac (DO.de (zbz (zac (zbu (zac (dv 3) (zac zae zag))) zag))) zag)))) zag))))))) (dv 0)))
  (zan (zbg (za1 zf4 zfz (DE.db (dv 5)) (DE.db zed)) (zan (zhe (ze7 (zfi PySem.F.plainAttrs_list PySem.F.slot_list_append PySem.F.type_list_append zgn (pv 2) (zdr (zbu (zac (zah (DO.dc (zbz (zac zbq (zac zbq zag)))) (zay zho (zay zb9 (zay zf3 (dv 3) (dv 0)) zae) zae)) (zac (dv 4) (zac (DO.de (zbz (zac (dv 5) zag))) zag)))) zee))))) zbj)))))
  (zan (zg2 2))))
theorem z8x {a : Wa} (W : Wd K mg a) : zax P w K mg base CX0 1 a.f_42 a.fd_42 ["_law_x"] (spD ⟨K,cl a⟩ ["_law_x"].length zl8) :=
 zbt (k:=0) (N:=["_law_x"]) (F:=b_42) W.F_42 zx8 fun cdv A outer s H E hr=>have hu:=hr.units; by
  unfold b_42
  exact (zaj (zbg (za1 (zbi hu) zbh (DE.db (zay zb9 (dv 0) zae)) (DE.db zae)) (zan (zaw (zay zb9 (zay zf3 (zay zf3 (zay zf3 (dv 0) (dv 0)) (dv 0)) (dv 0)) (zay z1i zae zae)))) zbj)
  (zan (zaw (zah (DO.dc (zbz (zac zae (zac zae (zac zae (zac zae (zac zae (zac zae (zac zae (zac zae zag)))))))))) (zay zb9 (zay zho (dv 0) zae) zae)))))
theorem z2v {a : Wa} (W : Wd K mg a) : zax P w K mg base CX0 2 a.f_34 a.fd_34 ["_law_xs","_law_many"] (spD ⟨K,cl a⟩ ["_law_xs","_law_many"].length zm2) :=
 zbt (k:=1) (N:=["_law_xs","_law_many","_law_word","_law_items","_law_near"]) (F:=b_34) W.F_34 zmy fun cdv A outer s H E hr=>have hu:=hr.units; by
  unfold b_34
  exact (zaj (zb5 2 zmy.nd (zah (DO.dc (zbz (zac zbq (zac zbq (zac zbq (zac zbq (zac zbq zag))))))) (zay zb9 (zah (dvC 0) zae) zae)))
  (zaj (zbg (DW.dt (zgd (za1 (zbi hu) zbh (DE.db (dv 2)) (DE.db zbq)) (zgk (za1 (zbi hu) zbh (DE.db (dv 2)) (DE.db zbq))))) (zan (zaw (zbu (zac (dv 2) (zac (zay zb9 (zah (dvC 0) zae) (dv 1)) zag))))) zbj)
  (zaj (zgi 3 1 [1,0] ["_law_k","_law_many","_law_xs"] zmy.nd rfl (DI.de (zev rfl W.z_range (zac (zay zb9 (zah (dvC 0) zae) zae) zag))) (fun _ _ _ _ _=>(dgc 0 1)) (fun _ _ _ _ _=>zcl) (fun _ _ _ _ _=>(zbu (zac (zay zb9 (zah (zc8 2) (zay zdo zae (zay zf3 zae (dvc 0)))) (dvc 1)) (zac (zbp (z8x W) (hr.mono (by decide)) (glc rfl) W.g_42 W.F_42.kp W.b_42 (zac (zah (zc8 2) (zay zdo zae (zay zf3 zae (dvc 0)))) zag)) zag)))))
  (zaj (zb5 4 zmy.nd (zb3 (zgs rfl) zg4 rfl W.z_sum boot_sum (zbb (DE.db (DO.de (zca 2 [] ["_law_thing","_law_worth_here"] rfl (DI.de (zb2 (DO.de (by refine zc4 ?a ?b ?c; (case a=>exact (dv 3)); (case b=>exact zdg); (case c=>exact (zcu (zay zb9 (zah (dvC 0) zae) zae))))))) (fun _ _ _ _ _=>(zck rfl (zbc (dgc 0 2) (zbc (dgc 1 2) zcm)))) (fun _ _ _ _ _=>zcl) (fun _ _ _ _ _=>(dvc 1))))) zbx)))
  (zan (zaw (zbu (zac (dv 2) (zac (zay znw (zay zdo (dv 4) (zay zb9 (zay zho (zah (dvC 0) zae) zae) zae)) zae) (zac (dv 3) zag))))))))))
theorem zz6 {a : Wa} (W : Wd K mg a) : zax P w K mg base CX0 3 a.f_43 a.fd_43 ["_law_cell","_law_many","_law_calm"] (spD ⟨K,cl a⟩ ["_law_cell","_law_many","_law_calm"].length zqb) :=
 zbt (k:=2) (N:=["_law_cell","_law_many","_law_calm","_law_xs","_law_parts"]) (F:=b_43) W.F_43 zrf fun cdv A outer s H E hr=>have hu:=hr.units; by
  unfold b_43
  refine (zaj (zb5 3 zrf.nd (zbp (zlu W) (hr.mono (by decide)) rfl W.g_0 W.F_0.kp W.b_0 (zac (dv 0) (zac zae zag))))
  (zaj (zbg (za1 (zbi hu) zbh (DE.db (dv 1)) (DE.db zae)) ?hole0 zbj)
  (zaj (zgi 4 1 [1,3] ["_law_k","_law_many","_law_xs"] zrf.nd rfl (DI.de (zev rfl W.z_range (zac (zah (DO.dc (zbz (zac zae (zac zae (zac zae (zac zae (zac zae (zac zae zag)))))))) (zay zb9 (zah (dvC 3) zae) zae)) zag))) (fun _ _ _ _ _=>(dgc 0 1)) (fun _ _ _ _ _=>zcl) (fun _ _ _ _ _=>(zbp (z2v W) (hr.mono (by decide)) (glc rfl) W.g_34 W.F_34.kp W.b_34 (zac (DO.de (by refine zc4 ?a ?b ?c; (case a=>exact (dvc 2)); (case b=>exact (zcu (zay zdo zae (zay zf3 zae (dvc 0))))); (case c=>exact (zcu (zay zdo zae (zay zf3 zae (dvc 0))))))) (zac (dvc 1) zag)))))
  (zaj (zbg (DW.dt (zfh (za1 (zbi hu) zbh (DE.db (zay zb9 (zah (dvC 3) zae) zae)) (DE.db zae)) (zfh (ze4 (zcy (DE.db (dv 2)))) (zgo (DW.dt (zgd (za1 (zg3 hu) zgz (DE.db (dv 4)) (DE.db (DO.de (zbz zag)))) (zgk (za1 (zbi hu) zbh (DE.db (zay zb9 (zah (dvC 3) zae) zae)) (DE.db zae))))))))) (zan (zaw (zbu (zac zbq (zac zed (zac (dv 4) zag)))))) zbj)
  (zan (zaw (zbu (zac (zah (DO.dc (zbz (zac zbq (zac zbq zag)))) (zay zb9 (zay zho (zah (dvC 3) zae) zae) zae)) (zac (zay zb9 (zay zho (zah (dvC 3) zae) zae) (dv 1)) (zac (dv 4) zag))))))))))
  (case hole0=>refine zan ?_; refine zaw ?_; refine zbu ?_; refine zac ?_ ?_; (focus exact zbq); refine zac ?_ ?_; (focus exact zed); refine zac ?_ ?_; (focus (refine DO.de ?_; exact (by refine zc4 ?a ?b ?c; (case a=>exact (DO.de (zbz (zac (zbu (zac (zah (DO.dc (zbz (zac zbq (zac zbq zag)))) (zay zb9 (zah (dvC 3) zae) zae)) (zac (zay znw (zay zb9 (zah (dvC 3) zae) zae) zae) (zac (DO.de (zbz zag)) zag)))) zag)))); (case b=>exact zdg); (case c=>exact (zcu (zay zb9 (zah (dvC 3) zae) zae)))))); exact zag)
theorem z8t {a : Wa} (W : Wd K mg a) : zax P w K mg base CX0 1 a.f_12 a.fd_12 ["_law_line","_law_x"] (spD ⟨K,cl a⟩ ["_law_line","_law_x"].length zpp) :=
 zbt (k:=0) (N:=["_law_line","_law_x","_law_bar","_law_steps","_law_at","_law_pair","_law_why"]) (F:=b_12) W.F_12 zhh fun cdv A outer s H E hr=>have hu:=hr.units; by
  unfold b_12
  refine (zaj (zlw (dv 0) (zck rfl (zbc (zcc 2 7 zhh.nd) (zbc (zcc 3 7 zhh.nd) zcm))))
  (zaj (zb5 4 zhh.nd (zay zb9 (dv 1) (zb3 zc6 zda rfl W.z_len PySem.boot_len (zbb (DE.db (dv 3)) zbx))))
  (zaj (zlw (zah (dvC 3) (dv 4)) (zck rfl (zbc (zcc 5 7 zhh.nd) (zbc (zcc 6 7 zhh.nd) zcm))))
  (zaj (zbg (za1 (zbi hu) zbh (DE.db (zah (dvC 6) zae)) (DE.db zbq)) (zan (zb5 6 zhh.nd (zbu (zac zbq (zac (DO.de (by refine zc4 ?a ?b ?c; (case a=>exact (zah (dvC 6) zae)); (case b=>exact (zcu zae)); (case c=>exact zdg))) zag))))) (zan (zb5 6 zhh.nd (zbu (zac (zah (dvC 6) zae) (zac (zay zdo (zah (dvC 6) zae) zae) zag))))))
  ?hole0))))
  (case hole0=>refine zan ?_; refine zaw ?_; refine zbu ?_; refine zac ?_ ?_; (focus exact (dv 2)); refine zac ?_ ?_; (focus (refine DO.de ?_; exact (zds (DO.de (zds (DO.de (by refine zc4 ?a ?b ?c; (case a=>exact (dv 3)); (case b=>exact zdg); (case c=>exact (zcu (dv 4))))) (DO.de (zbz (zac (zbu (zac (dv 5) (zac (dv 6) zag))) zag))))) (DO.de (by refine zc4 ?a ?b ?c; (case a=>exact (dv 3)); (case b=>exact (zcu (zay zdo (dv 4) zae))); (case c=>exact zdg)))))); exact zag)
theorem z83 {a : Wa} (W : Wd K mg a) : zax P w K mg base CX0 2 a.f_15 a.fd_15 ["_law_sets","_law_lines","_law_cell","_law_many"] (spD ⟨K,cl a⟩ ["_law_sets","_law_lines","_law_cell","_law_many"].length zp5) :=
 zbt (k:=1) (N:=["_law_sets","_law_lines","_law_cell","_law_many","_law_xs","_law_way","_law_at","_law_thing","_law_mine"]) (F:=b_15) W.F_15 zis fun cdv A outer s H E hr=>have hu:=hr.units; by
  unfold b_15
  refine (zaj (zb5 4 zis.nd (zbp (zlu W) (hr.mono (by decide)) rfl W.g_0 W.F_0.kp W.b_0 (zac (dv 2) (zac zae zag))))
  (zaj (zb5 5 zis.nd (zay zb9 (zah (dvC 4) zae) zae))
  (zaj (zb5 6 zis.nd (zay zb9 (zah (dvC 4) zae) (zb3 zc6 zda rfl W.z_len PySem.boot_len (zbb (DE.db (dv 1)) zbx))))
  (zaj (zbg (za1 (zbi hu) zbh (DE.db (dv 5)) (DE.db zae)) ?hole0 zbj)
  (zaj (zbg (za1 (zbi hu) zbh (DE.db (dv 5)) (DE.db zae)) ?hole1 zbj)
  (zaj (zbg (za1 (zbi hu) zbh (DE.db (dv 5)) (DE.db zae)) ?hole2 zbj)
  (zaj (zbg (za1 (zbi hu) zbh (DE.db (dv 5)) (DE.db zae)) ?hole3 zbj)
  (zaj (zbg (DW.dt (zfh (za1 (zbi hu) zbh (DE.db (dv 5)) (DE.db zae)) (zgo (za1 (zg3 hu) zgz (DE.db (dv 0)) (DE.db (DO.de (zbz zag))))))) ?hole4 zbj)
  (zaj (zbg (DW.dt (zfh (za1 (zbi hu) zbh (DE.db (dv 5)) (DE.db zae)) (zfh (za1 (zg3 hu) zgz (DE.db (dv 0)) (DE.db (DO.de (zbz zag)))) (zgo (za1 zi7 zkh (DE.db (dv 3)) (DE.db zae)))))) (zaj (zb5 7 zis.nd (zay zb9 (zah (dvC 4) zae) (dv 3)))
  (zaj (zgi 8 1 [7] ["_law_one","_law_thing"] zis.nd rfl (DI.de (zb2 (zah (dvC 0) (zgj zae)))) (fun _ _ _ _ _=>(dgc 0 1)) (fun _ _ _ _ _=>(zdw (za1 (zg3 hu) zgz (DE.db (dvc 0)) (DE.db (dvc 1))))) (fun _ _ _ _ _=>(dvc 0)))
  (zaj (zbg (za1 (zbi hu) zbh (DE.db (dv 8)) (DE.db (zah (dvC 0) (zgj zae)))) (zan (zb5 8 zis.nd (DO.de (zwx rfl rfl W.z_sorted (DO.de (zds (dv 8) (DO.de (zbz (zac (dv 7) zag))))))))) zbj)
  ?hole5))) zbj)
  (zaj (zbg (DW.dt (zgd (za1 (zbi hu) zbh (DE.db (dv 5)) (DE.db zae)) (zgk (za1 (zbi hu) zbh (DE.db (dv 5)) (DE.db zae))))) ?hole6 zbj)
  (zaj (zbg (za1 (zbi hu) zbh (DE.db (dv 5)) (DE.db zae)) (zan (zaw (zbu (zac (dv 0) (zac (DO.de (zds (dv 1) (DO.de (zbz (zac (zah (dvC 1) (zah (DO.dc (zbz (zac (zgj zae) (zac zae zag)))) (zay zb9 (zah (dvC 4) zae) zae))) zag))))) zag))))) zbj)
  (zaj (zbg (za1 (zbi hu) zbh (DE.db (dv 5)) (DE.db zae)) ?hole7 zbj)
  (zan (zaw (zbu (zac (dv 0) (zac (dv 1) zag)))))))))))))))))
  (case hole0=>refine zan ?_; refine zaw ?_; refine zbu ?_; refine zac ?_ ?_; (focus exact (dv 0)); refine zac ?_ ?_; (focus (refine DO.de ?_; exact (by refine zc4 ?a ?b ?c; (case a=>exact (dv 1)); (case b=>exact zdg); (case c=>exact (zcu (zgj zae)))))); exact zag)
  (case hole1=>refine zan ?_; refine zaw ?_; refine zbu ?_; refine zac ?_ ?_; (focus exact (dv 0)); refine zac ?_ ?_; (focus (refine DO.de ?_; exact (zds (DO.de (by refine zc4 ?a ?b ?c; (case a=>exact (dv 1)); (case b=>exact zdg); (case c=>exact (zcu (dv 6))))) (DO.de (by refine zc4 ?a ?b ?c; (case a=>exact (dv 1)); (case b=>exact (zcu (zay zdo (dv 6) zae))); (case c=>exact zdg)))))); exact zag)
  (case hole2=>refine zan ?_; refine zaw ?_; refine zbu ?_; refine zac ?_ ?_; (focus exact (dv 0)); refine zac ?_ ?_; (focus (refine DO.de ?_; exact (zds (DO.de (by refine zc4 ?a ?b ?c; (case a=>exact (dv 1)); (case b=>exact zdg); (case c=>exact (zcu (zay zdo (dv 6) zae))))) (DO.de (by refine zc4 ?a ?b ?c; (case a=>exact (dv 1)); (case b=>exact (zcu (dv 6))); (case c=>exact zdg)))))); exact zag)
  (case hole3=>refine zan ?_; refine zaw ?_; refine zbu ?_; refine zac ?_ ?_; (focus exact (dv 0)); refine zac ?_ ?_; (focus (refine DO.de ?_; exact (zds (DO.de (by refine zc4 ?a ?b ?c; (case a=>exact (dv 1)); (case b=>exact (zcu (dv 6))); (case c=>exact zdg))) (DO.de (by refine zc4 ?a ?b ?c; (case a=>exact (dv 1)); (case b=>exact zdg); (case c=>exact (zcu (dv 6)))))))); exact zag)
  (case hole4=>refine zan ?_; refine zaw ?_; refine zbu ?_; refine zac ?_ ?_; (focus (refine DO.de ?_; exact (by refine zc4 ?a ?b ?c; (case a=>exact (dv 0)); (case b=>exact (zcu zae)); (case c=>exact zdg)))); refine zac ?_ ?_; (focus exact (dv 1)); exact zag)
  (case hole5=>refine zan ?_; refine zaw ?_; refine zbu ?_; refine zac ?_ ?_; (focus (refine DO.de ?_; exact (zds (DO.de (by refine zc4 ?a ?b ?c; (case a=>exact (dv 0)); (case b=>exact zdg); (case c=>exact (zcu (zgj zae))))) (DO.de (zbz (zac (dv 8) zag)))))); refine zac ?_ ?_; (focus exact (dv 1)); exact zag)
  (case hole6=>refine zan ?_; refine zaw ?_; refine zbu ?_; refine zac ?_ ?_; (focus exact (dv 0)); refine zac ?_ ?_; (focus (refine DO.de ?_; exact (zds (DO.de (zds (DO.de (by refine zc4 ?a ?b ?c; (case a=>exact (dv 1)); (case b=>exact zdg); (case c=>exact (zcu (dv 6))))) (DO.de (zbz (zac (zbp (z8t W) (hr.mono (by decide)) rfl W.g_12 W.F_12.kp W.b_12 (zac (zah (dvC 1) (dv 6)) (zac (zah (dvC 4) zae) zag))) zag))))) (DO.de (by refine zc4 ?a ?b ?c; (case a=>exact (dv 1)); (case b=>exact (zcu (zay zdo (dv 6) zae))); (case c=>exact zdg)))))); exact zag)
  (case hole7=>refine zan ?_; refine zaw ?_; refine zbu ?_; refine zac ?_ ?_; (focus exact (dv 0)); refine zac ?_ ?_; (focus (refine DO.de ?_; exact (by refine zc4 ?a ?b ?c; (case a=>exact (dv 1)); (case b=>exact zdg); (case c=>exact (zcu zae))))); exact zag)
theorem zwl {a : Wa} (W : Wd K mg a) : zax P w K mg base CX0 1 a.f_57 a.fd_57 ["_law_part_here","_law_rising","_law_held"] (spD ⟨K,cl a⟩ ["_law_part_here","_law_rising","_law_held"].length zon) :=
 zbt (k:=0) (N:=["_law_part_here","_law_rising","_law_held"]) (F:=b_57) W.F_57 zxi fun cdv A outer s H E hr=>have hu:=hr.units; by
  unfold b_57
  exact (zaj (zbg (za1 (zbi hu) zbh (DE.db (zah (dvC 0) zae)) (DE.db zbq)) (zan (zaw (zah (dvC 1) (zah (dvC 0) zae)))) zbj)
  (zaj (zbg (za1 (zbi hu) zbh (DE.db (zah (dvC 0) zae)) (DE.db zbq)) (zan (zaw (zgr (zah (dvC 2) (zah (dvC 0) zae))))) zbj)
  (zaj (zbg (za1 (zbi hu) zbh (DE.db (zah (dvC 0) zae)) (DE.db zbq)) (zan (zaw (zb6 zrw zo1 (DE.db (zb3 (zgs rfl) zg4 rfl W.z_sum boot_sum (zbb (DE.db (DO.de (zca 2 [1] ["_law_thing","_law_worth_here","_law_rising"] rfl (DI.de (zb2 (zah (dvC 0) zae))) (fun _ _ _ _ _=>(zck rfl (zbc (dgc 0 2) (zbc (dgc 1 2) zcm)))) (fun _ _ _ _ _=>(zdw (zcy (DE.db (zah (zc8 2) (dvc 0)))))) (fun _ _ _ _ _=>(dvc 1))))) zbx))) (DE.db (zah (dvC 0) zae))))) zbj)
  (zan (zaw (zb6 zmw znq (DE.db (zb3 (zgs rfl) zg4 rfl W.z_sum boot_sum (zbb (DE.db (DO.de (zca 2 [2] ["_law_thing","_law_worth_here","_law_held"] rfl (DI.de (zb2 (zah (dvC 0) zae))) (fun _ _ _ _ _=>(zck rfl (zbc (dgc 0 2) (zbc (dgc 1 2) zcm)))) (fun _ _ _ _ _=>(zdw (zcy (DE.db (zah (zc8 2) (dvc 0)))))) (fun _ _ _ _ _=>(dvc 1))))) zbx))) (DE.db (zah (dvC 0) zae))))))))
theorem zzf {a : Wa} (W : Wd K mg a) : zax P w K mg base CX0 3 a.f_11 a.fd_11 ["_law_rules","_law_held"] (spD ⟨K,cl a⟩ ["_law_rules","_law_held"].length zmg) :=
 zbt (k:=2) (N:=["_law_rules","_law_held","_law_rising","_law_turn","_law_word","_law_head","_law_parts"]) (F:=b_11) W.F_11 zkc fun cdv A outer s H E hr=>have hu:=hr.units; by
  unfold b_11
  exact (zaj (zbg (zcy (DE.db (zb3 (zhk rfl) zhx rfl W.z_any boot_any (zbb (DE.db (DO.de (zca 1 [1] ["_law_rule_here","_law_held"] rfl (DI.de (zb2 (dv 0))) (fun _ _ _ _ _=>(dgc 0 1)) (fun _ _ _ _ _=>zcl) (fun _ _ _ _ _=>(zbp (zoq W) (hr.mono (by decide)) (glc rfl) W.g_6 W.F_6.kp W.b_6 (zac (dvc 0) (zac (dvc 1) zag))))))) zbx)))) (zan (zaw zby)) zbj)
  (zaj (zfq 2 zkc.nd (zca 1 [] ["_law_truth"] rfl (DI.de (zb2 (dv 1))) (fun _ _ _ _ _=>(dgc 0 1)) (fun _ _ _ _ _=>zcl) (fun _ _ _ _ _=>zby)))
  (zaj (zd5 PassesOwn.never rfl (zev rfl W.z_range (zac (zb3 zc6 zda rfl W.z_len PySem.boot_len (zbb (DE.db (dv 1)) zbx)) zag)) (zcc 3 7 zkc.nd) (zan (zd5 PassesOwn.never rfl (zb2 (dv 0)) (zck rfl (zbc (zcc 4 7 zkc.nd) (zbc (zcc 5 7 zkc.nd) (zbc (zcc 6 7 zkc.nd) zcm)))) (zan (zbg (DW.dt (zfh (za1 (zg3 hu) zgz (DE.db (dv 4)) (DE.db zbq)) (zfh (zcy (DE.db (zah (dvC 1) (dv 5)))) (zgo (ze4 (zcy (DE.db (zah (dvC 2) (dv 5))))))))) (zan (zim (pv 2) (dv 5) (zb3 (zla rfl) zli rfl W.z_all boot_all (zbb (DE.db (DO.de (zca 1 [2,1] ["_law_part_here","_law_rising","_law_held"] rfl (DI.de (zb2 (dv 6))) (fun _ _ _ _ _=>(dgc 0 1)) (fun _ _ _ _ _=>zcl) (fun _ _ _ _ _=>(zxl (zwl W) (hr.mono (by decide)) (glc rfl) W.g_57 W.F_57.kp W.b_57 (zbb (DE.db (dvc 0)) (zbb (z6o 1) (zbb (DE.db (dvc 2)) zbx)))))))) zbx)))) zbj)))))
  (zan (zg8 2 (zaw (zb6 (zbi hu) zbh (DE.db (dv 2)) (DE.db (dv 1)))))))))
theorem z53 {a : Wa} (W : Wd K mg a) : zax P w K mg base CX0 4 a.f_36 a.fd_36 ["_law_many","_law_rules"] (spD ⟨K,cl a⟩ ["_law_many","_law_rules"].length zp3) :=
 zbt (k:=3) (N:=["_law_many","_law_rules","_law_rows","_law_k","_law_held"]) (F:=b_36) W.F_36 zl7 fun cdv A outer s H E hr=>by
  unfold b_36
  exact (zaj (zb5 2 zl7.nd (DO.de (zbz (zac (DO.de (zbz zag)) zag))))
  (zaj (zd5 PassesOwn.never rfl (zev rfl W.z_range (zac (dv 0) zag)) (zcc 3 5 zl7.nd) (zan (zb5 2 zl7.nd (DO.de (zds (DO.de (zca 1 [] ["_law_row"] rfl (DI.de (zb2 (dv 2))) (fun _ _ _ _ _=>(dgc 0 1)) (fun _ _ _ _ _=>zcl) (fun _ _ _ _ _=>(DO.de (zds (dvc 0) (DO.de (zbz (zac zby zag)))))))) (DO.de (zca 1 [] ["_law_row"] rfl (DI.de (zb2 (dv 2))) (fun _ _ _ _ _=>(dgc 0 1)) (fun _ _ _ _ _=>zcl) (fun _ _ _ _ _=>(DO.de (zds (dvc 0) (DO.de (zbz (zac zby zag)))))))))))))
  (zaj (zgi 4 1 [1] ["_law_row","_law_rules"] zl7.nd rfl (DI.de (zb2 (dv 2))) (fun _ _ _ _ _=>(dgc 0 1)) (fun _ _ _ _ _=>(zdw (zcy (DE.db (zbp (zzf W) (hr.mono (by decide)) (glc rfl) W.g_11 W.F_11.kp W.b_11 (zac (dvc 1) (zac (dvc 0) zag))))))) (fun _ _ _ _ _=>(dvc 0)))
  (zan (zlo (zca 1 [] ["_law_row"] rfl (DI.de (zb2 (dv 4))) (fun _ _ _ _ _=>(dgc 0 1)) (fun _ _ _ _ _=>zcl) (fun _ _ _ _ _=>(DO.de (zca 2 [] ["_law_thing","_law_truth"] rfl (DI.de (zio (glc rfl) W.z_enumerate (zac (dvc 0) zag))) (fun _ _ _ _ _=>(zck rfl (zbc (dgc 0 2) (zbc (dgc 1 2) zcm)))) (fun _ _ _ _ _=>(zdw (zcy (DE.db (dvc 1))))) (fun _ _ _ _ _=>(dvc 0)))))))))))
theorem z5h {a : Wa} (W : Wd K mg a) : zax P w K mg base CX0 15 a.f_2 a.fd_2 ["_law_script"] (spD ⟨K,cl a⟩ ["_law_script"].length m_2) :=
 zbt (k:=14) (N:=["_law_script","_law_hs","_law_many","_law_rules","_law_cell","_law_sets","_law_lines","_law_some","_law_mine"]) (F:=b_2) W.F_2 zfl fun cdv A outer s H E hr=>have hu:=hr.units; by
  unfold b_2
  exact (zaj (zb5 1 zfl.nd (zbp (zlu W) (hr.mono (by decide)) rfl W.g_0 W.F_0.kp W.b_0 (zac (zbp (zrq W) (hr.mono (by decide)) rfl W.g_5 W.F_5.kp W.b_5 (zac (dv 0) (zac zae zag))) (zac zae zag))))
  (zaj (zb5 2 zfl.nd (zay zho (zay zdo (zay zb9 (zah (dvC 1) zae) zae) zae) zae))
  (zaj (zfq 3 zfl.nd (zr9 (z5s W) (hr.mono (by decide)) rfl W.g_21 W.F_21.kp W.b_21 (zac (zay zb9 (zah (dvC 1) zae) zae) (zac (dv 2) zag))))
  (zaj (zd5 PassesOwn.never rfl (zb2 (DO.de (by refine zc4 ?a ?b ?c; (case a=>exact (dv 0)); (case b=>exact (zcu zae)); (case c=>exact (zcu zae))))) (zcc 4 9 zfl.nd) (zan (zhe (ze7 (zfi PySem.F.plainAttrs_list PySem.F.slot_list_append PySem.F.type_list_append zgn (pv 3) (zdr (zbp (zz6 W) (hr.mono (by decide)) rfl W.g_43 W.F_43.kp W.b_43 (zac (dv 4) (zac (dv 2) (zac (zb6 (zbi hu) zbh (DE.db (zay zb9 (zah (dvC 1) zae) zae)) (DE.db zae)) zag)))) zee))))))
  (zaj (zg8 3 (zb5 5 zfl.nd (zbp (z53 W) (hr.mono (by decide)) rfl W.g_36 W.F_36.kp W.b_36 (zac (dv 2) (zac (dv 3) zag)))))
  (zaj (zbg (za1 (zbi hu) zbh (DE.db (zay zb9 (zah (dvC 1) zae) zae)) (DE.db zae)) (zan (zb5 5 zfl.nd (DO.de (by refine zc4 ?a ?b ?c; (case a=>exact (dv 5)); (case b=>exact (zcu zae)); (case c=>exact zdg))))) zbj)
  (zaj (zbg (za1 (zbi hu) zbh (DE.db (zay zb9 (zah (dvC 1) zae) zae)) (DE.db zae)) (zan (zb5 5 zfl.nd (DO.de (zds (dv 5) (DO.de (zbz (zac (DO.de (zca 1 [1] ["_law_thing","_law_hs"] rfl (DI.de (zev rfl W.z_range (zac (dv 2) zag))) (fun _ _ _ _ _=>(dgc 0 1)) (fun _ _ _ _ _=>(zdw (za1 (zbi hu) zbh (DE.db (zay zb9 (zay zho (zah (zc8 1) zae) (zay zdo (dvc 0) zae)) zae)) (DE.db zae)))) (fun _ _ _ _ _=>(dvc 0)))) zag))))))) zbj)
  (zaj (zfq 6 zfl.nd (zbz zag))
  (zaj (zg8 3 (zpz (z1b (zrb W 9) (hr.mono (by decide)) rfl W.g_1 W.F_1.kp W.b_1 (zeq (dv 3) (zeq (dv 5) (zeq (DO.de (zca 1 [] ["_law_k"] rfl (DI.de (zev rfl W.z_range (zac (dv 2) zag))) (fun _ _ _ _ _=>(dgc 0 1)) (fun _ _ _ _ _=>zcl) (fun _ _ _ _ _=>zed))) (zeq (DO.de (zbz zag)) (zob 6 (zac (zbp (zrq W) (hr.mono (by decide)) rfl W.g_5 W.F_5.kp W.b_5 (zac (dv 0) (zac zae zag))) zag)))))))))
  (zaj (zd5 PassesOwn.never rfl (zb2 (DO.de (zds (DO.de (zbz (zac (zbp (zrq W) (hr.mono (by decide)) rfl W.g_5 W.F_5.kp W.b_5 (zac (dv 0) (zac zae zag))) zag))) (DO.de (by refine zc4 ?a ?b ?c; (case a=>exact (dv 0)); (case b=>exact (zcu zae)); (case c=>exact (zcu zae))))))) (zcc 4 9 zfl.nd) (zaj (zg8 6 (zlw (zbp (z83 W) (hr.mono (by decide)) rfl W.g_15 W.F_15.kp W.b_15 (zac (dv 5) (zac (dv 6) (zac (dv 4) (zac (dv 2) zag))))) (zck rfl (zbc (zcc 7 9 zfl.nd) (zbc (zcc 8 9 zfl.nd) zcm)))))
  (zan (zg8 3 (zbg (ze4 (zcy (DE.db (zbp (z1t W) (hr.mono (by decide)) rfl W.g_39 W.F_39.kp W.b_39 (zac (dv 2) (zac (dv 3) (zac (dv 7) (zac (dv 8) zag)))))))) (zan (zaw zby)) zbj)))))
  (zan (zaw zby))))))))))))
end
local macro_rules | `(tactic| walk_at "evS")=>`(tactic| first | decide | omega | assumption | exact ⟨by decide,by decide⟩ | exact ⟨by omega,by omega⟩ | exact .inl ⟨by decide,by decide⟩ | exact .inr ⟨by decide,by decide⟩ | exact .inl ⟨by omega,by omega⟩ | exact .inr ⟨by omega,by omega⟩ | exact ⟨by decide,by decide,by decide⟩)
local macro_rules | `(tactic| walk_at "evO")=>`(tactic| first | with_reducible exact zhg | with_reducible exact zqd | with_reducible exact zj8 | with_reducible exact zlp | with_reducible exact zv6 | with_reducible exact dGe_eq | with_reducible exact zdt _ _ | with_reducible exact zvr _ _ | ((with_reducible apply zdk); (focus walk_at "evS")) | ((with_reducible apply zoa); (focus walk_at "evS")) | ((with_reducible apply dMul_eq); (focus walk_at "evS")) | ((with_reducible apply z1y); (focus first | assumption | exact .inl (by walk_at "evS") | exact .inr ⟨by omega,by omega⟩)) | ((with_reducible apply z87); (focus walk_at "evS")) | ((with_reducible apply dShr_eq); (focus walk_at "evS")) | with_reducible exact zng _ _ | with_reducible exact dNe_str _ _ | with_reducible exact dEq_bl _ _ | with_reducible exact dAndB_eq | exact znd _ _ | exact zi8 _ _ | assumption | rfl)
local macro_rules | `(tactic| walk_at "ev")=>`(tactic| first
 | with_reducible assumption
 | ((with_reducible apply zar); (focus walk_at "ev"); (focus walk_at "ev"); (focus walk_at "evO"))
 | ((with_reducible apply zb1); (focus walk_at "ev"))
 | ((with_reducible apply zde); (focus walk_at "ev"); (focus first | assumption | rfl))
 | ((with_reducible apply zie); (focus walk_at "ev"); (focus walk_at "ev"))
 | ((with_reducible apply zmn); (focus walk_at "ev"); (focus walk_at "ev"))
 | ((with_reducible apply zfo); (focus walk_at "ev"))
 | ((with_reducible apply zhn); (focus walk_at "ev"); (focus walk_at "ev"))
 | ((with_reducible apply zoo); (focus walk_at "ev"); (focus walk_at "ev"))
 | ((with_reducible apply zf9); (focus walk_at "ev"))
 | ((with_reducible apply zad); (focus walk_at "ev"); (focus walk_at "ev"))
 | ((with_reducible apply zb7); (focus walk_at "ev"))
 | ((with_reducible apply zat); (focus walk_at "ev"))
 | ((with_reducible apply zau); (focus walk_at "ev"); (focus first | with_reducible assumption | with_reducible exact zc3 _ _ | assumption | exact zc3 _ _ | exact len_kl _ _ | rfl))
 | ((with_reducible apply zl5); (focus walk_at "ev"); (focus assumption); (focus rfl))
 | ((with_reducible apply zak); (focus walk_at "ev"); (focus walk_at "ev"); (focus first | assumption | rfl))
 | ((with_reducible apply zpd); (focus walk_at "ev"); (focus rfl); (focus rfl))
 | ((with_reducible apply zc7); (focus walk_at "ev"); (focus rfl); (focus rfl))
 | ((with_reducible apply zcq); (focus walk_at "ev"); (focus rfl))
 | rfl)
local macro_rules | `(tactic| walk_at "nrm")=>`(tactic| simp only [zs8,List.set_cons_succ,List.set_cons_zero])
local macro_rules | `(tactic| walk_at "set")=>`(tactic| (apply zam; (first | with_reducible apply zbs | with_reducible apply zer); (focus walk_at "ev"); walk_at "nrm"))
local macro_rules | `(tactic| walk_at "if0")=>`(tactic| ((with_reducible first | apply zaz | apply zbw); (focus walk_at "ev")))
theorem zu2 (ns : List Int) (i : Int) (h0 : 0 <= i) : ∃ v,m_5 [.kl (ns.map D.int),.int i] = some (.int v):=by
 by_cases h : i < ns.length
 ·obtain ⟨x,_,e⟩:=zb4 (f:=D.int) h0 h
  refine ⟨x,zcb (zew (zez (congrArg some (decide_eq_true ?_)) (zcj e)))⟩
  rw [List.length_map]
  exact h
 ·refine ⟨0,zcb (zcr (zc1 (congrArg some (decide_eq_false ?_)) rfl) rfl)⟩
  rw [List.length_map]
  exact h
theorem p60 : (0 : Int) < 10 ^ (60 : Int).toNat:=by decide
theorem z39 : zjd 10 60:=⟨by decide,by decide,by decide⟩
noncomputable def Nm (x : Int) : Prop:=0 <= x /\ x < 2305843009213693951
theorem zl1 (c n : Int) (n0 : 0 <= n) (n1 : n <= 124) : ∃ d,m_0 [.int c,.int n] = some d /\ ∃ xs : List Int,d = .lst (xs.map D.int) /\ (xs.length : Int) = n /\ ∀ x ∈ xs,Nm x:=by
 apply zg0
 unfold b_0
 show wp _ [.im (.int c),.im (.int n),.no,.no,.no] _
 have a0 : 0 <= c % 2305843009213693951:=Int.emod_nonneg _ (by decide)
 have a1 : c % 2305843009213693951 < 2305843009213693951:=Int.emod_lt_of_pos _ (by decide)
 walk_at "set"
 walk_at "set"
 apply zam
 refine zea (List.range n.toNat) (fun (i : Nat)=>D.int i) (fun pre ρ=>∃ (xs : List Int) (y : Int) (v : Sl),ρ = [.im (.int c),.im (.int n),.own (xs.map D.int),.im (.int y),v] /\ 0 <= y /\ y < 2 ^ 100 /\ xs.length = pre.length /\ ∀ x ∈ xs,Nm x)
  (ze2 (by walk_at "ev") n0 (by omega)) ⟨[],_,.no,rfl,by omega,by omega,rfl,fun x hx=>nomatch hx⟩ ?_ ?_
 ·rintro pre i post ρ ex ⟨xs,y,v,rfl,y0,y1,hl,hx⟩
  have hpl : pre.length < n.toNat:=by
   have : pre.length < (List.range n.toNat).length:=by rw [ex]; simp
   simpa using this
  refine ⟨_,rfl,?_⟩
  walk_at "nrm"
  generalize hz : (y * (y + 69621) + 7 * (i : Int) + 1) % 2305843009213693951 = z
  have z0 : 0 <= z:=by rw [<- hz]; exact Int.emod_nonneg _ (by decide)
  have z1 : z < 2305843009213693951:=by rw [<- hz]; exact Int.emod_lt_of_pos _ (by decide)
  apply zam
  refine zbs (by walk_at "ev") ?_
  rw [hz]
  walk_at "nrm"
  refine zhq rfl rfl (by rw [List.length_map]; omega) ?_
  refine ⟨xs ++ [z],z,.im (.int i),by rw [List.map_append]; rfl,z0,by omega,by rw [List.length_append,List.length_append,hl]; rfl,fun x hx'=>?_⟩
  rcases List.mem_append.mp hx' with h | h
  ·exact hx x h
  ·have : x = z:=by simpa using h
   subst this
   exact ⟨z0,z1⟩
 ·rintro ρ ⟨xs,y,v,rfl,y0,y1,hl,hx⟩
  rw [List.length_range] at hl
  exact zgv rfl (zk2 ⟨xs,rfl,by omega,hx⟩)
theorem worth (x : Int) (hx : Nm x) : ∃ d,zl8 [.int x] = some d /\ ∃ w : Int,d = .int w /\ 0 <= w:=by
 obtain ⟨x0,x1⟩:=hx
 apply zg0
 unfold b_42
 show wp _ [.im (.int x)] _
 have pw:=p60
 have hcp:=z39
 have m1 : zf7 x x:=.inl (.inl ⟨by omega,by omega⟩)
 have m2 : zf7 (x * x) x:=.inl (.inr ⟨by omega,by omega⟩)
 have m3 : zf7 (x * x * x) x:=.inl (.inr ⟨by omega,by omega⟩)
 apply zam
 walk_at "if0"
 ·intro _
  walk_at "if0"
  exact zbr ⟨_,rfl,Int.emod_nonneg _ (Int.ne_of_gt pw)⟩
 ·intro _
  apply zbo
  walk_at "nrm"
  obtain ⟨w,hw,ew⟩:=zb4 (f:=D.int) (xs:=[1,1,2,0,3,1,1,2]) (i:=x / 8 % 8) (Int.emod_nonneg _ (by decide)) (Int.emod_lt_of_pos _ (by decide))
  have w0 : ∀ x ∈ ([1,1,2,0,3,1,1,2] : List Int),0 <= x:=by decide
  walk_at "if0"
  exact zbr ⟨w,rfl,w0 w (List.mem_of_getElem? hw)⟩
theorem zsr {α β : Type} {k : Nat} {js : List Nat} {fi : List Sl -> Option (List D)} {g : D -> List Sl -> Option (List Sl)} {ft : List Sl -> Option Bool} {fe : List Sl -> Option D} {ρ : List Sl} (xs : List α) (f : α -> D) (q : β -> D) (P : β -> Prop)
  (hi : fi ρ = some (xs.map f)) (hz : xs.length <= 16777216) (hh : ∀ x ∈ xs,∃ z,P z /\ zfc g ft fe (zdi k js ρ) (f x) = some (some (q z))) : ∃ zs : List β,za7 k js fi g ft fe ρ = some (zs.map q) /\ zs.length = xs.length /\ ∀ z ∈ zs,P z:=by
 have key : ∀ ys : List α,(∀ x ∈ ys,∃ z,P z /\ zfc g ft fe (zdi k js ρ) (f x) = some (some (q z))) -> ∃ zs : List β,zeu (zfc g ft fe (zdi k js ρ)) (ys.map f) = some (zs.map q) /\ zs.length = ys.length /\ ∀ z ∈ zs,P z:=by
  intro ys
  induction ys with
  | nil=>intro _; exact ⟨[],rfl,rfl,fun z hz=>nomatch hz⟩
  | cons y ys ih =>
   intro h
   obtain ⟨z,pz,ez⟩:=h y List.mem_cons_self
   obtain ⟨zs,e,l,p⟩:=ih fun x hx=>h x (List.mem_cons_of_mem _ hx)
   refine ⟨z :: zs,?_,by rw [List.length_cons,List.length_cons,l],fun w hw=>?_⟩
   ·rw [List.map_cons]
    unfold zeu
    rw [ez,e]
    rfl
   ·rcases List.mem_cons.mp hw with rfl | hw
    ·exact pz
    ·exact p w hw
 obtain ⟨zs,e,l,p⟩:=key xs hh
 refine ⟨zs,?_,l,p⟩
 unfold za7
 rw [hi]
 show (if (xs.map f).length <= 16777216 then _ else none) = _
 rw [List.length_map,if_pos hz]
 exact e
noncomputable def nmP : Prt -> List Int
 | .inn t=>[t]
 | .out t=>[t]
 | .least _ its=>its.map (·.1)
 | .most _ its=>its.map (·.1)
theorem z3s {xs : List Int} {i : Nat} {x : Int} (h : ∀ x ∈ xs,Nm x) (e : xs[i]? = some x) : Nm x:=h x (List.mem_of_getElem? e)
theorem z01 {ys : List Int} {n : Int} (hy : ∀ y ∈ ys,Nm y) (n1 : 1 <= n) {t : Nat} (ht : 4 + 2 * t <= ys.length) (ht2 : t <= 100) {fi : List Sl -> Option (List D)} {ρ : List Sl} {js : List Nat} (hi : fi ρ = some ((List.range t).map fun (i : Nat)=>D.int i)) (hj : zdi 1 js ρ = [.no,.im (.int n),.im (.lst (ys.map D.int))]) :
  ∃ its : List (Int × Int),za7 1 js fi (zaq 0) (fun _=>some true) (zbm (zab (m2 zbv (mIx (zaf 2) (m2 zci (fun _=>some (.int 4)) (m2 zdc (fun _=>some (.int 2)) (zaa 0)))) (zaa 1)) (zab (zap zl8 (zab (mIx (zaf 2) (m2 zci (fun _=>some (.int 5)) (m2 zdc (fun _=>some (.int 2)) (zaa 0)))) (fun _=>some []))) (fun _=>some [])))) ρ = some (its.map itD) /\ its.length = t /\ InN n.toNat its:=by
 obtain ⟨its,e,l,p⟩:=zsr (k:=1) (js:=js) (fi:=fi) (g:=zaq 0) (ft:=fun _=>some true) (fe:=(zbm (zab (m2 zbv (mIx (zaf 2) (m2 zci (fun _=>some (.int 4)) (m2 zdc (fun _=>some (.int 2)) (zaa 0)))) (zaa 1)) (zab (zap zl8 (zab (mIx (zaf 2) (m2 zci (fun _=>some (.int 5)) (m2 zdc (fun _=>some (.int 2)) (zaa 0)))) (fun _=>some []))) (fun _=>some []))))) (ρ:=ρ) (List.range t) (fun (i : Nat)=>D.int i) itD (fun z=>0 <= z.1 /\ z.1 < (n.toNat : Int) /\ 0 <= z.2) hi (by rw [List.length_range]; omega) fun i hi'=>by
  have hi':=List.mem_range.mp hi'
  obtain ⟨a,_,ea⟩:=zb4 (f:=D.int) (xs:=ys) (i:=4 + 2 * (i : Int)) (by omega) (by omega)
  obtain ⟨b,hb,eb⟩:=zb4 (f:=D.int) (xs:=ys) (i:=5 + 2 * (i : Int)) (by omega) (by omega)
  obtain ⟨d,ew,w,rfl,w0⟩:=worth b (z3s hy hb)
  have q0:=Int.emod_nonneg a (show n ≠ 0 by omega)
  have q1:=Int.emod_lt_of_pos a (show 0 < n by omega)
  refine ⟨(a % n,w),⟨q0,by show a % n < _; omega,w0⟩,?_⟩
  rw [hj]
  exact zcp (y:=.tup [.int (a % n),.int w]) rfl rfl (by walk_at "ev")
 exact ⟨its,e,by rw [l,List.length_range],p⟩
theorem zw1 {its : List (Int × Int)} {fi : List Sl -> Option (List D)} {ρ : List Sl} (hi : fi ρ = some (its.map itD)) (hz : its.length <= 1000) : zap zd2 (zab (zal (za7 2 [] fi (zb8 (za3 (zaq 0) (za3 (zaq 1) zcf))) (fun _=>some true) (zaa 1))) (fun _=>some [])) ρ = some (.int (its.map (·.2)).sum):=by
 refine zau (zad (zat (zcs its itD (fun z=>D.int z.2) hi (by omega) fun z _=>zcp rfl rfl rfl)) rfl) ?_
 rw [z2e]
 exact zsg
theorem z31 (ys : List Int) (n : Int) (hl : 10 <= ys.length) (hy : ∀ y ∈ ys,Nm y) (n1 : 1 <= n) (n60 : n <= 60) : ∃ d,zm2 [.lst (ys.map D.int),.int n] = some d /\ ∃ p : Prt,d = p.toD /\ p.Ok n.toNat /\ (nmP p).length <= 3:=by
 apply zg0
 unfold b_34
 show wp _ [.im (.lst (ys.map D.int)),.im (.int n),.no,.no,.no] _
 obtain ⟨a0,h0,e0⟩:=zb4 (f:=D.int) (xs:=ys) (i:=0) (by decide) (by omega)
 obtain ⟨a1,h1,e1⟩:=zb4 (f:=D.int) (xs:=ys) (i:=1) (by decide) (by omega)
 obtain ⟨a2,h2,e2⟩:=zb4 (f:=D.int) (xs:=ys) (i:=2) (by decide) (by omega)
 obtain ⟨a3,h3,e3⟩:=zb4 (f:=D.int) (xs:=ys) (i:=3) (by decide) (by omega)
 obtain ⟨wd,hwd,ew⟩:=zb4 (f:=D.str) (xs:=["in","out","in","least","most"]) (i:=a0 % 5) (Int.emod_nonneg _ (by decide)) (Int.emod_lt_of_pos _ (by decide))
 have hw2:=List.mem_of_getElem? hwd
 simp only [List.mem_cons,List.not_mem_nil,or_false] at hw2
 walk_at "set"
 apply zam
 walk_at "if0"
 ·intro hb
  have q0:=Int.emod_nonneg a1 (show n ≠ 0 by omega)
  have q1:=Int.emod_lt_of_pos a1 (show 0 < n by omega)
  walk_at "if0"
  apply zbr
  rcases hw2 with rfl | rfl | rfl | rfl | rfl
  ·exact ⟨.inn (a1 % n),rfl,⟨q0,by omega⟩,by show 1 <= 3; decide⟩
  ·exact ⟨.out (a1 % n),rfl,⟨q0,by omega⟩,by show 1 <= 3; decide⟩
  ·exact ⟨.inn (a1 % n),rfl,⟨q0,by omega⟩,by show 1 <= 3; decide⟩
  ·exact Bool.noConfusion (show false = true from hb)
  ·exact Bool.noConfusion (show false = true from hb)
 ·intro hb
  apply zbo
  walk_at "nrm"
  have t0 : 0 <= a2 % 4:=Int.emod_nonneg _ (by decide)
  have t1 : a2 % 4 < 4:=Int.emod_lt_of_pos _ (by decide)
  obtain ⟨its,ei,li,hin⟩:=z01 (ys:=ys) (n:=n) hy n1 (t:=(a2 % 4).toNat) (by omega) (by omega) (fi:=zdm (zab (m2 zbv (mIx (zaf 0) (fun _=>some (.int 2))) (fun _=>some (.int 4))) (fun _=>some []))) (ρ:=[.im (.lst (ys.map D.int)),.im (.int n),.im (.str wd),.no,.no]) (js:=[1,0]) (ze2 (by walk_at "ev") t0 (by omega)) rfl
  apply zam
  refine zbs (zat ei) ?_
  walk_at "nrm"
  apply zam
  refine zbs (zw1 (zcq (zat (zc7 rfl rfl (hi:=some (a3 % 5)) (by unfold mPt; rw [show (m2 zbv (mIx (zaf 0) (fun _=>some (.int 3))) (fun _=>some (.int 5))) [.im (.lst (ys.map D.int)),.im (.int n),.im (.str wd),.im (.lst (its.map itD)),.no] = some (.int (a3 % 5)) by walk_at "ev"]; rfl))) rfl) (by rw [List.length_take,List.length_drop]; omega)) ?_
  walk_at "nrm"
  walk_at "if0"
  apply zbr
  have h3' : (its.map (·.1)).length <= 3:=by rw [List.length_map]; omega
  rcases hw2 with rfl | rfl | rfl | rfl | rfl
  ·exact Bool.noConfusion (show true = false from hb)
  ·exact Bool.noConfusion (show true = false from hb)
  ·exact Bool.noConfusion (show true = false from hb)
  ·exact ⟨.least _ its,rfl,⟨hin,by omega⟩,h3'⟩
  ·exact ⟨.most _ its,rfl,⟨hin,by omega⟩,h3'⟩
theorem zec {f g : List Sl -> Option D} {ρ : List Sl} {a b : List D} (h : f ρ = some (.lst a)) (h' : g ρ = some (.lst b)) (hl : a.length + b.length <= 16777216) : zcz f g ρ = some (a ++ b):=by
 unfold zcz
 rw [h,h']
 show (if a.length + b.length <= 16777216 then some (a ++ b) else none) = _
 rw [if_pos hl]
theorem zvo {α : Type} {xs : List α} {a b : Nat} {x : α} (h : x ∈ (xs.drop a).take b) : x ∈ xs:=List.mem_of_mem_drop (List.mem_of_mem_take h)
theorem zxm (kind k on n : Int) (hk : 0 <= kind) (hk5 : kind < 5) (k0 : 0 <= k) (k1 : k < n) (o0 : 0 <= on) (o1 : on < n) : (atI [D.non,.tup [.str "in",.int k],.tup [.str "out",.int k],.tup [.str "least",.int 2,.lst [.tup [.int k,.int 2],.tup [.int on,.int 1]]],.tup [.str "most",.int 0,.lst [.tup [.int k,.int 1]]]] kind = some .non) \/ ∃ p : Prt,p.Ok n.toNat /\ atI [D.non,.tup [.str "in",.int k],.tup [.str "out",.int k],.tup [.str "least",.int 2,.lst [.tup [.int k,.int 2],.tup [.int on,.int 1]]],.tup [.str "most",.int 0,.lst [.tup [.int k,.int 1]]]] kind = some p.toD:=by
 have : kind = 0 \/ kind = 1 \/ kind = 2 \/ kind = 3 \/ kind = 4:=by omega
 rcases this with rfl | rfl | rfl | rfl | rfl
 ·exact .inl rfl
 ·exact .inr ⟨.inn k,⟨k0,by omega⟩,rfl⟩
 ·exact .inr ⟨.out k,⟨k0,by omega⟩,rfl⟩
 ·refine .inr ⟨.least 2 [(k,2),(on,1)],⟨fun z hz=>?_,by show 2 <= 100000; decide⟩,rfl⟩
  simp only [List.mem_cons,List.not_mem_nil,or_false] at hz
  rcases hz with rfl | rfl
  ·exact ⟨k0,by show k < _; omega,by show (0 : Int) <= 2; decide⟩
  ·exact ⟨o0,by show on < _; omega,by show (0 : Int) <= 1; decide⟩
 ·refine .inr ⟨.most 0 [(k,1)],⟨fun z hz=>?_,by show 1 <= 100000; decide⟩,rfl⟩
  have : z = (k,1):=by simpa using hz
  subst this
  exact ⟨k0,by show k < _; omega,by show (0 : Int) <= 1; decide⟩
theorem z13 (kind n : Int) (hk : 0 <= kind) (hk5 : kind < 5) (n0 : 0 <= n) (n60 : n <= 60) : ∃ rs : List Rul,zo2 [.int kind,.int n] = some (rs.map Rul.toD) /\ (∀ r ∈ rs,r.Ok n.toNat /\ r.ps.length <= 3) /\ rs.length <= 60:=by
 have h : wp b_21 (zdx 6 [.int kind,.int n]) (fun o=>∃ rs : List Rul,o = .rtO (rs.map Rul.toD) /\ (∀ r ∈ rs,r.Ok n.toNat /\ r.ps.length <= 3) /\ rs.length <= 60):=by
  unfold b_21
  show wp _ [.im (.int kind),.im (.int n),.no,.no,.no,.no] _
  walk_at "set"
  apply zam
  refine zea (List.range n.toNat) (fun (i : Nat)=>D.int i) (fun pre ρ=>∃ (rs : List Rul) (v3 v4 v5 : Sl),ρ = [.im (.int kind),.im (.int n),.own (rs.map Rul.toD),v3,v4,v5] /\ (∀ r ∈ rs,r.Ok n.toNat /\ r.ps.length <= 3) /\ rs.length <= pre.length)
   (ze2 (by walk_at "ev") n0 (by omega)) ⟨[],.no,.no,.no,rfl,(fun z hz=>nomatch hz),Nat.le_refl _⟩ ?_ ?_
  ·rintro pre i post ρ ex ⟨rs,v3,v4,v5,rfl,hrs,hl⟩
   have hi : i < n.toNat:=List.mem_range.mp (by rw [ex]; simp)
   have hpl : pre.length < n.toNat:=by
    have : pre.length < (List.range n.toNat).length:=by rw [ex]; simp
    simpa using this
   have hn : 0 < n:=by omega
   have q0:=Int.emod_nonneg ((i : Int) + 1) (show n ≠ 0 by omega)
   have q1:=Int.emod_lt_of_pos ((i : Int) + 1) hn
   refine ⟨_,rfl,?_⟩
   walk_at "nrm"
   walk_at "set"
   rcases zxm kind i (((i : Int) + 1) % n) n hk hk5 (by omega) (by omega) q0 q1 with e | ⟨p,hp,e⟩
   ·apply zam
    refine zbs (by walk_at "ev") ?_
    walk_at "nrm"
    refine zaz (b:=false) rfl (fun h=>by cases h) (fun _=>zbo ?_)
    exact ⟨rs,_,_,_,rfl,hrs,by rw [List.length_append]; exact Nat.le_succ_of_le hl⟩
   ·apply zam
    refine zbs (by walk_at "ev") ?_
    walk_at "nrm"
    clear e
    have w0 : 0 <= (i : Int) * kind % 5 / 4:=Int.ediv_nonneg (Int.emod_nonneg _ (by decide)) (by decide)
    have w1 : (i : Int) * kind % 5 / 4 < 2:=by
     have:=Int.emod_lt_of_pos ((i : Int) * kind) (show (0 : Int) < 5 by decide)
     omega
    obtain ⟨w,hw,ew⟩:=zb4 (f:=fun w : Wrd=>D.str w.s) (xs:=[.make,.may]) (i:=(i : Int) * kind % 5 / 4) w0 w1
    refine zaz (b:=true) (zb1 (zar rfl rfl (by cases p <;> rfl))) (fun _=>?_) (fun h=>by cases h)
    refine zhq (zb7 (zad (zak (by walk_at "ev") (by walk_at "ev") ew) (zad rfl (zad (zat (zad rfl rfl)) rfl)))) rfl (by rw [List.length_map]; omega) ?_
    have hw2:=List.mem_of_getElem? hw
    simp only [List.mem_cons,List.not_mem_nil,or_false] at hw2
    refine ⟨rs ++ [⟨w,((i : Int) + 1) % n,[p]⟩],.im (.int i),.im (.int (((i : Int) + 1) % n)),.im p.toD,?_,fun r hr=>?_,by rw [List.length_append,List.length_append]; exact Nat.add_le_add_right hl 1⟩
    ·rw [List.map_append]
     rcases hw2 with rfl | rfl <;> rfl
    ·rcases List.mem_append.mp hr with h | h
     ·exact hrs r h
     ·have : r = ⟨w,((i : Int) + 1) % n,[p]⟩:=by simpa using h
      subst this
      refine ⟨⟨fun _=>⟨q0,by show ((i : Int) + 1) % n < _; omega⟩,fun q hq=>?_,by show 1 <= _; decide⟩,by show 1 <= 3; decide⟩
      have : q = p:=by simpa using hq
      subst this
      exact hp
  ·rintro ρ ⟨rs,v3,v4,v5,rfl,hrs,hl⟩
   rw [List.length_range] at hl
   exact zgv rfl ⟨rs,rfl,hrs,by omega⟩
 obtain ⟨o,e,rs,rfl,hrs,hl⟩:=h
 exact ⟨rs,zts e,hrs,hl⟩
noncomputable def inS (xs : List Int) (i : Nat) : Bool:=xs.any fun x=>x == (i : Int)
theorem zus (xs : List Int) (i : Nat) : dIn (.int i) (.lst (xs.map D.int)) = some (.bl (inS xs i)):=by
 unfold dIn inD
 show Option.map D.bl (if ((D.int i).scalar && (xs.map D.int).all D.scalar) = true then some ((xs.map D.int).any fun d=>eqX d (.int i)) else none) = _
 rw [if_pos (by rw [List.all_map]; exact (Bool.and_eq_true _ _).mpr ⟨rfl,List.all_eq_true.mpr fun _ _=>rfl⟩),List.any_map]
 rfl
theorem z64 (ks : List Key) (k j : Key) : zel (zfd ks k) j = (zel ks j || decide (k = j)):=by
 unfold zfd
 by_cases e : zel ks k = true
 ·rw [if_pos e]
  by_cases h : k = j
  ·subst h; rw [e]; rfl
  ·rw [decide_eq_false h,Bool.or_false]
 ·rw [if_neg e]
  unfold zel
  rw [List.any_append]
  simp
theorem z7b (ks : List Key) (k : Key) : (zfd ks k).length <= ks.length + 1:=by
 unfold zfd
 split
 ·omega
 ·rw [List.length_append]; exact Nat.le_refl _
theorem zxv {i : Nat} {fk fv : List Sl -> Option D} {ρ : List Sl} {d x : D} {k : Key} {ks : List Key} {xs : List D} (h1 : fv ρ = some d) (h2 : fk ρ = some x) (h3 : zju x = some k) (h4 : ρ[i]? = some (.ownd ks xs)) (hl : ks.length < 16777216) :
  zin i fk fv ρ = some (.nx (ρ.set i (.ownd (zfd ks k) (zfn ks xs k d)))):=by
 unfold zin
 rw [h1,Option.bind_some,h2,Option.bind_some,h3,Option.bind_some,h4]
 show (if ks.length < 16777216 then _ else none) = _
 rw [if_pos hl]
theorem zu1 (n : Int) (xs : List Int) (n0 : 0 <= n) (n1 : n <= 60) (hl : xs.length <= 63) : m_8 [.int n,.lst (xs.map D.int)] = some (.lst (((List.range n.toNat).map (inS xs)).map D.bl)):=by
 obtain ⟨ρ',e,ks,ds,s3,rfl,hk,hh⟩:=z3x (g:=zaq 3) (F:=zin 2 (zaa 3) (fun _=>some (.bl true))) (fi:=zbl (zaa 1)) (ρ:=[.im (.int n),.im (.lst (xs.map D.int)),.ownd [] [],.no]) xs D.int
  (fun pre ρ=>∃ (ks : List Key) (ds : List D) (s3 : Sl),ρ = [.im (.int n),.im (.lst (xs.map D.int)),.ownd ks ds,s3] /\ ks.length <= pre.length /\ ∀ k : Int,zel ks (.inl k) = pre.any fun x=>x == k)
  rfl ⟨[],[],.no,rfl,Nat.le_refl _,fun _=>rfl⟩ (by
   rintro pre x post ρ ex ⟨ks,ds,s3,rfl,hk,hh⟩
   have hp : pre.length < xs.length:=by rw [ex]; simp
   refine ⟨_,_,rfl,.inl (zxv (ks:=ks) (xs:=ds) (k:=.inl x) rfl rfl rfl rfl (by omega)),zfd ks (.inl x),_,_,rfl,?_,fun k=>?_⟩
   ·have:=z7b ks (.inl x)
    rw [List.length_append]
    show _ <= pre.length + 1
    omega
   ·rw [z64,hh,List.any_append]
    congr 1
    rw [List.any_cons,List.any_nil,Bool.or_false]
    by_cases h : x = k
    ·subst h; simp
    ·rw [decide_eq_false (fun q=>h (Sum.inl.inj q))]
     exact (beq_eq_false_iff_ne.mpr h).symm)
 refine zjy (zcr rfl (zcr e ?_))
 show Option.map Fl.rtO (za7 _ _ _ _ _ _ [.im (.int n),.im (.lst (xs.map D.int)),.im (.dic ks ds),s3]) = _
 rw [List.map_map]
 refine congrArg (Option.map Fl.rtO) (zcs (List.range n.toNat) (fun (i : Nat)=>D.int i) _ (ze2 rfl n0 (by omega)) (by rw [List.length_range]; omega) fun j hj=>?_)
 refine zcp rfl rfl (zar (x:=.int j) (y:=.dic ks ds) rfl rfl ?_)
 show some (D.bl (zel ks (.inl (j : Int)))) = _
 rw [hh]
 rfl
theorem z4b (p : Prt) : zo8 [p.toD] = some p.obj:=by
 cases p <;> rfl
theorem zut {es : List (Option Bool)} {its : List (Int × Int)} (h : InN es.length its) (hz : its.length <= 100000) : zny [.lst (its.map itD),.lst (es.map shD)] = some (.int (zgm (· == some true) es its)):=by
 refine zcb (zcj (zau (zad (zat (zd3 its itD (fun z=>es.getD z.1.toNat none == some true) (fun z=>D.int z.2) rfl (by omega) fun z hz'=>?_)) rfl) (zh5 (fun t=>es.getD t.toNat none == some true) its)))
 exact zd1 rfl (zb1 (zar (zak rfl rfl (zdd (h z hz').1 (h z hz').2.1)) rfl (zep _ _))) fun _=>rfl
theorem zuc {es : List (Option Bool)} {its : List (Int × Int)} (h : InN es.length its) (hz : its.length <= 100000) : zl4 [.lst (its.map itD),.lst (es.map shD)] = some (.int (zgm (fun e=>!(e == some false)) es its)):=by
 refine zcb (zcj (zau (zad (zat (zd3 its itD (fun z=>!(es.getD z.1.toNat none == some false)) (fun z=>D.int z.2) rfl (by omega) fun z hz'=>?_)) rfl) (zh5 (fun t=>!(es.getD t.toNat none == some false)) its)))
 exact zd1 rfl (zb1 (zar (zak rfl rfl (zdd (h z hz').1 (h z hz').2.1)) rfl (zjl _ _))) fun _=>rfl
theorem zy7 {es : List (Option Bool)} {ws : List Bool} {its : List (Int × Int)} (h : InN es.length its) (hw : ws.length = es.length) (hz : its.length <= 100000) :
  zop [.lst (its.map itD),.lst (ws.map D.bl)] = some (.lst ((its.filter fun z=>!(ws.getD z.1.toNat false)).map itD)):=by
 refine zjy (congrArg (Option.map Fl.rtO) (zd3 its itD (fun z=>!(ws.getD z.1.toNat false)) itD rfl (by omega) fun z hz'=>?_))
 have hb:=h z hz'
 exact zd1 rfl (zfo (zde (zak rfl rfl (zf0 hb.1 (by rw [hw]; exact hb.2.1))) rfl)) fun _=>rfl
theorem z0j {es : List (Option Bool)} {ws : List Bool} {its : List (Int × Int)} (h : InN es.length its) (hz : its.length <= 100000) :
  zl4 [.lst ((its.filter fun z=>!(ws.getD z.1.toNat false)).map itD),.lst (es.map shD)] = some (.int (zfv (fun t=>!(es.getD t.toNat none == some false) && !(ws.getD t.toNat false)) its)):=by
 have hl:=List.length_filter_le (fun z : Int × Int=>!(ws.getD z.1.toNat false)) its
 have hin : InN es.length (its.filter fun z=>!(ws.getD z.1.toNat false)):=fun z hz'=>h z (List.mem_filter.mp hz').1
 refine (zuc hin (by omega)).trans ?_
 rw [zs1]
 exact congrArg (fun z=>some (D.int z)) (z6p (fun t=>!(es.getD t.toNat none == some false)) (fun t=>!(ws.getD t.toNat false)) its)
theorem z51 {es : List (Option Bool)} {ws : List Bool} (p : Prt) (h : p.Ok es.length) (hw : ws.length = es.length) : ∀ m,m = (match p with | .inn _=>m_16 | .out _=>m_17 | .least _ _=>m_18 | .most _ _=>m_19) ->
  m [p.obj,.lst (es.map shD),.lst (ws.map D.bl)] = some (.bl (p.lost es ws)):=by
 intro m e
 subst e
 cases p with
 | inn t=>exact zcb (zcj (zoo (zar (zak rfl rfl (zdd h.1 h.2)) rfl (zep _ _)) (zak rfl rfl (zf0 h.1 (by rw [hw]; exact h.2)))))
 | out t=>exact zcb (zcj (zar (zak rfl rfl (zdd h.1 h.2)) rfl (zep _ _)))
 | least k its=>exact zcb (zcj (zar (zau (zad (zau rfl (zy7 h.1 hw h.2)) (zad rfl rfl)) (z0j h.1 h.2)) rfl rfl))
 | most k its=>exact zcb (zcj (zar (zau rfl (zut h.1 h.2)) rfl rfl))
theorem z6u {es : List (Option Bool)} {ws : List Bool} {fo : List Sl -> Option D} {fa : List Sl -> Option (List D)} {ρ : List Sl} (p : Prt) (h : p.Ok es.length) (hw : ws.length = es.length) (ho : fo ρ = some p.obj) (ha : fa ρ = some [.lst (es.map shD),.lst (ws.map D.bl)]) :
  zd4 (zdf "In" "lost" m_16 fo fa) (zd4 (zdf "Out" "lost" m_17 fo fa) (zd4 (zdf "Least" "lost" m_18 fo fa) (zdf "Most" "lost" m_19 fo fa))) ρ = some (.bl (p.lost es ws)):=by
 have hm:=z51 (ws:=ws) p h hw _ rfl
 cases p with
 | inn t=>exact zjp ((zhu ho rfl ha).trans hm)
 | out t=>exact zfp (zfj ho (by decide)) (zjp ((zhu ho rfl ha).trans hm))
 | least k its=>exact zfp (zfj ho (by decide)) (zfp (zfj ho (by decide)) (zjp ((zhu ho rfl ha).trans hm)))
 | most k its=>exact zfp (zfj ho (by decide)) (zfp (zfj ho (by decide)) (zfp (zfj ho (by decide)) ((zhu ho rfl ha).trans hm)))
theorem z4z {es : List (Option Bool)} {fo : List Sl -> Option D} {fa : List Sl -> Option (List D)} {ρ : List Sl} (p : Prt) (h : p.Ok es.length) (ho : fo ρ = some p.obj) (ha : fa ρ = some [.lst (es.map shD)]) :
  zd4 (zdf "In" "sure" m_26 fo fa) (zd4 (zdf "Out" "sure" m_27 fo fa) (zd4 (zdf "Least" "sure" m_28 fo fa) (zdf "Most" "sure" m_29 fo fa))) ρ = some (.bl (p.sure es)):=by
 cases p with
 | inn t=>exact zjp ((zhu ho rfl ha).trans (zcb (zcj (zar (zak rfl rfl (zdd h.1 h.2)) rfl (zep _ _)))))
 | out t=>exact zfp (zfj ho (by decide)) (zjp ((zhu ho rfl ha).trans (zcb (zcj (zar (zak rfl rfl (zdd h.1 h.2)) rfl (zep _ _))))))
 | least k its=>exact zfp (zfj ho (by decide)) (zfp (zfj ho (by decide)) (zjp ((zhu ho rfl ha).trans (zcb (zcj (zar (zau rfl (zut h.1 h.2)) rfl rfl))))))
 | most k its=>exact zfp (zfj ho (by decide)) (zfp (zfj ho (by decide)) (zfp (zfj ho (by decide)) ((zhu ho rfl ha).trans (zcb (zcj (zar (zau rfl (zuc h.1 h.2)) rfl rfl))))))
theorem zsi {n : Nat} (r : Rul) (h : r.Ok n) : znx [r.toD] = some (.lst (r.ps.map Prt.obj)) :=
 zjy (congrArg (Option.map Fl.rtO) (zcs r.ps Prt.toD Prt.obj rfl (by have:=h.len; omega) fun p _=>zcp rfl rfl (zau rfl (z4b p))))
theorem zzp {es : List (Option Bool)} {ws : List Bool} (r : Rul) (h : r.Ok es.length) (hw : ws.length = es.length) : zps [r.toD,.lst (es.map shD),.lst (ws.map D.bl)] = some (.bl (r.bodyLost es ws)):=by
 refine zcb (zcj (zau (zad (zat (zcs r.ps Prt.obj (fun p=>D.bl (p.lost es ws)) (zcq (zau rfl (zsi r h)) rfl) (by have:=h.len; omega) fun p hp=>?_)) rfl) (any_map _ _)))
 exact zcp rfl rfl (z6u p (h.ps p hp) hw rfl rfl)
theorem z4p {es : List (Option Bool)} (r : Rul) (h : r.Ok es.length) : zq2 [r.toD,.lst (es.map shD)] = some (.bl (r.bodySure es)):=by
 refine zcb (zcj (zau (zad (zat (zcs r.ps Prt.obj (fun p=>D.bl (p.sure es)) (zcq (zau rfl (zsi r h)) rfl) (by have:=h.len; omega) fun p hp=>?_)) rfl) (all_map _ _)))
 exact zcp rfl rfl (z4z p (h.ps p hp) rfl rfl)
theorem z48 {es : List (Option Bool)} (r : Rul) (h : r.Ok es.length) : zq3 [r.toD,.lst (es.map shD)] = some (.bl (r.surely es)):=by
 have hb:=z4p r h
 have hh:=h.hd
 obtain ⟨w,hd,ps⟩:=r
 cases w with
 | may=>exact zcb (zew (zez rfl rfl))
 | never=>exact zcb (zcr (zc1 rfl rfl) (zcr (zc1 (zlg rfl) rfl) (zcj (zau rfl hb))))
 | make =>
  obtain ⟨h0,h1⟩:=hh (fun z=>by cases z)
  have e : mB (m2 zdl (mIx (zaf 1) (mIx (zaf 0) (fun _=>some (.int 1)))) (fun _=>some (.bl false))) [.im (Rul.toD ⟨.make,hd,ps⟩),.im (.lst (es.map shD))] = some (!(es.getD hd.toNat none == some false)) :=
   zb1 (zar (zak rfl rfl (zdd h0 h1)) rfl (zjl _ _))
  cases hc : (es.getD hd.toNat none == some false) with
  | true =>
   rw [hc] at e
   refine (zcb (zcr (zc1 rfl rfl) (zcr (zc1 (zh7 rfl e) rfl) (zcj (zau rfl hb))))).trans ?_
   show _ = some (D.bl ((es.getD hd.toNat none == some false) && _))
   rw [hc]
   rfl
  | false =>
   rw [hc] at e
   refine (zcb (zcr (zc1 rfl rfl) (zew (zez (zh7 rfl e) rfl)))).trans ?_
   show _ = some (D.bl ((es.getD hd.toNat none == some false) && _))
   rw [hc]
   rfl
noncomputable def plD (n : Int) (rs : List Rul) : D:=.tup [.int n,.lst (rs.map Rul.toD)]
noncomputable def hup (es : List (Option Bool)) (wo : List Bool) (r : Rul) : Bool:=r.w != .never && (wo.getD r.hd.toNat false && !(r.bodyLost es wo))
theorem zpb {r : Rul} (h : r.w ≠ .never) : atI [.str r.w.s,r.hdD,.lst (r.ps.map Prt.toD)] 1 = some (.int r.hd):=by
 obtain ⟨w,hd,ps⟩:=r
 cases w <;> first | rfl | exact absurd rfl h
theorem z6f {r : Rul} (h : r.w = .never) : atI [.str r.w.s,r.hdD,.lst (r.ps.map Prt.toD)] 1 = some .non:=by
 obtain ⟨w,hd,ps⟩:=r
 cases h
 rfl
theorem zvi {r : Rul} (h : r.w ≠ .never) : (r.w != .never) = true:=by
 obtain ⟨w,hd,ps⟩:=r
 cases w <;> first | rfl | exact absurd rfl h
theorem z0s {es : List (Option Bool)} {wo : List Bool} (r : Rul) (h : r.Ok es.length) (hw : wo.length = es.length) : zqh [r.toD,.lst (es.map shD),.lst (wo.map D.bl)] = some (.bl (hup es wo r)):=by
 have el:=zzp (ws:=wo) r h hw
 apply zeb
 unfold b_45
 show wp _ [.im r.toD,.im (.lst (es.map shD)),.im (.lst (wo.map D.bl)),.no] _
 by_cases hn : r.w = .never
 ·apply zam
  refine zbs (d:=.non) (zak rfl rfl (z6f hn)) ?_
  walk_at "nrm"
  refine zbw (d:=.bl false) (by unfold zd6; rfl) (zbr ?_)
  unfold hup
  rw [hn]
  rfl
 ·obtain ⟨h0,h1⟩:=h.hd hn
  apply zam
  refine zbs (d:=.int r.hd) (zak rfl rfl (zpb hn)) ?_
  walk_at "nrm"
  refine zbw (zhn (a:=true) rfl (zhn (zak rfl rfl (zf0 h0 (by omega))) (zf9 (zau rfl el)))) (zbr ?_)
  unfold hup
  rw [zvi hn]
theorem zw6 {es : List (Option Bool)} {wo : List Bool} (p : Prt) (h : p.Ok es.length) (hw : wo.length = es.length) : zry [p.toD,.lst (es.map shD),.lst (wo.map D.bl)] = some (.bl (p.lost es wo)):=by
 cases p with
 | inn t=>exact zcb (zew (zez rfl (zcj (zoo (zar (zak rfl (zak rfl rfl rfl) (zdd h.1 h.2)) rfl (zep _ _)) (zak rfl (zak rfl rfl rfl) (zf0 h.1 (by rw [hw]; exact h.2)))))))
 | out t=>exact zcb (zcr (zc1 rfl rfl) (zew (zez rfl (zcj (zar (zak rfl (zak rfl rfl rfl) (zdd h.1 h.2)) rfl (zep _ _))))))
 | least k its =>
  refine zcb (zcr (zc1 rfl rfl) (zcr (zc1 rfl rfl) (zew (zez rfl (zcr (zt5 (zat (zd3 its itD (fun z=>!(es.getD z.1.toNat none == some false) && !(wo.getD z.1.toNat false)) (fun z=>D.int z.2) (zcq (zak rfl rfl rfl) rfl) (by have:=h.2; omega) fun z hz=>?_))) (zcj (zar (zau rfl (zh5 (fun t=>!(es.getD t.toNat none == some false) && !(wo.getD t.toNat false)) its)) (zak rfl rfl rfl) rfl)))))))
  have hb:=h.1 z hz
  exact zd1 rfl (zie (zb1 (zar (zak rfl rfl (zdd hb.1 hb.2.1)) rfl (zjl _ _))) (zfo (zde (zak rfl rfl (zf0 hb.1 (by rw [hw]; exact hb.2.1))) rfl))) fun _=>rfl
 | most k its =>
  refine zcb (zcr (zc1 rfl rfl) (zcr (zc1 rfl rfl) (zcr (zc1 rfl rfl) (zcj (zar (zau (zad (zat (zd3 its itD (fun z=>es.getD z.1.toNat none == some true) (fun z=>D.int z.2) (zcq (zak rfl rfl rfl) rfl) (by have:=h.2; omega) fun z hz=>?_)) rfl) (zh5 (fun t=>es.getD t.toNat none == some true) its)) (zak rfl rfl rfl) rfl)))))
  have hb:=h.1 z hz
  exact zd1 rfl (zb1 (zar (zak rfl rfl (zdd hb.1 hb.2.1)) rfl (zep _ _))) fun _=>rfl
theorem zvz {es : List (Option Bool)} {wo : List Bool} (r : Rul) (h : r.Ok es.length) (hw : wo.length = es.length) : zml [r.toD,.lst (es.map shD),.lst (wo.map D.bl)] = some (.bl (hup es wo r)):=by
 apply zeb
 unfold b_22
 show wp _ [.im r.toD,.im (.lst (es.map shD)),.im (.lst (wo.map D.bl))] _
 by_cases hn : r.w = .never
 ·apply zam
  refine zaz (b:=true) (zlr (zb1 (zar (zak rfl rfl rfl) rfl (by rw [zng,hn]; rfl)))) (fun _=>zbw rfl (zbr ?_)) (fun z=>by cases z)
  unfold hup
  rw [hn]
  rfl
 ·obtain ⟨h0,h1⟩:=h.hd hn
  have e0 : (r.w.s == "never") = false:=by
   obtain ⟨w,hd,ps⟩:=r
   cases w <;> first | rfl | exact absurd rfl hn
  apply zam
  refine zaz (b:=!(wo.getD r.hd.toNat false)) (zhl (zb1 (zar (zak rfl rfl rfl) rfl (by rw [zng,e0]))) (zfo (zde (zak rfl (zak rfl rfl (zpb hn)) (zf0 h0 (by omega))) rfl))) (fun z=>zbw rfl (zbr ?_)) (fun z=>zbo ?_)
  ·have z : wo.getD r.hd.toNat false = false:=by simpa using z
   unfold hup
   rw [z,Bool.false_and,Bool.and_false]
  ·have z : wo.getD r.hd.toNat false = true:=by simpa using z
   walk_at "nrm"
   refine zbw (zf9 (zau (zad (zat (zcs r.ps Prt.toD (fun p=>D.bl (p.lost es wo)) (zcq (zak rfl rfl rfl) rfl) (by have:=h.len; omega) fun p hp=>zcp rfl rfl (zau rfl (zw6 p (h.ps p hp) hw)))) rfl) (any_map _ _))) (zbr ?_)
   unfold hup
   rw [z,zvi hn,Bool.true_and,Bool.true_and]
   rfl
noncomputable def ct (bs : List Bool) : Nat:=(bs.filter fun b=>b).length
theorem z12 (bs : List Bool) : ct bs <= bs.length:=List.length_filter_le _ _
theorem zs5 : ∀ (bs : List Bool) (k : Nat),bs.getD k false = true -> ct (bs.set k false) + 1 = ct bs
 | [],k,h=>by simp at h
 | b :: bs,0,h=>by
  have h : b = true:=h
  subst h
  rfl
 | b :: bs,k + 1,h=>by
  have ih:=zs5 bs k (by simpa using h)
  cases b with
  | false=>exact ih
  | true =>
   show (ct (bs.set k false) + 1) + 1 = ct bs + 1
   rw [ih]
theorem z9a (bs : List Bool) (k : Nat) (b : Bool) : (bs.map D.bl).set k (.bl b) = (bs.set k b).map D.bl:=by rw [List.map_set]
noncomputable def zix (es : List (Option Bool)) : List Bool:=es.map fun e=>!(e == some false)
theorem z0p {es : List (Option Bool)} {fi : List Sl -> Option (List D)} {ρ : List Sl} (hi : fi ρ = some (es.map shD)) (hz : es.length <= 1000) : za7 1 [] fi (zaq 0) (fun _=>some true) (m2 zdl (zaa 0) (fun _=>some (.bl false))) ρ = some ((zix es).map D.bl):=by
 unfold zix
 rw [<- z1o]
 exact zcs es shD (fun e=>D.bl (!(e == some false))) hi (by omega) fun e _=>zcp rfl rfl (zar rfl rfl (zjl _ _))
theorem zy5 (rs : List Rul) (hz : rs.length <= 1000) (hp : ∀ r ∈ rs,r.ps.length <= 1000) : m_9 [.lst (rs.map Rul.toD)] = some (.lst (rs.map Rul.toD)):=by
 apply zeb
 unfold b_9
 show wp _ [.im (.lst (rs.map Rul.toD)),.no,.no,.no,.no,.no,.no] _
 walk_at "set"
 apply zam
 refine zea rs Rul.toD (fun pre ρ=>∃ v2 v3 v4 v5 v6,ρ = [.im (.lst (rs.map Rul.toD)),.own (pre.map Rul.toD),v2,v3,v4,v5,v6]) rfl ⟨_,_,_,_,_,rfl⟩ ?_ ?_
 ·rintro pre r post ρ ex ⟨v2,v3,v4,v5,v6,rfl⟩
  have hr : r ∈ rs:=by rw [ex]; simp
  have hpl : pre.length < rs.length:=by rw [ex]; simp
  have hp:=hp r hr
  refine ⟨_,rfl,?_⟩
  walk_at "nrm"
  apply zam
  refine zer (d:=[]) rfl ?_
  walk_at "nrm"
  apply zam
  refine zea r.ps Prt.toD (fun pr ρ=>∃ v6,ρ = [.im (.lst (rs.map Rul.toD)),.own (pre.map Rul.toD),.im (.str r.w.s),.im r.hdD,.im (.lst (r.ps.map Prt.toD)),.own (pr.map Prt.toD),v6]) rfl ⟨_,rfl⟩ ?_ ?_
  ·rintro pr p po ρ ex2 ⟨v6,rfl⟩
   have hpp : pr.length < r.ps.length:=by rw [ex2]; simp
   refine ⟨_,rfl,?_⟩
   walk_at "nrm"
   refine zic (fun ρ'=>ρ' = [.im (.lst (rs.map Rul.toD)),.own (pre.map Rul.toD),.im (.str r.w.s),.im r.hdD,.im (.lst (r.ps.map Prt.toD)),.own (pr.map Prt.toD),.im p.toD]) ?_ ?_
   ·cases p with
    | inn t=>exact zaz (b:=false) rfl (fun z=>by cases z) (fun _=>zbo (k_J rfl))
    | out t=>exact zaz (b:=false) rfl (fun z=>by cases z) (fun _=>zbo (k_J rfl))
    | least k its=>exact zaz (b:=true) rfl (fun _=>zbs (zb7 (zad (zak rfl rfl rfl) (zad (zak rfl rfl rfl) (zad (zat (zcq (zak rfl rfl rfl) rfl)) rfl)))) (k_J rfl)) (fun z=>by cases z)
    | most k its=>exact zaz (b:=true) rfl (fun _=>zbs (zb7 (zad (zak rfl rfl rfl) (zad (zak rfl rfl rfl) (zad (zat (zcq (zak rfl rfl rfl) rfl)) rfl)))) (k_J rfl)) (fun z=>by cases z)
   ·rintro ρ' rfl
    refine zhq rfl rfl (by rw [List.length_map]; omega) ?_
    exact ⟨.im p.toD,by rw [List.map_append]; rfl⟩
  ·rintro ρ ⟨v6,rfl⟩
   refine zhw rfl ?_
   refine zhq (zb7 (zad rfl (zad rfl (zad rfl rfl)))) rfl (by rw [List.length_map]; omega) ?_
   exact ⟨.im (.str r.w.s),.im r.hdD,.im (.lst (r.ps.map Prt.toD)),.im (.lst (r.ps.map Prt.toD)),v6,by rw [List.map_append]; rfl⟩
 ·rintro ρ ⟨v2,v3,v4,v5,v6,rfl⟩
  exact zgv rfl (zk2 rfl)
theorem z3g {es : List (Option Bool)} (p : Prt) (h : p.Ok es.length) : zmk [p.toD,.lst (es.map shD)] = some (.bl (p.sure es)):=by
 cases p with
 | inn t=>exact zcb (zew (zez rfl (zcj (zar (zak rfl (zak rfl rfl rfl) (zdd h.1 h.2)) rfl (zep _ _)))))
 | out t=>exact zcb (zcr (zc1 rfl rfl) (zew (zez rfl (zcj (zar (zak rfl (zak rfl rfl rfl) (zdd h.1 h.2)) rfl (zep _ _))))))
 | least k its =>
  refine zcb (zcr (zc1 rfl rfl) (zcr (zc1 rfl rfl) (zew (zez rfl (zcj (zar (zau (zad (zat (zd3 its itD (fun z=>es.getD z.1.toNat none == some true) (fun z=>D.int z.2) (zcq (zak rfl rfl rfl) rfl) (by have:=h.2; omega) fun z hz=>?_)) rfl) (zh5 (fun t=>es.getD t.toNat none == some true) its)) (zak rfl rfl rfl) rfl))))))
  have hb:=h.1 z hz
  exact zd1 rfl (zb1 (zar (zak rfl rfl (zdd hb.1 hb.2.1)) rfl (zep _ _))) fun _=>rfl
 | most k its =>
  refine zcb (zcr (zc1 rfl rfl) (zcr (zc1 rfl rfl) (zcr (zc1 rfl rfl) (zcj (zar (zau (zad (zat (zd3 its itD (fun z=>!(es.getD z.1.toNat none == some false)) (fun z=>D.int z.2) (zcq (zak rfl rfl rfl) rfl) (by have:=h.2; omega) fun z hz=>?_)) rfl) (zh5 (fun t=>!(es.getD t.toNat none == some false)) its)) (zak rfl rfl rfl) rfl)))))
  have hb:=h.1 z hz
  exact zd1 rfl (zb1 (zar (zak rfl rfl (zdd hb.1 hb.2.1)) rfl (zjl _ _))) fun _=>rfl
theorem zqf {es : List (Option Bool)} (r : Rul) (h : r.Ok es.length) : m_6 [r.toD,.lst (es.map shD)] = some (.bl (r.surely es)):=by
 have hb : ∀ ρ : List Sl,ρ = [.im r.toD,.im (.lst (es.map shD))] -> (zap zf5 (zab (zal (za7 1 [1] (zbl (mIx (zaf 0) (fun _=>some (.int 2)))) (zaq 0) (fun _=>some true) (zap zmk (zab (zaa 0) (zab (zaa 1) (fun _=>some [])))))) (fun _=>some []))) ρ = some (.bl (r.bodySure es)):=fun ρ e=>by
  subst e
  exact zau (zad (zat (zcs r.ps Prt.toD (fun p=>D.bl (p.sure es)) (zcq (zak rfl rfl rfl) rfl) (by have:=h.len; omega) fun p hp=>zcp rfl rfl (zau rfl (z3g p (h.ps p hp))))) rfl) (all_map _ _)
 have hh:=h.hd
 have hb:=hb _ rfl
 obtain ⟨w,hd,ps⟩:=r
 cases w with
 | may=>exact zcb (zew (zez (zlr rfl) rfl))
 | never=>exact zcb (zcr (zc1 (zhl rfl (zlg rfl)) rfl) (zcj hb))
 | make =>
  obtain ⟨h0,h1⟩:=hh (fun z=>by cases z)
  have e : mB (m2 zdl (mIx (zaf 1) (mIx (zaf 0) (fun _=>some (.int 1)))) (fun _=>some (.bl false))) [.im (Rul.toD ⟨.make,hd,ps⟩),.im (.lst (es.map shD))] = some (!(es.getD hd.toNat none == some false)) :=
   zb1 (zar (zak rfl (zak rfl rfl rfl) (zdd h0 h1)) rfl (zjl _ _))
  cases hc : (es.getD hd.toNat none == some false) with
  | true =>
   rw [hc] at e
   refine (zcb (zcr (zc1 (zhl rfl (zh7 rfl e)) rfl) (zcj hb))).trans ?_
   show _ = some (D.bl ((es.getD hd.toNat none == some false) && _))
   rw [hc]
   rfl
  | false =>
   rw [hc] at e
   refine (zcb (zew (zez (zhl rfl (zh7 rfl e)) rfl))).trans ?_
   show _ = some (D.bl ((es.getD hd.toNat none == some false) && _))
   rw [hc]
   rfl
theorem zpj {α : Type} (f : α -> Bool) (xs : List α) : zf5 [.lst (xs.map fun x=>D.bl (f x))] = some (.bl (xs.all f)):=by
 have e : (xs.map fun x=>D.bl (f x)) = (xs.map f).map D.bl:=by rw [List.map_map]; rfl
 rw [e]
 show (zem ((xs.map f).map D.bl)).map (fun bs=>D.bl (bs.all id)) = _
 rw [zm0,Option.map_some,List.all_map]
 rfl
theorem zkq {α : Type} (f : α -> Bool) (xs : List α) : ze6 [.lst (xs.map fun x=>D.bl (f x))] = some (.bl (xs.any f)):=by
 have e : (xs.map fun x=>D.bl (f x)) = (xs.map f).map D.bl:=by rw [List.map_map]; rfl
 rw [e]
 show (zem ((xs.map f).map D.bl)).map (fun bs=>D.bl (bs.any id)) = _
 rw [zm0,Option.map_some,List.any_map]
 rfl
theorem zu5 (e : Option Bool) (b : Bool) : dEq (shD e) (.bl b) = some (.bl (e == some b)):=by
 cases e with
 | none=>cases b <;> rfl
 | some c=>cases b <;> cases c <;> rfl
theorem ztl (e : Option Bool) : zdl (shD e) .non = some (.bl e.isSome):=by cases e <;> rfl
noncomputable def brD (z : Int × Bool) : D:=.tup [.int z.1,.bl z.2]
noncomputable def zfs (n : Nat) (zs : List (Int × Bool)) : Prop:=(∀ z ∈ zs,0 <= z.1 /\ z.1 < (n : Int)) /\ zs.length <= 60
noncomputable def zdy (n : Nat) (xs : List Int) : Prop:=(∀ x ∈ xs,0 <= x /\ x < (n : Int)) /\ xs.length <= 63
noncomputable def zf8 (es : List (Option Bool)) (zs : List (Int × Bool)) : Bool:=zs.all fun z=>es.getD z.1.toNat none == some z.2
theorem z17 {es : List (Option Bool)} {zs : List (Int × Bool)} (h : zfs es.length zs) : zpu [.lst (es.map shD),.lst (zs.map brD)] = some (.bl (zf8 es zs)) :=
 zcb (zcj (zau (zad (zat (zcs zs brD (fun z=>D.bl (es.getD z.1.toNat none == some z.2)) rfl (by have:=h.2; omega) fun z hz=>zcp rfl rfl (zar (zak rfl rfl (zdd (h.1 z hz).1 (h.1 z hz).2)) rfl (zu5 _ _)))) rfl) (zpj _ _)))
theorem zvt {es : List (Option Bool)} {zs : List (Int × Bool)} (h : zfs es.length zs) : zm4 [.lst (es.map shD),.lst (zs.map brD)] = some (.bl (zf8 es zs)) :=
 zcb (zcj (zau (zad (zat (zcs zs brD (fun z=>D.bl (es.getD z.1.toNat none == some z.2)) rfl (by have:=h.2; omega) fun z hz=>zcp rfl rfl (zar (zak rfl rfl (zdd (h.1 z hz).1 (h.1 z hz).2)) rfl (zu5 _ _)))) rfl) (zpj _ _)))
theorem z0h {es : List (Option Bool)} {wo : List Bool} {r : Rul} (h : hup es wo r = true) : r.w ≠ .never /\ wo.getD r.hd.toNat false = true:=by
 unfold hup at h
 have h' : r.w ≠ .never /\ wo.getD r.hd.toNat false = true /\ r.bodyLost es wo = false:=by simpa using h
 exact ⟨h'.1,h'.2.1⟩
theorem zzg (rs : List Rul) (es : List (Option Bool)) (n60 : es.length <= 60) (hok : ∀ r ∈ rs,r.Ok es.length) : ∃ wo : List Bool,zq1 [.lst (rs.map Rul.toD),.lst (es.map shD)] = some (.lst (wo.map D.bl)) /\ wo.length = es.length:=by
 have hno : (zix es).length = es.length:=by unfold zix; rw [List.length_map]
 have : wp b_14 (zdx 5 [.lst (rs.map Rul.toD),.lst (es.map shD)]) (fun o=>∃ wo : List Bool,o = .rtO (wo.map D.bl) /\ wo.length = es.length):=by
  unfold b_14
  show wp _ [.im (.lst (rs.map Rul.toD)),.im (.lst (es.map shD)),.no,.no,.no] _
  apply zam
  refine zer (z0p rfl (by omega)) ?_
  walk_at "nrm"
  apply zam
  refine zbs (d:=.bl true) rfl ?_
  walk_at "nrm"
  apply zam
  refine zt8 (fun m ρ=>∃ (wo : List Bool) (ch : Bool) (v4 : Sl),ρ = [.im (.lst (rs.map Rul.toD)),.im (.lst (es.map shD)),.own (wo.map D.bl),.im (.bl ch),v4] /\ wo.length = es.length /\ ct wo + (if ch then 1 else 0) = m) ?_ _ (ct (zix es) + 1) _ ⟨zix es,true,.no,rfl,hno,rfl⟩ (by have:=z12 (zix es); omega)
  rintro m ρ ⟨wo,ch,v4,rfl,hl,hm⟩
  refine ⟨ch,rfl,?_,?_⟩
  ·rintro rfl
   apply zam
   refine zbs (d:=.bl false) rfl ?_
   walk_at "nrm"
   refine zea rs Rul.toD (fun _ ρ=>∃ (wo' : List Bool) (ch : Bool) (v4 : Sl),ρ = [.im (.lst (rs.map Rul.toD)),.im (.lst (es.map shD)),.own (wo'.map D.bl),.im (.bl ch),v4] /\ wo'.length = es.length /\ ct wo' + (if ch then 1 else 0) <= ct wo) rfl ⟨wo,false,v4,rfl,hl,Nat.le_refl _⟩ ?_ ?_
   ·rintro pre r post ρ ex ⟨wo',ch,v4,rfl,hl',hc⟩
    have hrs : r ∈ rs:=by rw [ex]; simp
    have er:=zvz (wo:=wo') r (hok r hrs) hl'
    refine ⟨_,rfl,?_⟩
    walk_at "nrm"
    refine zaz (zde (zl5 (zad rfl (zad rfl (zad rfl rfl))) er rfl) rfl) (fun z=>?_) (fun z=>?_)
    ·obtain ⟨a,b⟩:=z0h z
     obtain ⟨h0,h1⟩:=(hok r hrs).hd a
     have hcs:=zs5 wo' r.hd.toNat b
     apply zam
     refine zii (k:=r.hd) (xs:=wo'.map D.bl) rfl (zak rfl rfl (zpb a)) rfl h0 (by rw [List.length_map]; omega) ?_
     walk_at "nrm"
     refine zbs rfl ?_
     refine ⟨wo'.set r.hd.toNat false,true,.im r.toD,by rw [<- z9a]; rfl,by rw [List.length_set]; exact hl',?_⟩
     rw [if_pos rfl]
     have : ct wo' <= ct wo:=Nat.le_trans (Nat.le_add_right _ _) hc
     omega
    ·exact zbo ⟨wo',ch,.im r.toD,rfl,hl',hc⟩
   ·rintro ρ ⟨wo',ch,v4,rfl,hl',hc⟩
    rw [if_pos rfl] at hm
    exact ⟨_,by omega,wo',ch,v4,rfl,hl',rfl⟩
  ·rintro rfl
   exact zgv rfl ⟨wo,rfl,hl⟩
 obtain ⟨o,e,wo,rfl,hl⟩:=this
 exact ⟨wo,zjy e,hl⟩
theorem z11 (cm : Bool) (c n : Int) (n0 : 0 <= n) (n60 : n <= 60) : ∃ d,zqb [.int c,.int n,.bl cm] = some d /\ ∃ r : Rul,d = r.toD /\ r.Ok n.toNat /\ r.ps.length <= 3:=by
 apply zg0
 unfold b_43
 show wp _ [.im (.int c),.im (.int n),.im (.bl cm),.no,.no] _
 obtain ⟨d,em,xs,rfl,hl,hx⟩:=zl1 c 33 (by decide) (by decide)
 have hl' : xs.length = 33:=by omega
 obtain ⟨a0,h0,e0⟩:=zb4 (f:=D.int) (xs:=xs) (i:=0) (by decide) (by omega)
 obtain ⟨a1,h1,e1⟩:=zb4 (f:=D.int) (xs:=xs) (i:=1) (by decide) (by omega)
 obtain ⟨a2,h2,e2⟩:=zb4 (f:=D.int) (xs:=xs) (i:=2) (by decide) (by omega)
 walk_at "set"
 apply zam
 walk_at "if0"
 ·intro hb
  have hn : n = 0:=by simpa using hb
  subst hn
  obtain ⟨wd,hwd,ew⟩:=zb4 (f:=D.str) (xs:=["least","most"]) (i:=a0 % 2) (Int.emod_nonneg _ (by decide)) (Int.emod_lt_of_pos _ (by decide))
  have hw2:=List.mem_of_getElem? hwd
  simp only [List.mem_cons,List.not_mem_nil,or_false] at hw2
  obtain ⟨p,ep,hp⟩ : ∃ p : Prt,p.toD = .tup [.str wd,.int (a1 % 3 - 1),.lst []] /\ p.Ok 0:=by
   rcases hw2 with rfl | rfl
   ·exact ⟨.least (a1 % 3 - 1) [],rfl,⟨(fun z hz=>nomatch hz),by decide⟩⟩
   ·exact ⟨.most (a1 % 3 - 1) [],rfl,⟨(fun z hz=>nomatch hz),by decide⟩⟩
  have es : mSl (zal (zab (zbm (zab (mIx (zab (fun _=>some (.str "least")) (zab (fun _=>some (.str "most")) (fun _=>some []))) (m2 zbv (mIx (zaf 3) (fun _=>some (.int 0))) (fun _=>some (.int 2)))) (zab (m2 zij (m2 zbv (mIx (zaf 3) (fun _=>some (.int 1))) (fun _=>some (.int 3))) (fun _=>some (.int 1))) (zab (zal (fun _=>some [])) (fun _=>some []))))) (fun _=>some []))) (fun _=>some none) (mPt (m2 zbv (mIx (zaf 3) (fun _=>some (.int 2))) (fun _=>some (.int 6)))) [.im (.int c),.im (.int 0),.im (.bl cm),.im (.lst (xs.map D.int)),.no] = some ((([p].drop (HT.sIx [p].length 0 none)).take (HT.sIx [p].length [p].length (some (a2 % 6)) - HT.sIx [p].length 0 none)).map Prt.toD):=by
   refine zc7 (xs:=[p]) (g:=Prt.toD) ?_ rfl ?_
   ·rw [List.map_cons,List.map_nil,ep]
    walk_at "ev"
   ·unfold mPt
    rw [show (m2 zbv (mIx (zaf 3) (fun _=>some (.int 2))) (fun _=>some (.int 6))) [.im (.int c),.im (.int 0),.im (.bl cm),.im (.lst (xs.map D.int)),.no] = some (.int (a2 % 6)) by walk_at "ev"]
    rfl
  refine zbw (zb7 (zad rfl (zad rfl (zad (zat es) rfl)))) (zbr ⟨⟨.never,0,_⟩,rfl,⟨fun h=>absurd rfl h,fun q hq=>?_,?_⟩,?_⟩)
  ·have : q = p:=by simpa using zvo hq
   rw [this]
   exact hp
  ·show (List.take _ (List.drop _ [p])).length <= _
   rw [List.length_take,List.length_drop]
   show min _ (1 - _) <= _
   omega
  ·show (List.take _ (List.drop _ [p])).length <= _
   rw [List.length_take,List.length_drop]
   show min _ (1 - _) <= _
   omega
 ·intro hb
  have hn : n ≠ 0:=by simpa using hb
  have n1 : 1 <= n:=by omega
  apply zbo
  walk_at "nrm"
  obtain ⟨t,ht,et⟩:=zb4 (f:=D.int) (xs:=[1,1,2,2,3,0]) (i:=a0 % 6) (Int.emod_nonneg _ (by decide)) (Int.emod_lt_of_pos _ (by decide))
  have t3 : 0 <= t /\ t <= 3:=by
   have : ∀ x ∈ ([1,1,2,2,3,0] : List Int),0 <= x /\ x <= 3:=by decide
   exact this t (List.mem_of_getElem? ht)
  obtain ⟨ps,ep,lp,hp⟩:=zsr (k:=1) (js:=[1,3]) (fi:=(zdm (zab (mIx (zab (fun _=>some (.int 1)) (zab (fun _=>some (.int 1)) (zab (fun _=>some (.int 2)) (zab (fun _=>some (.int 2)) (zab (fun _=>some (.int 3)) (zab (fun _=>some (.int 0)) (fun _=>some []))))))) (m2 zbv (mIx (zaf 3) (fun _=>some (.int 0))) (fun _=>some (.int 6)))) (fun _=>some [])))) (g:=zaq 0) (ft:=fun _=>some true) (fe:=(zap zm2 (zab (zal (mSl (zaa 2) (mPt (m2 zci (fun _=>some (.int 3)) (m2 zdc (fun _=>some (.int 10)) (zaa 0)))) (mPt (m2 zci (fun _=>some (.int 13)) (m2 zdc (fun _=>some (.int 10)) (zaa 0)))))) (zab (zaa 1) (fun _=>some []))))) (ρ:=[.im (.int c),.im (.int n),.im (.bl cm),.im (.lst (xs.map D.int)),.no]) (List.range t.toNat) (fun (i : Nat)=>D.int i) Prt.toD (fun p=>p.Ok n.toNat) (ze2 (by walk_at "ev") t3.1 (by omega)) (by rw [List.length_range]; omega) fun i hi=>by
   have hi:=List.mem_range.mp hi
   have es : mSl (zaa 2) (mPt (m2 zci (fun _=>some (.int 3)) (m2 zdc (fun _=>some (.int 10)) (zaa 0)))) (mPt (m2 zci (fun _=>some (.int 13)) (m2 zdc (fun _=>some (.int 10)) (zaa 0)))) [.im (.int i),.im (.int n),.im (.lst (xs.map D.int))] = some ((((xs.drop (HT.sIx xs.length 0 (some (3 + 10 * (i : Int)))))).take (HT.sIx xs.length xs.length (some (13 + 10 * (i : Int))) - HT.sIx xs.length 0 (some (3 + 10 * (i : Int))))).map D.int):=by
    refine zc7 rfl ?_ ?_
    ·unfold mPt
     rw [show (m2 zci (fun _=>some (.int 3)) (m2 zdc (fun _=>some (.int 10)) (zaa 0))) [.im (.int i),.im (.int n),.im (.lst (xs.map D.int))] = some (.int (3 + 10 * (i : Int))) by walk_at "ev"]
     rfl
    ·unfold mPt
     rw [show (m2 zci (fun _=>some (.int 13)) (m2 zdc (fun _=>some (.int 10)) (zaa 0))) [.im (.int i),.im (.int n),.im (.lst (xs.map D.int))] = some (.int (13 + 10 * (i : Int))) by walk_at "ev"]
     rfl
   obtain ⟨d,ed,p,rfl,hp,_⟩:=z31 ((xs.drop (HT.sIx xs.length 0 (some (3 + 10 * (i : Int))))).take (HT.sIx xs.length xs.length (some (13 + 10 * (i : Int))) - HT.sIx xs.length 0 (some (3 + 10 * (i : Int))))) n (by
    rw [List.length_take,List.length_drop,show (3 + 10 * (i : Int)) = ((3 + 10 * i : Nat) : Int) by omega,show (13 + 10 * (i : Int)) = ((13 + 10 * i : Nat) : Int) by omega,HT.sIx_nat,HT.sIx_nat]
    omega) (fun y hy=>hx y (zvo hy)) n1 n60
   exact ⟨p,hp,zcp rfl rfl (zau (zad (zat es) (zad rfl rfl)) ed)⟩
  rw [List.length_range] at lp
  apply zam
  refine zbs (zat ep) ?_
  walk_at "nrm"
  have eN : (m2 dNe (zaa 4) (zal (fun _=>some []))) [.im (.int c),.im (.int n),.im (.bl cm),.im (.lst (xs.map D.int)),.im (.lst (ps.map Prt.toD))] = some (.bl (!ps.isEmpty)):=zar rfl rfl (zi8 _ _)
  apply zam
  walk_at "if0"
  ·intro _
   walk_at "if0"
   exact zbr ⟨⟨.never,0,ps⟩,rfl,⟨fun h=>absurd rfl h,hp,by show ps.length <= _; omega⟩,by show ps.length <= 3; omega⟩
  ·intro _
   apply zbo
   walk_at "nrm"
   obtain ⟨w,hw,ew⟩:=zb4 (f:=fun w : Wrd=>D.str w.s) (xs:=[.make,.may]) (i:=a1 / 8 % 2) (Int.emod_nonneg _ (by decide)) (Int.emod_lt_of_pos _ (by decide))
   have q0:=Int.emod_nonneg (a2 / 4) (show n ≠ 0 by omega)
   have q1:=Int.emod_lt_of_pos (a2 / 4) (show 0 < n by omega)
   walk_at "if0"
   refine zbr ⟨⟨w,a2 / 4 % n,ps⟩,?_,⟨fun _=>⟨q0,by show a2 / 4 % n < _; omega⟩,hp,by show ps.length <= _; omega⟩,by show ps.length <= 3; omega⟩
   have hw2:=List.mem_of_getElem? hw
   simp only [List.mem_cons,List.not_mem_nil,or_false] at hw2
   rcases hw2 with rfl | rfl <;> rfl
noncomputable def zey : Rul:=⟨.never,0,[]⟩
inductive Wy where
 | rul (k : Int)
 | bar (k : Int)
 | wld (k : Int)
 | grp (xs : List Int)
noncomputable def Wy.toD : Wy -> D
 | .rul k=>.tup [.str "rule",.int k]
 | .bar k=>.tup [.str "bar",.int k]
 | .wld k=>.tup [.str "world",.int k]
 | .grp xs=>.tup [.str "group",.lst (xs.map D.int)]
noncomputable def Wy.Ok (n : Nat) : Wy -> Prop
 | .rul k=>0 <= k
 | .bar k=>0 <= k
 | .wld k=>0 <= k
 | .grp xs=>zdy n xs
noncomputable def seD (xs : List Int) : D:=.lst (xs.map D.int)
noncomputable def baD (zs : List (Int × Bool)) : D:=.lst (zs.map brD)
noncomputable def wiS (n : Nat) (xs : List Int) : List Bool:=(List.range n).map (inS xs)
theorem zm5 (n : Nat) (xs : List Int) : (wiS n xs).length = n:=by unfold wiS; rw [List.length_map,List.length_range]
noncomputable def rgt (rs : List Rul) (ss : List (List Int)) (bs : List (List (Int × Bool))) (es : List (Option Bool)) : Wy -> Bool
 | .rul k=>decide (k < (rs.length : Int)) && (rs.getD k.toNat zey).surely es
 | .bar k=>decide (k < (bs.length : Int)) && zf8 es (bs.getD k.toNat [])
 | .wld k=>decide (k < (ss.length : Int)) && (es == (wiS es.length (ss.getD k.toNat [])).map some)
 | .grp xs=>(xs.any fun x=>es.getD x.toNat none == some true) && !(rs.any fun r=>hup es (wiS es.length xs) r)
theorem zsc : ∀ (es : List (Option Bool)) (bs : List Bool),es.length = bs.length -> zcw (deq 19) (es.map shD) (bs.map D.bl) = some (es == bs.map some)
 | [],[],_=>rfl
 | [],_ :: _,h=>by cases h
 | _ :: _,[],h=>by cases h
 | e :: es,b :: bs,h=>by
  have ih:=zsc es bs (by simpa using h)
  have e1 : deq 19 (shD e) (.bl b) = some (e == some b):=by
   cases e with
   | none=>cases b <;> rfl
   | some c=>cases b <;> cases c <;> rfl
  show ((deq 19 (shD e) (.bl b)).bind fun x=>(zcw (deq 19) (es.map shD) (bs.map D.bl)).map fun r=>x && r) = _
  rw [e1,ih]
  rfl
theorem zp1 (es : List (Option Bool)) (bs : List Bool) (h : es.length = bs.length) : dEq (.lst (es.map shD)) (.lst (bs.map D.bl)) = some (.bl (es == bs.map some)):=by
 show ((if (es.map shD).length = (bs.map D.bl).length then zcw (deq 19) (es.map shD) (bs.map D.bl) else some false) : Option Bool).map D.bl = _
 rw [if_pos (by rw [List.length_map,List.length_map]; exact h),zsc es bs h]
 rfl
theorem zlx {p : Prop} [Decidable p] {f g : List Sl -> Option D} {ρ : List Sl} {b : Bool} (h : f ρ = some (.bl (decide p))) (h' : p -> g ρ = some (.bl b)) : zd6 f g ρ = some (.bl (decide p && b)):=by
 by_cases q : p
 ·exact zhn h (h' q)
 ·unfold zd6
  rw [zb1 h,decide_eq_false q]
  rfl
theorem zq6 {α : Type} (f : α -> D) (xs : List α) (k : Int) (k0 : 0 <= k) : m_4 [.lst (xs.map f),.int k] = some (.bl (decide (k < (xs.length : Int)))):=by
 have : ziu dLe dLt (fun _=>some (.int 0)) (zaa 1) (zap zcd (zab (zaa 0) (fun _=>some []))) [.im (.lst (xs.map f)),.im (.int k)] = some (.bl (decide (0 <= k) && decide (k < (xs.length : Int)))):=zxg rfl rfl zv6 (zau rfl (zc3 _ _)) zj8
 rw [decide_eq_true k0] at this
 exact zcb (zcj this)
theorem zvj {xs : List Int} {n : Nat} {k : Nat} {js : List Nat} {fi : List Sl -> Option (List D)} {fe : List Sl -> Option D} {ρ : List Sl} (hn : n <= 1000) (hi : fi ρ = some ((List.range n).map fun (i : Nat)=>D.int i)) (he : ∀ i : Nat,fe ((zdi k js ρ).set 0 (.im (.int i))) = some (.bl (inS xs i))) : za7 k js fi (zaq 0) (fun _=>some true) fe ρ = some ((wiS n xs).map D.bl):=by
 unfold wiS
 rw [List.map_map]
 exact zcs (List.range n) (fun (i : Nat)=>D.int i) (fun i=>D.bl (inS xs i)) hi (by rw [List.length_range]; omega) fun i _=>zcp rfl rfl (he i)
section
variable {rs : List Rul} {ss : List (List Int)} {bs : List (List (Int × Bool))} {es : List (Option Bool)}
theorem zqa (hok : ∀ r ∈ rs,r.Ok es.length) (hz : rs.length <= 1000) (hs : ∀ s ∈ ss,zdy es.length s) (hb : ∀ b ∈ bs,zfs es.length b) (n60 : es.length <= 60) (w : Wy) (hw : w.Ok es.length) :
  m_3 [.lst (rs.map Rul.toD),.lst (ss.map seD),.lst (bs.map baD),.lst (es.map shD),w.toD] = some (.bl (rgt rs ss bs es w)):=by
 apply zeb
 unfold b_3
 show wp _ [.im (.lst (rs.map Rul.toD)),.im (.lst (ss.map seD)),.im (.lst (bs.map baD)),.im (.lst (es.map shD)),.im w.toD,.no,.no,.no] _
 cases w with
 | rul k =>
  apply zam
  refine zhm rfl rfl ?_
  walk_at "nrm"
  apply zam
  refine zaz (b:=true) rfl (fun _=>zbw (zlx (p:=k < (rs.length : Int)) (zar rfl (zau rfl (zc3 _ _)) zj8) fun q=>?_) (zbr rfl)) (fun z=>by cases z)
  obtain ⟨r,hr,er⟩:=zb4 (f:=Rul.toD) (xs:=rs) (i:=k) hw q
  have : rs.getD k.toNat zey = r:=by rw [List.getD_eq_getElem?_getD,hr]; rfl
  rw [this]
  exact zau (zad (zak rfl rfl er) (zad rfl rfl)) (zqf r (hok r (List.mem_of_getElem? hr)))
 | bar k =>
  apply zam
  refine zhm rfl rfl ?_
  walk_at "nrm"
  apply zam
  refine zaz (b:=false) rfl (fun z=>by cases z) (fun _=>zbo ?_)
  walk_at "nrm"
  apply zam
  refine zaz (b:=true) rfl (fun _=>zbw (zlx (p:=k < (bs.length : Int)) (zar rfl (zau rfl (zc3 _ _)) zj8) fun q=>?_) (zbr rfl)) (fun z=>by cases z)
  obtain ⟨r,hr,er⟩:=zb4 (f:=baD) (xs:=bs) (i:=k) hw q
  have : bs.getD k.toNat [] = r:=by rw [List.getD_eq_getElem?_getD,hr]; rfl
  rw [this]
  exact zau (zad rfl (zad (zak rfl rfl er) rfl)) (zvt (hb r (List.mem_of_getElem? hr)))
 | wld k =>
  apply zam
  refine zhm rfl rfl ?_
  walk_at "nrm"
  apply zam
  refine zaz (b:=false) rfl (fun z=>by cases z) (fun _=>zbo ?_)
  walk_at "nrm"
  apply zam
  refine zaz (b:=false) rfl (fun z=>by cases z) (fun _=>zbo ?_)
  walk_at "nrm"
  apply zam
  refine zaz (b:=decide (k < (ss.length : Int))) (zh7 rfl (zb1 (zar rfl (zau rfl (zc3 _ _)) zj8))) (fun z=>?_) (fun z=>zbo ?_)
  ·obtain ⟨r,hr,er⟩:=zb4 (f:=seD) (xs:=ss) (i:=k) hw (by simpa using z)
   have e : ss.getD k.toNat [] = r:=by rw [List.getD_eq_getElem?_getD,hr]; rfl
   refine zbw (zar rfl (zat (zvj (xs:=r) (n:=es.length) (by omega) (ze2 (n:=(es.length : Int)) (zad (zau rfl (zc3 _ _)) rfl) (by omega) (by omega)) fun i=>zar rfl (zak rfl rfl er) (zus _ _))) (zp1 es _ (zm5 _ _).symm)) (zbr ?_)
   show _ = D.bl (decide (k < (ss.length : Int)) && (es == (wiS es.length (ss.getD k.toNat [])).map some))
   rw [z,e]
   rfl
  ·walk_at "nrm"
   apply zam
   refine zaz (b:=true) rfl (fun _=>zbw rfl (zbr ?_)) (fun z=>by cases z)
   show _ = D.bl (decide (k < (ss.length : Int)) && (es == (wiS es.length (ss.getD k.toNat [])).map some))
   rw [z]
   rfl
 | grp xs =>
  apply zam
  refine zhm rfl rfl ?_
  walk_at "nrm"
  apply zam
  refine zaz (b:=false) rfl (fun z=>by cases z) (fun _=>zbo ?_)
  walk_at "nrm"
  apply zam
  refine zaz (b:=false) rfl (fun z=>by cases z) (fun _=>zbo ?_)
  walk_at "nrm"
  apply zam
  refine zaz (b:=false) (zlg rfl) (fun z=>by cases z) (fun _=>zbo ?_)
  walk_at "nrm"
  apply zam
  refine zaz (b:=false) rfl (fun z=>by cases z) (fun _=>zbo ?_)
  walk_at "nrm"
  have hw2:=hw.2
  apply zam
  refine zaz (b:=!(xs.any fun x=>es.getD x.toNat none == some true)) (zfo (zde (zau (zad (zat (zcs xs D.int (fun x=>D.bl (es.getD x.toNat none == some true)) rfl (by omega) fun x hx=>zcp rfl rfl (zar (zak rfl rfl (zdd (hw.1 x hx).1 (hw.1 x hx).2)) rfl (zep _ _)))) rfl) (zkq _ _)) rfl)) (fun z=>zbw rfl (zbr ?_)) (fun z=>zbo ?_)
  ·have z : (xs.any fun x=>es.getD x.toNat none == some true) = false:=by simpa using z
   show _ = D.bl ((xs.any fun x=>es.getD x.toNat none == some true) && _)
   rw [z]
   rfl
  ·have z : (xs.any fun x=>es.getD x.toNat none == some true) = true:=by
    cases e : (xs.any fun x=>es.getD x.toNat none == some true) with
    | true=>rfl
    | false=>rw [e] at z; cases z
   walk_at "nrm"
   apply zam
   refine zbs (zat (zvj (xs:=xs) (n:=es.length) (by omega) (ze2 (n:=(es.length : Int)) (zad (zau rfl (zc3 _ _)) rfl) (by omega) (by omega)) fun i=>zar rfl rfl (zus _ _))) ?_
   walk_at "nrm"
   refine zbw (zf9 (zau (zad (zat (zcs rs Rul.toD (fun r=>D.bl (hup es (wiS es.length xs) r)) rfl (by omega) fun r hr=>zcp rfl rfl (zau rfl (zvz r (hok r hr) (zm5 _ _))))) rfl) (zkq _ _))) (zbr ?_)
   show _ = D.bl ((xs.any fun x=>es.getD x.toNat none == some true) && _)
   rw [z]
   rfl
theorem z0f (hok : ∀ r ∈ rs,r.Ok es.length) (hz : rs.length <= 1000) (n60 : es.length <= 60) (xs : List Int) (hw : zdy es.length xs) :
  zpi [plD es.length rs,.lst (es.map shD),.lst (xs.map D.int)] = some (.bl (rgt rs ss bs es (.grp xs))):=by
 have hw2:=hw.2
 have em : m_8 [.int (es.length : Int),.lst (xs.map D.int)] = some (.lst ((wiS es.length xs).map D.bl)):=zu1 (es.length : Int) xs (by omega) (by omega) hw.2
 have eh : zpv [.lst (es.map shD),.lst (xs.map D.int)] = some (.bl (xs.any fun x=>es.getD x.toNat none == some true)) :=
  zcb (zcj (zau (zad (zat (zcs xs D.int (fun x=>D.bl (es.getD x.toNat none == some true)) rfl (by omega) fun x hx=>zcp rfl rfl (zar (zak rfl rfl (zdd (hw.1 x hx).1 (hw.1 x hx).2)) rfl (zep _ _)))) rfl) (zkq _ _)))
 apply zeb
 unfold b_46
 show wp _ [.im (plD es.length rs),.im (.lst (es.map shD)),.im (.lst (xs.map D.int)),.no] _
 apply zam
 refine zbs (zau (zad (zak rfl rfl rfl) (zad rfl rfl)) em) ?_
 walk_at "nrm"
 apply zam
 refine zaz (zde (zau (zad (zat (zcs rs Rul.toD (fun r=>D.bl (hup es (wiS es.length xs) r)) (zcq (zak rfl rfl rfl) rfl) (by omega) fun r hr=>zcp rfl rfl (zau rfl (z0s r (hok r hr) (zm5 _ _))))) rfl) (zkq _ _)) rfl) (fun z=>zbw rfl (zbr ?_)) (fun z=>zbo ?_)
 ·show _ = D.bl (_ && !(rs.any fun r=>hup es (wiS es.length xs) r))
  rw [z,Bool.not_true,Bool.and_false]
 ·walk_at "nrm"
  refine zbw (zau rfl eh) (zbr ?_)
  show _ = D.bl (_ && !(rs.any fun r=>hup es (wiS es.length xs) r))
  rw [z,Bool.not_false,Bool.and_true]
theorem zyb (hok : ∀ r ∈ rs,r.Ok es.length) (hz : rs.length <= 1000) (hs : ∀ s ∈ ss,zdy es.length s) (hb : ∀ b ∈ bs,zfs es.length b) (n60 : es.length <= 60) (w : Wy) (hw : w.Ok es.length) :
  zn8 [plD es.length rs,.lst (ss.map seD),.lst (bs.map baD),.lst (es.map shD),w.toD] = some (.bl (rgt rs ss bs es w)):=by
 apply zeb
 unfold b_13
 show wp _ [.im (plD es.length rs),.im (.lst (ss.map seD)),.im (.lst (bs.map baD)),.im (.lst (es.map shD)),.im w.toD,.no] _
 cases w with
 | rul k =>
  apply zam
  refine zaz (b:=false) rfl (fun z=>by cases z) (fun _=>zbo ?_)
  walk_at "nrm"
  apply zam
  refine zbs (d:=.int k) (zak rfl rfl rfl) ?_
  walk_at "nrm"
  apply zam
  refine zaz (b:=true) rfl (fun _=>zbw (zlx (p:=k < (rs.length : Int)) (zau (zad (zak rfl rfl rfl) (zad rfl rfl)) (zq6 Rul.toD rs k hw)) fun q=>?_) (zbr rfl)) (fun z=>by cases z)
  obtain ⟨r,hr,er⟩:=zb4 (f:=Rul.toD) (xs:=rs) (i:=k) hw q
  have : rs.getD k.toNat zey = r:=by rw [List.getD_eq_getElem?_getD,hr]; rfl
  rw [this]
  exact zau (zad (zak (zcq (zak rfl rfl rfl) rfl) rfl er) (zad rfl rfl)) (z48 r (hok r (List.mem_of_getElem? hr)))
 | bar k =>
  apply zam
  refine zaz (b:=false) rfl (fun z=>by cases z) (fun _=>zbo ?_)
  walk_at "nrm"
  apply zam
  refine zbs (d:=.int k) (zak rfl rfl rfl) ?_
  walk_at "nrm"
  apply zam
  refine zaz (b:=false) rfl (fun z=>by cases z) (fun _=>zbo ?_)
  walk_at "nrm"
  apply zam
  refine zaz (b:=true) rfl (fun _=>zbw (zlx (p:=k < (bs.length : Int)) (zau rfl (zq6 baD bs k hw)) fun q=>?_) (zbr rfl)) (fun z=>by cases z)
  obtain ⟨r,hr,er⟩:=zb4 (f:=baD) (xs:=bs) (i:=k) hw q
  have : bs.getD k.toNat [] = r:=by rw [List.getD_eq_getElem?_getD,hr]; rfl
  rw [this]
  exact zau (zad rfl (zad (zak rfl rfl er) rfl)) (z17 (hb r (List.mem_of_getElem? hr)))
 | wld k =>
  apply zam
  refine zaz (b:=false) rfl (fun z=>by cases z) (fun _=>zbo ?_)
  walk_at "nrm"
  apply zam
  refine zbs (d:=.int k) (zak rfl rfl rfl) ?_
  walk_at "nrm"
  apply zam
  refine zaz (b:=false) rfl (fun z=>by cases z) (fun _=>zbo ?_)
  walk_at "nrm"
  apply zam
  refine zaz (b:=false) rfl (fun z=>by cases z) (fun _=>zbo ?_)
  walk_at "nrm"
  refine zbw (zhn (a:=true) (zar (zak rfl rfl rfl) rfl (zng _ _)) (zlx (p:=k < (ss.length : Int)) (zau rfl (zq6 seD ss k hw)) fun q=>?_)) (zbr rfl)
  obtain ⟨r,hr,er⟩:=zb4 (f:=seD) (xs:=ss) (i:=k) hw q
  have : ss.getD k.toNat [] = r:=by rw [List.getD_eq_getElem?_getD,hr]; rfl
  rw [this]
  have em : m_8 [.int (es.length : Int),.lst (r.map D.int)] = some (.lst ((wiS es.length r).map D.bl)):=zu1 (es.length : Int) r (by omega) (by omega) (hs r (List.mem_of_getElem? hr)).2
  exact zar rfl (zau (zad (zak rfl rfl rfl) (zad (zak rfl rfl er) rfl)) em) (zp1 es _ (zm5 _ _).symm)
 | grp xs =>
  apply zam
  exact zaz (b:=true) rfl (fun _=>zbw (zau (zad rfl (zad rfl (zad (zak rfl rfl rfl) rfl))) (z0f (ss:=ss) (bs:=bs) hok hz n60 xs hw)) (zbr rfl)) (fun z=>by cases z)
end
section
variable {rs : List Rul} {ss : List (List Int)} {bs : List (List (Int × Bool))} {es : List (Option Bool)}
theorem zws (zs : List (Int × Bool)) : zc0 3 (baD zs):=fun x hx=>by
 obtain ⟨z,_,rfl⟩:=List.mem_map.mp hx
 intro y hy
 simp only [List.mem_cons,List.not_mem_nil,or_false] at hy
 rcases hy with rfl | rfl <;> exact rfl
theorem z8o (b : Bool) : dNe (.bl b) (.bl b) = some (.bl false):=by cases b <;> rfl
end
theorem zrz {es : List (Option Bool)} {t : Int} (b : Bool) (t0 : 0 <= t) (t1 : t < (es.length : Int)) (n60 : es.length <= 60) : m_7 [.lst (es.map shD),.int t,.bl b] = some (.lst ((es.set t.toNat (some b)).map shD)):=by
 obtain ⟨k,rfl⟩ : ∃ k : Nat,t = (k : Int):=⟨t.toNat,by omega⟩
 have hk : k < es.length:=by omega
 have e : es.set (k : Int).toNat (some b) = es.take k ++ [some b] ++ es.drop (k + 1):=by
  rw [Int.toNat_natCast,List.set_eq_take_append_cons_drop,if_pos hk,List.append_assoc]
  rfl
 rw [e,List.map_append,List.map_append]
 refine zjy ?_
 refine congrArg (Option.map Fl.rtO) (zec (zat (zec (zat ?_) (zat (zad rfl rfl)) ?_)) (zat ?_) ?_)
 ·have:=zc7 (f:=zaa 0) (l:=fun _=>some none) (h:=mPt (zaa 1)) (ρ:=[.im (.lst (es.map shD)),.im (.int k),.im (.bl b)]) (g:=shD) (xs:=es) (lo:=none) (hi:=some (k : Int)) rfl rfl rfl
  rw [show HT.sIx es.length 0 none = 0 from rfl,HT.sIx_nat,List.drop_zero,Nat.sub_zero,Nat.min_eq_left (Nat.le_of_lt hk)] at this
  exact this
 ·rw [List.length_map,List.length_take]
  show _ + 1 <= _
  omega
 ·have:=zc7 (f:=zaa 0) (l:=mPt (m2 zci (zaa 1) (fun _=>some (.int 1)))) (h:=fun _=>some none) (ρ:=[.im (.lst (es.map shD)),.im (.int k),.im (.bl b)]) (g:=shD) (xs:=es) (lo:=some ((k + 1 : Nat) : Int)) (hi:=none) rfl rfl rfl
  rw [show HT.sIx es.length es.length none = es.length from rfl,HT.sIx_nat,Nat.min_eq_left hk,List.take_of_length_le (by rw [List.length_drop]; omega)] at this
  exact this
 ·rw [List.length_append,List.length_map,List.length_map,List.length_take,List.length_drop]
  show (_ + 1) + _ <= _
  omega
theorem z1s {es : List (Option Bool)} {t : Int} (b : Bool) (t0 : 0 <= t) (t1 : t < (es.length : Int)) : zqu [.lst (es.map shD),.int t,.bl b] = some (.lst ((es.set t.toNat (some b)).map shD)):=by
 apply zeb
 unfold b_44
 show wp _ [.im (.lst (es.map shD)),.im (.int t),.im (.bl b),.no] _
 apply zam
 refine zer (d:=es.map shD) rfl ?_
 walk_at "nrm"
 apply zam
 refine zii (k:=t) (xs:=es.map shD) (d:=shD (some b)) rfl rfl rfl t0 (by rw [List.length_map]; omega) ?_
 walk_at "nrm"
 refine zgv (d:=(es.map shD).set t.toNat (shD (some b))) rfl (zk2 ?_)
 rw [List.map_set]
noncomputable def opD : Option (Int × Bool) -> D
 | none=>.non
 | some z=>brD z
noncomputable def trl (es : List (Option Bool)) : Option (Int × Bool) -> List (Option Bool)
 | none=>es
 | some z=>es.set z.1.toNat (some (!z.2))
noncomputable def ze8 (es : List (Option Bool)) : Option (Int × Bool) -> Bool
 | none=>true
 | some z=>es.getD z.1.toNat none == none
noncomputable def zvc (n : Nat) (o : Option (Int × Bool)) : Prop:=∀ z,o = some z -> 0 <= z.1 /\ z.1 < (n : Int)
theorem zfr (es : List (Option Bool)) (o : Option (Int × Bool)) : (trl es o).length = es.length:=by
 cases o with
 | none=>rfl
 | some z=>exact List.length_set
theorem z8q (e : Option Bool) : dIs (shD e) .non = some (.bl (e == none)):=by cases e <;> rfl
section
variable {rs : List Rul} {ss : List (List Int)} {bs : List (List (Int × Bool))} {es : List (Option Bool)}
theorem z7l (hok : ∀ r ∈ rs,r.Ok es.length) (hz : rs.length <= 1000) (hs : ∀ s ∈ ss,zdy es.length s) (hb : ∀ b ∈ bs,zfs es.length b) (n60 : es.length <= 60) (o : Option (Int × Bool)) (ho : zvc es.length o) (w : Wy) (hw : w.Ok es.length) :
  zri [plD es.length rs,.lst (ss.map seD),.lst (bs.map baD),.lst (es.map shD),.tup [opD o,w.toD]] = some (.bl (rgt rs ss bs (trl es o) w && ze8 es o)):=by
 have ew:=zyb (rs:=rs) (ss:=ss) (bs:=bs) (es:=trl es o) (by rw [zfr]; exact hok) hz (by rw [zfr]; exact hs) (by rw [zfr]; exact hb) (by rw [zfr]; exact n60) w (by rw [zfr]; exact hw)
 rw [zfr] at ew
 apply zeb
 unfold b_47
 show wp _ [.im (plD es.length rs),.im (.lst (ss.map seD)),.im (.lst (bs.map baD)),.im (.lst (es.map shD)),.im (.tup [opD o,w.toD]),.no] _
 apply zam
 refine zbs (d:=opD o) (zak rfl rfl rfl) ?_
 walk_at "nrm"
 apply zam
 cases o with
 | none =>
  refine zaz (b:=true) rfl (fun _=>zbw (zau (zad rfl (zad rfl (zad rfl (zad rfl (zad (zak rfl rfl rfl) rfl))))) ew) (zbr ?_)) (fun z=>by cases z)
  show _ = D.bl (_ && true)
  rw [Bool.and_true]
 | some z =>
  obtain ⟨z0,z1⟩:=ho z rfl
  refine zaz (b:=false) rfl (fun q=>by cases q) (fun _=>zbo ?_)
  walk_at "nrm"
  apply zam
  refine zaz (zb1 (zar (zak rfl (zak rfl rfl rfl) (zdd z0 z1)) rfl (ztl _))) (fun q=>zbw rfl (zbr ?_)) (fun q=>zbo ?_)
  ·show _ = D.bl (_ && (es.getD z.1.toNat none == none))
   cases hq : es.getD z.1.toNat none with
   | none=>rw [hq] at q; cases q
   | some b=>exact congrArg D.bl (Bool.and_false _).symm
  ·walk_at "nrm"
   refine zbw (zau (zad rfl (zad rfl (zad rfl (zad (zau (zad rfl (zad (zak rfl rfl rfl) (zad (zf9 (zak rfl rfl rfl)) rfl))) (z1s (!z.2) z0 z1)) (zad (zak rfl rfl rfl) rfl))))) ew) (zbr ?_)
   show _ = D.bl (_ && (es.getD z.1.toNat none == none))
   cases hq : es.getD z.1.toNat none with
   | none=>exact congrArg D.bl (Bool.and_true _).symm
   | some b=>rw [hq] at q; cases q
end
noncomputable def beg (n : Nat) (zs : List (Int × Bool)) : List (Option Bool):=zs.foldl (fun es z=>es.set z.1.toNat (some z.2)) (List.replicate n none)
theorem zsw (n : Nat) (zs : List (Int × Bool)) (z : Int × Bool) : beg n (zs ++ [z]) = (beg n zs).set z.1.toNat (some z.2):=by
 unfold beg
 rw [List.foldl_append]
 rfl
theorem zm1 (n : Nat) : ∀ zs : List (Int × Bool),(beg n zs).length = n:=by
 intro zs
 unfold beg
 have : ∀ (zs : List (Int × Bool)) (es : List (Option Bool)),(zs.foldl (fun es z=>es.set z.1.toNat (some z.2)) es).length = es.length:=by
  intro zs
  induction zs with
  | nil=>intro es; rfl
  | cons z zs ih=>intro es; rw [List.foldl_cons,ih,List.length_set]
 rw [this,List.length_replicate]
theorem zpq (n : Nat) : (List.range n).map (fun (_ : Nat)=>D.non) = (List.replicate n (none : Option Bool)).map shD:=by
 rw [List.map_const',List.length_range,List.map_replicate]
 rfl
theorem z26 (n : Int) (n0 : 0 <= n) (n60 : n <= 60) (zs : List (Int × Bool)) (hz : ∀ z ∈ zs,0 <= z.1 /\ z.1 < (n.toNat : Int)) : zmx [.int n,.lst (zs.map brD)] = some (.lst ((beg n.toNat zs).map shD)):=by
 apply zeb
 unfold b_32
 show wp _ [.im (.int n),.im (.lst (zs.map brD)),.no,.no,.no] _
 apply zam
 refine zer (d:=(List.replicate n.toNat none).map shD) ?_ ?_
 ·rw [<- zpq]
  exact zcs (List.range n.toNat) (fun (i : Nat)=>D.int i) (fun _=>D.non) (ze2 rfl n0 (by omega)) (by rw [List.length_range]; omega) fun i _=>zcp rfl rfl rfl
 walk_at "nrm"
 apply zam
 refine zea zs brD (fun pre ρ=>∃ v2 v4,ρ = [.im (.int n),.im (.lst (zs.map brD)),v2,.own ((beg n.toNat pre).map shD),v4]) rfl ⟨_,_,rfl⟩ ?_ ?_
 ·rintro pre z post ρ ex ⟨v2,v4,rfl⟩
  obtain ⟨z0,z1⟩:=hz z (by rw [ex]; simp)
  refine ⟨_,rfl,?_⟩
  walk_at "nrm"
  refine zii (k:=z.1) (xs:=(beg n.toNat pre).map shD) (d:=shD (some z.2)) rfl rfl rfl z0 (by rw [List.length_map,zm1]; omega) ?_
  exact ⟨_,_,by rw [zsw,List.map_set]; rfl⟩
 ·rintro ρ ⟨v2,v4,rfl⟩
  exact zgv rfl (zk2 rfl)
theorem z8b (n : Int) (n0 : 0 <= n) (n60 : n <= 60) (zs : List (Int × Bool)) (hz : ∀ z ∈ zs,0 <= z.1 /\ z.1 < (n.toNat : Int)) : znj [.int n,.lst (zs.map brD)] = some ((beg n.toNat zs).map shD):=by
 have : wp b_24 (zdx 5 [.int n,.lst (zs.map brD)]) (fun o=>o = .rtO ((beg n.toNat zs).map shD)):=by
  unfold b_24
  show wp _ [.im (.int n),.im (.lst (zs.map brD)),.no,.no,.no] _
  apply zam
  refine zer (d:=(List.replicate n.toNat none).map shD) ?_ ?_
  ·rw [<- zpq]
   exact zcs (List.range n.toNat) (fun (i : Nat)=>D.int i) (fun _=>D.non) (ze2 rfl n0 (by omega)) (by rw [List.length_range]; omega) fun i _=>zcp rfl rfl rfl
  walk_at "nrm"
  apply zam
  refine zea zs brD (fun pre ρ=>∃ v3 v4,ρ = [.im (.int n),.im (.lst (zs.map brD)),.own ((beg n.toNat pre).map shD),v3,v4]) rfl ⟨_,_,rfl⟩ ?_ ?_
  ·rintro pre z post ρ ex ⟨v3,v4,rfl⟩
   obtain ⟨z0,z1⟩:=hz z (by rw [ex]; simp)
   refine ⟨_,rfl,?_⟩
   walk_at "nrm"
   refine zii (k:=z.1) (xs:=(beg n.toNat pre).map shD) (d:=shD (some z.2)) rfl rfl rfl z0 (by rw [List.length_map,zm1]; omega) ?_
   exact ⟨_,_,by rw [zsw,List.map_set]; rfl⟩
  ·rintro ρ ⟨v3,v4,rfl⟩
   exact zgv rfl rfl
 obtain ⟨o,e,rfl⟩:=this
 exact zts e
theorem z8v {i : Nat} {f : List Sl -> Option D} {ρ : List Sl} {xs ds : List D} (h : f ρ = some (.lst ds)) (h' : ρ[i]? = some (.own xs)) (hl : xs.length + ds.length <= 16777216) : zit i (zh1 f) ρ = some (.nx (ρ.set i (.own (xs ++ ds)))):=by
 unfold zit zh1
 rw [h]
 show (match ρ[i]? with | some (.own ys)=>_ | _=>_) = _
 rw [h']
 show (if _ then _ else _) = _
 rw [if_pos hl]
theorem ztn {i : Nat} {f : List Sl -> Option D} {ρ : List Sl} {xs ds : List D} {K : Fl -> Prop} (h : f ρ = some (.lst ds)) (h' : ρ[i]? = some (.own xs)) (hl : xs.length + ds.length <= 16777216) (k : K (.nx (ρ.set i (.own (xs ++ ds))))) : wp (zit i (zh1 f)) ρ K:=⟨_,z8v h h' hl,k⟩
noncomputable def Wy.nE : Wy -> Prop
 | .grp xs=>xs ≠ []
 | _=>True
section
variable {rs : List Rul} {ss : List (List Int)} {bs : List (List (Int × Bool))} {es : List (Option Bool)}
theorem z4w (hok : ∀ r ∈ rs,r.Ok es.length) (hz : rs.length <= 1000) (hs : ∀ s ∈ ss,zdy es.length s) (hsz : ss.length <= 1000) (hb : ∀ b ∈ bs,zfs es.length b) (hbz : bs.length <= 1000) (n60 : es.length <= 60) :
  ∃ ws : List Wy,b_23 (zdx 7 [.lst (rs.map Rul.toD),.lst (ss.map seD),.lst (bs.map baD),.lst (es.map shD)]) = some (.rtO (ws.map Wy.toD)) /\ (∀ w ∈ ws,w.Ok es.length /\ w.nE) /\ ws.length <= 4000:=by
 have : wp b_23 (zdx 7 [.lst (rs.map Rul.toD),.lst (ss.map seD),.lst (bs.map baD),.lst (es.map shD)]) (fun o=>∃ ws : List Wy,o = .rtO (ws.map Wy.toD) /\ (∀ w ∈ ws,w.Ok es.length /\ w.nE) /\ ws.length <= 4000):=by
  obtain ⟨wo,el,hwo⟩:=zzg rs es n60 hok
  unfold b_23
  show wp _ [.im (.lst (rs.map Rul.toD)),.im (.lst (ss.map seD)),.im (.lst (bs.map baD)),.im (.lst (es.map shD)),.no,.no,.no] _
  apply zam
  refine zer (d:=(((List.range rs.length).filter fun i=>(rs.getD i zey).surely es).map fun (i : Nat)=>Wy.rul i).map Wy.toD) ?_ ?_
  ·rw [List.map_map]
   refine zd3 (List.range rs.length) (fun i=>D.tup [.int (i : Nat),(rs.getD i zey).toD]) (fun i=>(rs.getD i zey).surely es) (fun (i : Nat)=>(Wy.rul i).toD) (ziw zey (zad rfl rfl)) (by rw [List.length_range]; omega) fun i hi=>zd1 rfl (zde (zau (zad rfl (zad rfl rfl)) (zqf (rs.getD i zey) ?_)) rfl) fun _=>rfl
   have hi:=List.mem_range.mp hi
   rw [List.getD_eq_getElem?_getD,List.getElem?_eq_getElem hi]
   exact hok _ (List.getElem_mem hi)
  walk_at "nrm"
  apply zam
  refine ztn (xs:=(((List.range rs.length).filter fun i=>(rs.getD i zey).surely es).map fun (i : Nat)=>Wy.rul i).map Wy.toD) (ds:=(((List.range bs.length).filter fun i=>zf8 es (bs.getD i [])).map fun (i : Nat)=>Wy.bar i).map Wy.toD) (zat ?_) rfl ?_ ?_
  ·refine Eq.trans ?_ (congrArg some List.map_map.symm)
   refine zd3 (List.range bs.length) (fun i=>D.tup [.int (i : Nat),baD (bs.getD i [])]) (fun i=>zf8 es (bs.getD i [])) (fun (i : Nat)=>(Wy.bar i).toD) (ziw [] (zad rfl rfl)) (by rw [List.length_range]; omega) ?_
   intro i hi
   refine zd1 rfl (zde (zau (zad rfl (zad rfl rfl)) (zvt (zs:=bs.getD i []) ?_)) rfl) fun _=>rfl
   have hi:=List.mem_range.mp hi
   rw [List.getD_eq_getElem?_getD,List.getElem?_eq_getElem hi]
   exact hb _ (List.getElem_mem hi)
  ·have h1:=List.length_filter_le (fun i=>(rs.getD i zey).surely es) (List.range rs.length)
   have h2:=List.length_filter_le (fun i=>zf8 es (bs.getD i [])) (List.range bs.length)
   rw [List.length_range] at h1 h2
   rw [List.length_map,List.length_map,List.length_map,List.length_map]
   omega
  have h1:=List.length_filter_le (fun i=>(rs.getD i zey).surely es) (List.range rs.length)
  have h2:=List.length_filter_le (fun i=>zf8 es (bs.getD i [])) (List.range bs.length)
  rw [List.length_range] at h1 h2
  rw [<- List.map_append]
  have ho : ∀ w ∈ (((List.range rs.length).filter fun i=>(rs.getD i zey).surely es).map fun (i : Nat)=>Wy.rul i) ++ (((List.range bs.length).filter fun i=>zf8 es (bs.getD i [])).map fun (i : Nat)=>Wy.bar i),w.Ok es.length /\ w.nE:=fun w hw=>by
   rcases List.mem_append.mp hw with h | h
   ·obtain ⟨i,_,rfl⟩:=List.mem_map.mp h
    exact ⟨Int.natCast_nonneg i,trivial⟩
   ·obtain ⟨i,_,rfl⟩:=List.mem_map.mp h
    exact ⟨Int.natCast_nonneg i,trivial⟩
  have hl : ((((List.range rs.length).filter fun i=>(rs.getD i zey).surely es).map fun (i : Nat)=>Wy.rul i) ++ (((List.range bs.length).filter fun i=>zf8 es (bs.getD i [])).map fun (i : Nat)=>Wy.bar i)).length <= 2000:=by
   rw [List.length_append,List.length_map,List.length_map]
   omega
  generalize (((List.range rs.length).filter fun i=>(rs.getD i zey).surely es).map fun (i : Nat)=>Wy.rul i) ++ (((List.range bs.length).filter fun i=>zf8 es (bs.getD i [])).map fun (i : Nat)=>Wy.bar i) = ws at ho hl
  walk_at "nrm"
  apply zam
  have h3:=List.length_filter_le (fun i=>rgt rs ss bs es (.wld (i : Nat))) (List.range ss.length)
  rw [List.length_range] at h3
  refine ztn (xs:=ws.map Wy.toD) (ds:=(((List.range ss.length).filter fun i=>rgt rs ss bs es (.wld (i : Nat))).map fun (i : Nat)=>Wy.wld i).map Wy.toD) (zat ?_) rfl (by rw [List.length_map,List.length_map,List.length_map]; omega) ?_
  ·rw [List.map_map]
   refine zd3 (List.range ss.length) (fun (i : Nat)=>D.int i) (fun i=>rgt rs ss bs es (.wld (i : Nat))) (fun (i : Nat)=>(Wy.wld i).toD) (ze2 (n:=(ss.length : Int)) (zad (zau rfl (zc3 _ _)) rfl) (by omega) (by omega)) (by rw [List.length_range]; omega) fun i _=>zd1 rfl (zde (zau (zad rfl (zad rfl (zad rfl (zad rfl (zad (zb7 (zad rfl (zad rfl rfl))) rfl))))) (zqa hok hz hs hb n60 (.wld (i : Nat)) (Int.natCast_nonneg i))) rfl) fun _=>rfl
  rw [<- List.map_append]
  have ho2 : ∀ w ∈ ws ++ (((List.range ss.length).filter fun i=>rgt rs ss bs es (.wld (i : Nat))).map fun (i : Nat)=>Wy.wld i),w.Ok es.length /\ w.nE:=fun w hw=>by
   rcases List.mem_append.mp hw with h | h
   ·exact ho w h
   ·obtain ⟨i,_,rfl⟩:=List.mem_map.mp h
    exact ⟨Int.natCast_nonneg i,trivial⟩
  have hl2 : (ws ++ (((List.range ss.length).filter fun i=>rgt rs ss bs es (.wld (i : Nat))).map fun (i : Nat)=>Wy.wld i)).length <= 3000:=by
   rw [List.length_append,List.length_map]
   omega
  generalize ws ++ (((List.range ss.length).filter fun i=>rgt rs ss bs es (.wld (i : Nat))).map fun (i : Nat)=>Wy.wld i) = us at ho2 hl2
  walk_at "nrm"
  apply zam
  refine zbs (zau (zad rfl (zad rfl rfl)) el) ?_
  walk_at "nrm"
  apply zam
  have hm:=List.length_filter_le (fun i=>wo.getD i false) (List.range wo.length)
  rw [List.length_range] at hm
  refine zbs (zat (zd3 (List.range wo.length) (fun i=>D.tup [.int (i : Nat),D.bl (wo.getD i false)]) (fun i=>wo.getD i false) (fun (i : Nat)=>D.int i) (ziw false (zad rfl rfl)) (by rw [List.length_range]; omega) fun i _=>zd1 rfl (zde rfl rfl) fun _=>rfl)) ?_
  have hfe : ((List.range wo.length).filter fun i=>wo.getD i false).map (fun (i : Nat)=>D.int i) = (((List.range wo.length).filter fun i=>wo.getD i false).map fun (i : Nat)=>(i : Int)).map D.int:=by rw [List.map_map]; rfl
  rw [hfe]
  have hmi : zdy es.length (((List.range wo.length).filter fun i=>wo.getD i false).map fun (i : Nat)=>(i : Int)):=by
   refine ⟨fun x hx=>?_,by rw [List.length_map]; omega⟩
   obtain ⟨i,hi,rfl⟩:=List.mem_map.mp hx
   have:=List.mem_range.mp (List.mem_filter.mp hi).1
   exact ⟨by omega,by omega⟩
  generalize (((List.range wo.length).filter fun i=>wo.getD i false).map fun (i : Nat)=>(i : Int)) = mi at hmi
  walk_at "nrm"
  refine zic (fun ρ'=>∃ us' : List Wy,ρ' = [.im (.lst (rs.map Rul.toD)),.im (.lst (ss.map seD)),.im (.lst (bs.map baD)),.im (.lst (es.map shD)),.own (us'.map Wy.toD),.im (.lst (wo.map D.bl)),.im (.lst (mi.map D.int))] /\ (∀ w ∈ us',w.Ok es.length /\ w.nE) /\ us'.length <= 4000) ?_ ?_
  ·have hmi2:=hmi.2
   refine zaz (b:=mi.any fun x=>es.getD x.toNat none == some true) (zde (zau (zad (zat (zcs mi D.int (fun x=>D.bl (es.getD x.toNat none == some true)) (zcq rfl rfl) (by omega) fun x hx=>zcp rfl rfl (zar (zak rfl rfl (zdd (hmi.1 x hx).1 (hmi.1 x hx).2)) rfl (zep _ _)))) rfl) (zkq _ _)) rfl) (fun z=>?_) (fun z=>zbo ?_)
   ·refine zhq (d:=(Wy.grp mi).toD) rfl rfl (by rw [List.length_map]; omega) (k_J ⟨us ++ [.grp mi],by rw [List.map_append]; rfl,fun w hw=>?_,by rw [List.length_append]; show _ + 1 <= _; omega⟩)
    rcases List.mem_append.mp hw with h | h
    ·exact ho2 w h
    ·have : w = .grp mi:=by simpa using h
     subst this
     refine ⟨hmi,fun e=>?_⟩
     rw [e] at z
     cases z
   ·exact k_J ⟨us,rfl,ho2,by omega⟩
  ·rintro ρ' ⟨us',rfl,h1,h2⟩
   exact zgv rfl ⟨us',rfl,h1,h2⟩
 obtain ⟨o,e,ws,rfl,h1,h2⟩:=this
 exact ⟨ws,e,h1,h2⟩
end
noncomputable abbrev Stp:=Option (Int × Bool) × Wy
noncomputable def stD (z : Stp) : D:=.tup [opD z.1,z.2.toD]
noncomputable def za0 (n : Nat) (z : Stp) : Prop:=zvc n z.1 /\ z.2.Ok n
noncomputable def aft (es : List (Option Bool)) : Option (Int × Bool) -> List (Option Bool)
 | none=>es
 | some z=>es.set z.1.toNat (some z.2)
noncomputable def rst (rs : List Rul) (ss : List (List Int)) (bs : List (List (Int × Bool))) : List (Option Bool) -> List Stp -> Bool
 | _,[]=>false
 | es,[z]=>z.1.isNone && (rgt rs ss bs (trl es z.1) z.2 && ze8 es z.1)
 | es,z :: y :: r=>z.1.isSome && ((rgt rs ss bs (trl es z.1) z.2 && ze8 es z.1) && rst rs ss bs (aft es z.1) (y :: r))
theorem z4f (o : Option (Int × Bool)) : dIs (opD o) .non = some (.bl o.isNone):=by cases o <;> rfl
section
variable {rs : List Rul} {ss : List (List Int)} {bs : List (List (Int × Bool))}
theorem z55 (n : Nat) (n60 : n <= 60) (hok : ∀ r ∈ rs,r.Ok n) (hz : rs.length <= 1000) (hs : ∀ s ∈ ss,zdy n s) (hb : ∀ b ∈ bs,zfs n b) (es : List (Option Bool)) (hes : es.length = n) (zs : List Stp) (hzs : ∀ z ∈ zs,za0 n z) (hl : zs.length <= 1000) :
  zp6 [plD n rs,.lst (ss.map seD),.lst (bs.map baD),.lst (es.map shD),.lst (zs.map stD)] = some (.bl (rst rs ss bs es zs)):=by
 apply zeb
 unfold b_33
 show wp _ [.im (plD n rs),.im (.lst (ss.map seD)),.im (.lst (bs.map baD)),.im (.lst (es.map shD)),.im (.lst (zs.map stD)),.no,.no,.no,.no] _
 apply zam
 refine zer (d:=es.map shD) rfl ?_
 walk_at "nrm"
 apply zam
 refine zea (List.range zs.length) (fun i=>D.tup [.int ((i + 1 : Nat) : Int),stD (zs.getD i (none,.rul 0))]) (fun pre ρ=>∃ (es' : List (Option Bool)) (v6 v7 v8 : Sl),ρ = [.im (plD n rs),.im (.lst (ss.map seD)),.im (.lst (bs.map baD)),.im (.lst (es.map shD)),.im (.lst (zs.map stD)),.own (es'.map shD),v6,v7,v8] /\ es'.length = n /\ (pre.length < zs.length -> rst rs ss bs es zs = rst rs ss bs es' (zs.drop pre.length)) /\ (pre.length = zs.length -> 0 < zs.length -> rst rs ss bs es zs = true)) (z2s _ rfl) ⟨es,.no,.no,.no,rfl,hes,fun _=>rfl,fun h h'=>by rw [<- h] at h'; cases h'⟩ ?_ ?_
 ·rintro pre i post ρ ex ⟨es',v6,v7,v8,rfl,hes',hgo,_⟩
  have hi : i < zs.length:=List.mem_range.mp (by rw [ex]; simp)
  have hpi : pre.length = i:=by
   have h1 : (List.range zs.length)[pre.length]? = some i:=by rw [ex]; simp
   have hp : pre.length < zs.length:=by
    have : pre.length < (List.range zs.length).length:=by rw [ex]; simp
    simpa using this
   rw [List.getElem?_range hp] at h1
   exact Option.some.inj h1
  have hd : zs.drop i = zs[i] :: zs.drop (i + 1):=List.drop_eq_getElem_cons hi
  have eg : zs.getD i (none,.rul 0) = zs[i]:=by rw [List.getD_eq_getElem?_getD,List.getElem?_eq_getElem hi]; rfl
  have hgo:=hgo (by omega)
  rw [hpi,hd] at hgo
  rw [eg]
  obtain ⟨hpo,hwo⟩:=hzs zs[i] (List.getElem_mem hi)
  generalize zs[i] = z at hgo hpo hwo
  obtain ⟨o,w⟩:=z
  have est:=z7l (rs:=rs) (ss:=ss) (bs:=bs) (es:=es') (by rw [hes']; exact hok) hz (by rw [hes']; exact hs) (by rw [hes']; exact hb) (by omega) o (by rw [hes']; exact hpo) w (by rw [hes']; exact hwo)
  rw [hes'] at est
  refine ⟨_,rfl,?_⟩
  walk_at "nrm"
  apply zam
  refine zbs (zar (zak rfl rfl rfl) rfl (z4f o)) ?_
  walk_at "nrm"
  have ee : (((i + 1 : Nat) : Int) == ((zs.length : Nat) : Int)) = decide (i + 1 = zs.length):=by
   by_cases q : i + 1 = zs.length
   ·rw [q,decide_eq_true rfl]; simp
   ·rw [decide_eq_false q]; simp; omega
  apply zam
  refine zaz (zb1 (zar rfl (zar rfl (zau rfl (zc3 _ _)) (zdt _ _)) (z28 _ _))) (fun q=>zbw rfl (zbr ?_)) (fun q=>zbo ?_)
  ·rw [hgo]
   rw [ee] at q
   by_cases hq : i + 1 = zs.length
   ·rw [List.drop_of_length_le (by omega)]
    rw [decide_eq_true hq] at q
    cases o with
    | none=>cases q
    | some z=>rfl
   ·rw [List.drop_eq_getElem_cons (show i + 1 < zs.length by omega)]
    rw [decide_eq_false hq] at q
    cases o with
    | none=>rfl
    | some z=>cases q
  ·rw [ee] at q
   walk_at "nrm"
   apply zam
   refine zaz (zfo (zde (zl5 (zad rfl (zad rfl (zad rfl (zad rfl (zad rfl rfl))))) est rfl) rfl)) (fun b=>zbw rfl (zbr ?_)) (fun b=>zbo ?_)
   ·have b : (rgt rs ss bs (trl es' o) w && ze8 es' o) = false:=by
     cases hb' : (rgt rs ss bs (trl es' o) w && ze8 es' o) with
     | false=>rfl
     | true=>rw [hb'] at b; cases b
    rw [hgo]
    by_cases hq : i + 1 = zs.length
    ·rw [List.drop_of_length_le (by omega)]
     show _ = D.bl (_ && (rgt rs ss bs (trl es' o) w && ze8 es' o))
     rw [b,Bool.and_false]
    ·rw [List.drop_eq_getElem_cons (show i + 1 < zs.length by omega)]
     show _ = D.bl (_ && ((rgt rs ss bs (trl es' o) w && ze8 es' o) && _))
     rw [b,Bool.false_and,Bool.and_false]
   ·have b : (rgt rs ss bs (trl es' o) w && ze8 es' o) = true:=by
     cases hb' : (rgt rs ss bs (trl es' o) w && ze8 es' o) with
     | true=>rfl
     | false=>rw [hb'] at b; cases b
    walk_at "nrm"
    cases o with
    | none =>
     have hq : i + 1 = zs.length:=by
      by_cases hq : i + 1 = zs.length
      ·exact hq
      ·rw [decide_eq_false hq] at q; cases q
     refine zaz (b:=false) rfl (fun c=>by cases c) (fun _=>zbo ?_)
     refine ⟨es',_,_,_,rfl,hes',fun h=>?_,fun _ _=>?_⟩
     ·rw [List.length_append] at h
      exact absurd (show i + 1 < zs.length by rw [<- hpi]; exact h) (by omega)
     ·rw [hgo,List.drop_of_length_le (by omega)]
      show (true && (rgt rs ss bs (trl es' none) w && ze8 es' none)) = true
      rw [b]
      rfl
    | some z =>
     have hq : i + 1 ≠ zs.length:=fun hq=>by rw [decide_eq_true hq] at q; cases q
     obtain ⟨z0,z1⟩:=hpo z rfl
     refine zaz (b:=true) rfl (fun _=>?_) (fun c=>by cases c)
     refine zii (k:=z.1) (xs:=es'.map shD) (d:=shD (some z.2)) (zak (zcq (zak rfl rfl rfl) rfl) rfl rfl) (zak (zcq (zak rfl rfl rfl) rfl) rfl rfl) rfl z0 (by rw [List.length_map]; omega) ?_
     refine ⟨es'.set z.1.toNat (some z.2),_,_,_,by rw [List.map_set]; rfl,by rw [List.length_set]; exact hes',fun h=>?_,fun h _=>?_⟩
     ·rw [List.length_append]
      show _ = rst rs ss bs _ (zs.drop (pre.length + 1))
      rw [hgo,hpi,List.drop_eq_getElem_cons (show i + 1 < zs.length by omega)]
      show (true && ((rgt rs ss bs (trl es' (some z)) w && ze8 es' (some z)) && _)) = _
      rw [b]
      rfl
     ·rw [List.length_append] at h
      exact absurd (show i + 1 = zs.length by rw [<- hpi]; exact h) hq
 ·rintro ρ ⟨es',v6,v7,v8,rfl,hes',_,hend⟩
  rw [List.length_range] at hend
  refine zbw (zar (zau rfl (zc3 _ _)) rfl zlp) (zbr ?_)
  cases zs with
  | nil=>rfl
  | cons z zs =>
   rw [hend rfl (by rw [List.length_cons]; omega)]
   show D.bl (decide _) = _
   rw [decide_eq_true (by rw [List.length_cons]; omega)]
end
theorem zu4 (ns : List Int) : (zct ns).length <= ns.length:=by
 rw [zt6]
 exact firstMet_length_le _ _
noncomputable def zrg (n : Nat) (zs : List (Int × Bool)) (sts : List Stp) : Prop:=zfs n zs /\ (∀ z ∈ sts,za0 n z) /\ sts.length <= 1000
noncomputable def lnD (zs : List (Int × Bool)) (sts : List Stp) : D:=.tup [baD zs,.lst (sts.map stD)]
noncomputable def rln (rs : List Rul) (ss : List (List Int)) (bs : List (List (Int × Bool))) (n : Nat) (zs : List (Int × Bool)) (sts : List Stp) : Bool :=
 !(decide ((zct (zs.map (·.1))).length < zs.length)) && rst rs ss bs (beg n zs) sts
section
variable {rs : List Rul} {ss : List (List Int)} {bs : List (List (Int × Bool))}
theorem z58 (n : Nat) (n60 : n <= 60) (hok : ∀ r ∈ rs,r.Ok n) (hz : rs.length <= 1000) (hs : ∀ s ∈ ss,zdy n s) (hb : ∀ b ∈ bs,zfs n b) (zs : List (Int × Bool)) (sts : List Stp) (hl : zrg n zs sts) :
  zrx [plD n rs,.lst (ss.map seD),.lst (bs.map baD),lnD zs sts] = some (.bl (rln rs ss bs n zs sts)):=by
 obtain ⟨⟨hz1,hz2⟩,hst,hsl⟩:=hl
 have eb : zmx [.int (n : Int),.lst (zs.map brD)] = some (.lst ((beg n zs).map shD)):=z26 (n : Int) (by omega) (by omega) zs hz1
 have est:=z55 (rs:=rs) (ss:=ss) (bs:=bs) n n60 hok hz hs hb (beg n zs) (zm1 n zs) sts hst hsl
 apply zeb
 unfold b_40
 show wp _ [.im (plD n rs),.im (.lst (ss.map seD)),.im (.lst (bs.map baD)),.im (lnD zs sts),.no,.no] _
 apply zam
 refine zbs (d:=baD zs) (zak rfl rfl rfl) ?_
 walk_at "nrm"
 apply zam
 refine zbs (d:=.lst ((zs.map (·.1)).map D.int)) (zat ?_) ?_
 ·rw [List.map_map]
  exact zcs zs brD (fun z=>D.int z.1) rfl (by omega) fun z _=>zcp rfl rfl rfl
 walk_at "nrm"
 apply zam
 refine zaz (zb1 (zar (zzr rfl (by rw [List.length_map]; omega)) (zau rfl (zc3 _ _)) zj8)) (fun q=>zbw rfl (zbr ?_)) (fun q=>zbo ?_)
 ·rw [List.length_map] at q
  have q : (zct (zs.map (·.1))).length < zs.length:=by have:=of_decide_eq_true q; omega
  unfold rln
  rw [decide_eq_true q]
  rfl
 ·rw [List.length_map] at q
  have q : ¬ (zct (zs.map (·.1))).length < zs.length:=by have:=of_decide_eq_false q; omega
  walk_at "nrm"
  refine zbw (zau (zad rfl (zad rfl (zad rfl (zad (zau (zad (zak rfl rfl rfl) (zad rfl rfl)) eb) (zad (zak rfl rfl rfl) rfl))))) est) (zbr ?_)
  unfold rln
  rw [decide_eq_false q]
  rfl
end
theorem zlc (xs : List D) (d : D) : atI (xs ++ [d]) (-1) = some d:=by
 unfold atI
 have hl : (xs ++ [d]).length = xs.length + 1:=by simp
 have e : ixN (xs ++ [d]).length (-1) = some xs.length:=by
  rw [hl]
  unfold ixN
  rw [if_neg (by decide),if_pos (by omega)]
  congr 1
  omega
 rw [e]
 show (xs ++ [d])[xs.length]? = some d
 simp
theorem zv8 {rs : List Rul} {ss : List (List Int)} {bs : List (List (Int × Bool))} (es : List (Option Bool)) (z : Stp) (r : List Stp) (h : r ≠ []) :
  rst rs ss bs es (z :: r) = (z.1.isSome && ((rgt rs ss bs (trl es z.1) z.2 && ze8 es z.1) && rst rs ss bs (aft es z.1) r)):=by
 cases r with
 | nil=>exact absurd rfl h
 | cons y r=>rfl
theorem z00 (o : Option (Int × Bool)) : zdl (opD o) .non = some (.bl o.isSome):=by cases o <;> rfl
theorem zwy {α : Type} (xs : List α) (x : α) : (((xs ++ [x]).drop (HT.sIx (xs ++ [x]).length 0 none)).take (HT.sIx (xs ++ [x]).length (xs ++ [x]).length (some (-1)) - HT.sIx (xs ++ [x]).length 0 none)) = xs:=by
 have e1 : HT.sIx (xs ++ [x]).length 0 none = 0:=rfl
 have e2 : HT.sIx (xs ++ [x]).length (xs ++ [x]).length (some (-1)) = xs.length:=by
  unfold HT.sIx
  rw [List.length_append]
  simp
  omega
 rw [e1,e2,List.drop_zero,Nat.sub_zero,List.take_left']
 rfl
theorem zt0 {rs : List Rul} {ss : List (List Int)} {bs : List (List (Int × Bool))} : ∀ (es : List (Option Bool)) (ini : List Stp) (l : Stp),l.1.isSome = true -> rst rs ss bs es (ini ++ [l]) = false
 | es,[],l,h=>by
  show (l.1.isNone && _) = false
  have : l.1.isNone = false:=by
   cases hq : l.1 with
   | none=>rw [hq] at h; cases h
   | some z=>rfl
  rw [this]
  rfl
 | es,z :: ini,l,h=>by
  rw [List.cons_append,zv8 es z (ini ++ [l]) (by simp),zt0 _ ini l h,Bool.and_false,Bool.and_false]
section
variable {rs : List Rul} {ss : List (List Int)} {bs : List (List (Int × Bool))}
theorem zx5 (n : Nat) (n60 : n <= 60) (hok : ∀ r ∈ rs,r.Ok n) (hz : rs.length <= 1000) (hs : ∀ s ∈ ss,zdy n s) (hb : ∀ b ∈ bs,zfs n b) (zs : List (Int × Bool)) (sts : List Stp) (hl : zrg n zs sts) :
  zo0 [.int n,.lst (rs.map Rul.toD),.lst (ss.map seD),.lst (bs.map baD),lnD zs sts] = some (.bl (rst rs ss bs (beg n zs) sts)):=by
 obtain ⟨⟨hz1,hz2⟩,hst,hsl⟩:=hl
 have eo : znj [.int (n : Int),.lst (zs.map brD)] = some ((beg n zs).map shD):=z8b (n : Int) (by omega) (by omega) zs hz1
 apply zeb
 unfold b_25
 show wp _ [.im (.int n),.im (.lst (rs.map Rul.toD)),.im (.lst (ss.map seD)),.im (.lst (bs.map baD)),.im (lnD zs sts),.no,.no,.no,.no,.no] _
 apply zam
 refine zhm rfl rfl ?_
 walk_at "nrm"
 rcases List.eq_nil_or_concat sts with rfl | ⟨ini,l,rfl⟩
 ·apply zam
  exact zaz (b:=true) (zlr rfl) (fun _=>zbw rfl (zbr rfl)) (fun c=>by cases c)
 ·rw [List.concat_eq_append] at *
  have hln : (ini ++ [l]).isEmpty = false:=by cases ini <;> rfl
  obtain ⟨hlp,hlw⟩:=hst l (by simp)
  have eL : atI ((ini ++ [l]).map stD) (-1) = some (stD l):=by rw [List.map_append]; exact zlc _ _
  have eN : mB (m2 dEq (zaa 6) (zal (fun _=>some []))) [.im (.int n),.im (.lst (rs.map Rul.toD)),.im (.lst (ss.map seD)),.im (.lst (bs.map baD)),.im (lnD zs (ini ++ [l])),.im (baD zs),.im (.lst ((ini ++ [l]).map stD)),.no,.no,.no] = some false:=by
   rw [<- hln]
   exact zb1 (zar rfl (zat rfl) (znd _ _))
  apply zam
  refine zaz (b:=l.1.isSome) (zhl eN (zb1 (zar (zak (zcq (zak rfl rfl eL) rfl) rfl rfl) rfl (z00 _)))) (fun q=>zbw rfl (zbr ?_)) (fun q=>zbo ?_)
  ·rw [zt0 _ ini l q]
  ·have hll : l.1 = none:=by
    obtain ⟨o,w⟩:=l
    cases o with
    | none=>rfl
    | some z=>cases q
   walk_at "nrm"
   apply zam
   refine zer (zsf (zad rfl (zad rfl rfl)) eo) ?_
   walk_at "nrm"
   apply zam
   refine zea ini stD (fun pre ρ=>∃ (es' : List (Option Bool)) (v8 v9 : Sl),ρ = [.im (.int n),.im (.lst (rs.map Rul.toD)),.im (.lst (ss.map seD)),.im (.lst (bs.map baD)),.im (lnD zs (ini ++ [l])),.im (baD zs),.im (.lst ((ini ++ [l]).map stD)),.own (es'.map shD),v8,v9] /\ es'.length = n /\ ∀ post,ini = pre ++ post -> rst rs ss bs (beg n zs) (ini ++ [l]) = rst rs ss bs es' (post ++ [l])) ?_ ⟨beg n zs,.no,.no,rfl,zm1 n zs,fun post e=>by rw [e]; rfl⟩ ?_ ?_
   ·refine zcq (zat ?_) rfl
    have:=zc7 (f:=zaa 6) (l:=fun _=>some none) (h:=mPt (m1 zff (fun _=>some (.int 1)))) (ρ:=[.im (.int n),.im (.lst (rs.map Rul.toD)),.im (.lst (ss.map seD)),.im (.lst (bs.map baD)),.im (lnD zs (ini ++ [l])),.im (baD zs),.im (.lst ((ini ++ [l]).map stD)),.own ((beg n zs).map shD),.no,.no]) (g:=stD) (xs:=ini ++ [l]) (lo:=none) (hi:=some (-1)) rfl rfl rfl
    rw [zwy] at this
    exact this
   ·rintro pre z post ρ ex ⟨es',v8,v9,rfl,hes',hgo⟩
    have hgo:=hgo (z :: post) ex
    rw [List.cons_append,zv8 es' z (post ++ [l]) (by simp)] at hgo
    obtain ⟨hpo,hwo⟩:=hst z (by rw [ex]; simp)
    obtain ⟨o,w⟩:=z
    refine ⟨_,rfl,?_⟩
    walk_at "nrm"
    cases o with
    | none =>
     apply zam
     refine zaz (b:=true) (zlr rfl) (fun _=>zbw rfl (zbr ?_)) (fun c=>by cases c)
     rw [hgo]
     rfl
    | some y =>
     obtain ⟨y0,y1⟩:=hpo y rfl
     have er:=zqa (rs:=rs) (ss:=ss) (bs:=bs) (es:=trl es' (some y)) (by rw [zfr,hes']; exact hok) hz (by rw [zfr,hes']; exact hs) (by rw [zfr,hes']; exact hb) (by rw [zfr]; omega) w (by rw [zfr,hes']; exact hwo)
     have ewi:=zrz (es:=es') (!y.2) y0 (by rw [hes']; exact y1) (by omega)
     apply zam
     refine zaz (zhl rfl (zb1 (zar (zak rfl (zak rfl rfl rfl) (zdd y0 (by rw [hes']; exact y1))) rfl (ztl _)))) (fun b=>zbw rfl (zbr ?_)) (fun b=>zbo ?_)
     ·have b' : (es'.getD y.1.toNat none == none) = false:=by
       cases hq : es'.getD y.1.toNat none with
       | none=>rw [hq] at b; cases b
       | some c=>rfl
      rw [hgo]
      show _ = D.bl (true && ((_ && (es'.getD y.1.toNat none == none)) && _))
      rw [b',Bool.and_false,Bool.false_and]
      rfl
     ·have b' : (es'.getD y.1.toNat none == none) = true:=by
       cases hq : es'.getD y.1.toNat none with
       | none=>rfl
       | some c=>rw [hq] at b; cases b
      walk_at "nrm"
      apply zam
      refine zaz (zfo (zde (zl5 (zad rfl (zad rfl (zad rfl (zad (zau (zad rfl (zad (zak rfl rfl rfl) (zad (zf9 (zak rfl rfl rfl)) rfl))) ewi) (zad rfl rfl))))) er rfl) rfl)) (fun c=>zbw rfl (zbr ?_)) (fun c=>zbo ?_)
      ·have c : rgt rs ss bs (trl es' (some y)) w = false:=by simpa using c
       rw [hgo]
       show _ = D.bl (true && ((rgt rs ss bs (trl es' (some y)) w && _) && _))
       rw [c]
       rfl
      ·have c : rgt rs ss bs (trl es' (some y)) w = true:=by simpa using c
       walk_at "nrm"
       refine zii (k:=y.1) (xs:=es'.map shD) (d:=shD (some y.2)) (zak rfl rfl rfl) (zak rfl rfl rfl) rfl y0 (by rw [List.length_map]; omega) ?_
       refine ⟨es'.set y.1.toNat (some y.2),_,_,by rw [List.map_set]; rfl,by rw [List.length_set]; exact hes',fun post' e=>?_⟩
       have : post' = post:=by
        rw [ex,List.append_assoc] at e
        have e:=List.append_cancel_left e
        exact (List.cons.inj e).2.symm
       subst this
       rw [hgo]
       show (true && ((rgt rs ss bs (trl es' (some y)) w && (es'.getD y.1.toNat none == none)) && _)) = _
       rw [c,b']
       rfl
   ·rintro ρ ⟨es',v8,v9,rfl,hes',hgo⟩
    have hgo:=hgo [] (List.append_nil _).symm
    have er:=zqa (rs:=rs) (ss:=ss) (bs:=bs) (es:=es') (by rw [hes']; exact hok) hz (by rw [hes']; exact hs) (by rw [hes']; exact hb) (by omega) l.2 (by rw [hes']; exact hlw)
    walk_at "nrm"
    refine zhw rfl ?_
    refine zbw (zau (zad rfl (zad rfl (zad rfl (zad rfl (zad (zak (zcq (zak rfl rfl eL) rfl) rfl rfl) rfl))))) er) (zbr ?_)
    rw [hgo]
    show _ = D.bl (l.1.isNone && (rgt rs ss bs (trl es' l.1) l.2 && ze8 es' l.1))
    rw [hll]
    show _ = D.bl (true && (rgt rs ss bs es' l.2 && true))
    rw [Bool.true_and,Bool.and_true]
end
theorem z19 (sts : List Stp) (hl : sts.length <= 1000) : zqx [.lst (sts.map stD)] = some (.lst (sts.map stD)):=by
 apply zeb
 unfold b_37
 show wp _ [.im (.lst (sts.map stD)),.no,.no,.no] _
 apply zam
 refine zer (d:=[]) rfl ?_
 walk_at "nrm"
 apply zam
 refine zea sts stD (fun pre ρ=>∃ v2 v3,ρ = [.im (.lst (sts.map stD)),.own (pre.map stD),v2,v3]) rfl ⟨_,_,rfl⟩ ?_ ?_
 ·rintro pre ⟨o,w⟩ post ρ ex ⟨v2,v3,rfl⟩
  have hpl : pre.length < sts.length:=by rw [ex]; simp
  refine ⟨_,rfl,?_⟩
  walk_at "nrm"
  refine zic (fun ρ'=>ρ' = [.im (.lst (sts.map stD)),.own (pre.map stD),.im (opD o),.im w.toD]) ?_ ?_
  ·cases w with
   | grp xs=>exact zaz (b:=true) rfl (fun _=>zbs (zb7 (zad (zak rfl rfl rfl) (zad (zat (zcq (zak rfl rfl rfl) rfl)) rfl))) (k_J rfl)) (fun z=>by cases z)
   | rul k=>exact zaz (b:=false) rfl (fun z=>by cases z) (fun _=>zbo (k_J rfl))
   | bar k=>exact zaz (b:=false) rfl (fun z=>by cases z) (fun _=>zbo (k_J rfl))
   | wld k=>exact zaz (b:=false) rfl (fun z=>by cases z) (fun _=>zbo (k_J rfl))
  ·rintro ρ' rfl
   refine zhq (d:=stD (o,w)) (zb7 (zad rfl (zad rfl rfl))) rfl (by rw [List.length_map]; omega) ?_
   exact ⟨_,_,by rw [List.map_append]; rfl⟩
 ·rintro ρ ⟨v2,v3,rfl⟩
  exact zgv rfl (zk2 rfl)
theorem z0u (o : Option (Int × Bool)) : zc0 3 (opD o):=by
 cases o with
 | none=>exact rfl
 | some z =>
  intro y hy
  simp only [List.mem_cons,List.not_mem_nil,or_false] at hy
  rcases hy with rfl | rfl <;> exact rfl
theorem zx7 (w : Wy) : zc0 3 w.toD:=by
 cases w with
 | grp xs =>
  intro x hx
  simp only [List.mem_cons,List.not_mem_nil,or_false] at hx
  rcases hx with rfl | rfl
  ·exact rfl
  ·exact zsq xs
 | _ k =>
  intro x hx
  simp only [List.mem_cons,List.not_mem_nil,or_false] at hx
  rcases hx with rfl | rfl <;> exact rfl
theorem zyv (zs : List (Int × Bool)) (sts : List Stp) : zc0 7 (lnD zs sts):=fun x hx=>by
  simp only [List.mem_cons,List.not_mem_nil,or_false] at hx
  rcases hx with rfl | rfl
  ·exact (zws zs).le (by decide)
  ·intro y hy
   obtain ⟨⟨o,w⟩,_,rfl⟩:=List.mem_map.mp hy
   intro x hx
   simp only [List.mem_cons,List.not_mem_nil,or_false] at hx
   rcases hx with rfl | rfl
   ·exact (z0u o).le (by decide)
   ·exact (zx7 w).le (by decide)
theorem zzs {ns : List Int} (nd : ns.Nodup) : (zct ns).length = ns.length :=
 (znz ns (zct ns) nd (fun x hx=>(zle x ns).mpr hx) (zu4 ns)).length_eq
noncomputable abbrev Ln:=List (Int × Bool) × List Stp
noncomputable def lD (l : Ln) : D:=lnD l.1 l.2
noncomputable def LnM (n : Nat) (l : Ln) : Prop:=zrg n l.1 l.2 /\ (l.1.map (·.1)).Nodup
noncomputable def LnN (n : Nat) (l : Ln) : Prop:=LnM n l /\ 0 < l.2.length /\ l.2.length <= 40
theorem z5o {rs : List Rul} {ss : List (List Int)} {bs : List (List (Int × Bool))} {n : Nat} {zs : List (Int × Bool)} {sts : List Stp} (nd : (zs.map (·.1)).Nodup) : rln rs ss bs n zs sts = rst rs ss bs (beg n zs) sts:=by
 unfold rln
 rw [zzs nd,List.length_map,decide_eq_false (Nat.lt_irrefl _)]
 rfl
noncomputable def pgo (rs : List Rul) (ss : List (List Int)) (n : Nat) : List (List (Int × Bool)) -> List Ln -> Bool
 | _,[]=>true
 | bs,l :: r=>rst rs ss bs (beg n l.1) l.2 && pgo rs ss n (bs ++ [l.1]) r
noncomputable def zhf (rs : List Rul) (ss : List (List Int)) (n : Nat) (ls : List Ln) : Bool:=pgo rs ss n [] ls && (match ls.getLast? with
 | none=>false
 | some l=>l.1.isEmpty)
section
variable {rs : List Rul} {ss : List (List Int)}
theorem z82 (n : Nat) (n60 : n <= 60) (hok : ∀ r ∈ rs,r.Ok n) (hz : rs.length <= 1000) (hs : ∀ s ∈ ss,zdy n s) (ls : List Ln) (hl : ∀ l ∈ ls,LnM n l) (hll : ls.length <= 3000) :
  zqo [plD n rs,.lst (ss.map seD),.lst (ls.map lD)] = some (.bl (zhf rs ss n ls)):=by
 apply zeb
 unfold b_41
 show wp _ [.im (plD n rs),.im (.lst (ss.map seD)),.im (.lst (ls.map lD)),.no,.no] _
 apply zam
 refine zer rfl ?_
 walk_at "nrm"
 apply zam
 refine zea ls lD (fun pre ρ=>∃ v4 : Sl,ρ = [.im (plD n rs),.im (.lst (ss.map seD)),.im (.lst (ls.map lD)),.own ((pre.map (·.1)).map baD),v4] /\ ∀ post,ls = pre ++ post -> pgo rs ss n [] ls = pgo rs ss n (pre.map (·.1)) post) rfl ⟨_,rfl,fun post e=>by rw [e]; rfl⟩ ?_ ?_
 ·rintro pre l post ρ ex ⟨v4,rfl,hgo⟩
  have hgo:=hgo (l :: post) ex
  have hln:=hl l (by rw [ex]; simp)
  have hpl : pre.length < ls.length:=by rw [ex]; simp
  have er:=z58 (rs:=rs) (ss:=ss) (bs:=pre.map (·.1)) n n60 hok hz hs (fun b hb=>by
   obtain ⟨q,hq,rfl⟩:=List.mem_map.mp hb
   exact (hl q (by rw [ex]; exact List.mem_append_left _ hq)).1.1) l.1 l.2 hln.1
  rw [z5o hln.2] at er
  refine ⟨_,rfl,?_⟩
  walk_at "nrm"
  apply zam
  refine zaz (zfo (zde (zl5 (zad rfl (zad rfl (zad rfl (zad rfl rfl)))) er rfl) rfl)) (fun q=>zbw rfl (zbr ?_)) (fun q=>zbo ?_)
  ·unfold zhf
   rw [hgo]
   show _ = D.bl ((rst rs ss (pre.map (·.1)) (beg n l.1) l.2 && _) && _)
   cases h : rst rs ss (pre.map (·.1)) (beg n l.1) l.2 with
   | true=>rw [h] at q; cases q
   | false=>rfl
  ·walk_at "nrm"
   refine zhq (d:=baD l.1) (zak rfl rfl rfl) rfl (by rw [List.length_map,List.length_map]; omega) ?_
   refine ⟨_,by rw [List.map_append,List.map_append]; rfl,fun post' e=>?_⟩
   rw [List.append_assoc] at e
   have : post' = post:=by
    have:=ex.symm.trans e
    exact (List.cons.inj (List.append_cancel_left this)).2.symm
   subst this
   rw [hgo,List.map_append]
   show (rst rs ss (pre.map (·.1)) (beg n l.1) l.2 && pgo rs ss n (pre.map (·.1) ++ [l.1]) post') = _
   cases h : rst rs ss (pre.map (·.1)) (beg n l.1) l.2 with
   | true=>rfl
   | false=>rw [h] at q; cases q
 ·rintro ρ ⟨v4,rfl,hgo⟩
  walk_at "nrm"
  have hgo:=hgo [] (List.append_nil _).symm
  refine zhw rfl ?_
  refine zbw (d:=.bl (zhf rs ss n ls)) ?_ (zbr rfl)
  unfold zhf
  rw [hgo]
  rcases List.eq_nil_or_concat ls with rfl | ⟨ini,l,rfl⟩
  ·rfl
  ·rw [List.concat_eq_append] at *
   have eL : atI (((ini ++ [l]).map (·.1)).map baD) (-1) = some (baD l.1):=by rw [List.map_append,List.map_append]; exact zlc _ _
   have e1 : decide ((((((ini ++ [l]).map (·.1)).length : Nat) : Int)) > 0) = true:=decide_eq_true (by rw [List.length_map,List.length_append]; show ((_ + 1 : Nat) : Int) > 0; omega)
   have e2 : (match (ini ++ [l]).getLast? with | none=>false | some l=>l.1.isEmpty) = l.1.isEmpty:=by rw [List.getLast?_concat]
   show _ = some (D.bl (true && (match (ini ++ [l]).getLast? with | none=>false | some l=>l.1.isEmpty)))
   rw [e2]
   refine zhn (a:=true) (zar (zau rfl (zc3 _ _)) rfl (by rw [<- e1]; exact zlp)) (zar (zau (zad (zak rfl rfl eL) rfl) (zc3 _ _)) rfl ?_)
   rw [zdt]
   cases l.1 <;> rfl
theorem z4q (n : Nat) (n60 : n <= 60) (hok : ∀ r ∈ rs,r.Ok n) (hz : rs.length <= 1000) (hs : ∀ s ∈ ss,zdy n s) (ls : List Ln) (hl : ∀ l ∈ ls,LnM n l) (hll : ls.length <= 3000) :
  zo7 [.int n,.lst (rs.map Rul.toD),.lst (ss.map seD),.lst (ls.map lD)] = some (.bl (zhf rs ss n ls)):=by
 apply zeb
 unfold b_38
 show wp _ [.im (.int n),.im (.lst (rs.map Rul.toD)),.im (.lst (ss.map seD)),.im (.lst (ls.map lD)),.no,.no,.no] _
 apply zam
 refine zbs (d:=.lst ((ls.map (·.1)).map baD)) (zat ?_) ?_
 ·rw [List.map_map]
  exact zcs ls lD (fun l=>baD l.1) rfl (by omega) fun l _=>zcp rfl rfl rfl
 walk_at "nrm"
 apply zam
 refine zea (List.range ls.length) (fun i=>D.tup [.int (i : Nat),lD (ls.getD i ([],[]))]) (fun pre ρ=>∃ v5 v6 : Sl,ρ = [.im (.int n),.im (.lst (rs.map Rul.toD)),.im (.lst (ss.map seD)),.im (.lst (ls.map lD)),.im (.lst ((ls.map (·.1)).map baD)),v5,v6] /\ pgo rs ss n [] ls = pgo rs ss n ((ls.take pre.length).map (·.1)) (ls.drop pre.length)) (ziw ([],[]) (zad rfl rfl)) ⟨_,_,rfl,rfl⟩ ?_ ?_
 ·rintro pre i post ρ ex ⟨v5,v6,rfl,hgo⟩
  have hi : i < ls.length:=List.mem_range.mp (by rw [ex]; simp)
  have hpi : pre.length = i:=by
   have h1 : (List.range ls.length)[pre.length]? = some i:=by rw [ex]; simp
   have hp : pre.length < ls.length:=by
    have : pre.length < (List.range ls.length).length:=by rw [ex]; simp
    simpa using this
   rw [List.getElem?_range hp] at h1
   exact Option.some.inj h1
  have hd : ls.drop i = ls[i] :: ls.drop (i + 1):=List.drop_eq_getElem_cons hi
  have eg : ls.getD i ([],[]) = ls[i]:=by rw [List.getD_eq_getElem?_getD,List.getElem?_eq_getElem hi]; rfl
  have ht : ls.take (i + 1) = ls.take i ++ [ls[i]]:=by rw [List.take_succ,List.getElem?_eq_getElem hi]; rfl
  rw [hpi,hd] at hgo
  have hln:=hl ls[i] (List.getElem_mem hi)
  rw [eg]
  generalize ls[i] = l at hgo hln ht
  have er:=zx5 (rs:=rs) (ss:=ss) (bs:=(ls.take i).map (·.1)) n n60 hok hz hs (fun b hb=>by
   obtain ⟨q,hq,rfl⟩:=List.mem_map.mp hb
   exact (hl q (List.mem_of_mem_take hq)).1.1) l.1 l.2 hln.1
  have esl : mSl (zaa 4) (fun _=>some none) (mPt (zaa 5)) [.im (.int n),.im (.lst (rs.map Rul.toD)),.im (.lst (ss.map seD)),.im (.lst (ls.map lD)),.im (.lst ((ls.map (·.1)).map baD)),.im (.int i),.im (lD l)] = some (((ls.take i).map (·.1)).map baD):=by
   have:=zc7 (f:=zaa 4) (l:=fun _=>some none) (h:=mPt (zaa 5)) (ρ:=[.im (.int n),.im (.lst (rs.map Rul.toD)),.im (.lst (ss.map seD)),.im (.lst (ls.map lD)),.im (.lst ((ls.map (·.1)).map baD)),.im (.int i),.im (lD l)]) (g:=baD) (xs:=ls.map (·.1)) (lo:=none) (hi:=some (i : Int)) rfl rfl rfl
   rw [show HT.sIx (ls.map (·.1)).length 0 none = 0 from rfl,HT.sIx_nat,List.drop_zero,Nat.sub_zero,List.length_map,Nat.min_eq_left (Nat.le_of_lt hi),<- List.map_take] at this
   exact this
  refine ⟨_,rfl,?_⟩
  walk_at "nrm"
  refine zaz (zfo (zde (zau (zad rfl (zad rfl (zad rfl (zad (zat esl) (zad rfl rfl))))) er) rfl)) (fun q=>zbw rfl (zbr ?_)) (fun q=>zbo ?_)
  ·unfold zhf
   rw [hgo]
   show _ = D.bl ((rst rs ss ((ls.take i).map (·.1)) (beg n l.1) l.2 && _) && _)
   cases h : rst rs ss ((ls.take i).map (·.1)) (beg n l.1) l.2 with
   | true=>rw [h] at q; cases q
   | false=>rfl
  ·refine ⟨_,_,rfl,?_⟩
   rw [hgo,List.length_append,hpi]
   show (rst rs ss ((ls.take i).map (·.1)) (beg n l.1) l.2 && pgo rs ss n ((ls.take i).map (·.1) ++ [l.1]) (ls.drop (i + 1))) = pgo rs ss n ((ls.take (i + 1)).map (·.1)) (ls.drop (i + 1))
   rw [ht,List.map_append]
   cases h : rst rs ss ((ls.take i).map (·.1)) (beg n l.1) l.2 with
   | true=>rfl
   | false=>rw [h] at q; cases q
 ·rintro ρ ⟨v5,v6,rfl,hgo⟩
  walk_at "nrm"
  rw [List.length_range,List.drop_length] at hgo
  refine zbw (d:=.bl (zhf rs ss n ls)) ?_ (zbr rfl)
  unfold zhf
  rw [hgo]
  rcases List.eq_nil_or_concat ls with rfl | ⟨ini,l,rfl⟩
  ·rfl
  ·rw [List.concat_eq_append] at *
   have eL : atI (((ini ++ [l]).map (·.1)).map baD) (-1) = some (baD l.1):=by rw [List.map_append,List.map_append]; exact zlc _ _
   have e1 : (!(ini ++ [l]).isEmpty) = true:=by cases ini <;> rfl
   have e2 : (match (ini ++ [l]).getLast? with | none=>false | some l=>l.1.isEmpty) = l.1.isEmpty:=by rw [List.getLast?_concat]
   show _ = some (D.bl (true && (match (ini ++ [l]).getLast? with | none=>false | some l=>l.1.isEmpty)))
   rw [e2]
   refine zhn (a:=true) (zar rfl (zat rfl) (by rw [<- e1]; exact zi8 _ _)) (zar (zak rfl rfl eL) (zat rfl) (znd _ _))
theorem zy4 (n : Int) : zc0 20 (.lst [plD n rs,.lst (ss.map seD)]):=by
 have : zc0 11 (.lst [plD n rs,.lst (ss.map seD)]):=fun x hx=>by
  simp only [List.mem_cons,List.not_mem_nil,or_false] at hx
  rcases hx with rfl | rfl
  ·intro y hy
   simp only [List.mem_cons,List.not_mem_nil,or_false] at hy
   rcases hy with rfl | rfl
   ·exact rfl
   ·intro z hz
    obtain ⟨r,_,rfl⟩:=List.mem_map.mp hz
    exact (z2j r).le (by decide)
  ·intro y hy
   obtain ⟨r,_,rfl⟩:=List.mem_map.mp hy
   exact (zsq r).le (by decide)
 exact this.le (by decide)
theorem z86 (ls : List Ln) : zc0 20 (.lst (ls.map lD)):=by
 have : zc0 8 (.lst (ls.map lD)):=fun x hx=>by
  obtain ⟨l,_,rfl⟩:=List.mem_map.mp hx
  exact zyv l.1 l.2
 exact this.le (by decide)
theorem zz1 (n : Nat) (n60 : n <= 60) (hok : ∀ r ∈ rs,r.Ok n) (hz : rs.length <= 1000) (hp : ∀ r ∈ rs,r.ps.length <= 1000) (hs : ∀ s ∈ ss,zdy n s) (hsz : ss.length <= 1000) (ls : List Ln) (hl : ∀ l ∈ ls,LnM n l) (hll : ls.length <= 3000) :
  zp7 [.int n,.lst (rs.map Rul.toD),.lst (ss.map seD),.lst (ls.map lD)] = some (.bl true):=by
 have ec:=zy5 rs hz hp
 have e1:=z82 (rs:=rs) (ss:=ss) n n60 hok hz hs ls hl hll
 have e2:=z4q (rs:=rs) (ss:=ss) n n60 hok hz hs ls hl hll
 apply zeb
 unfold b_39
 show wp _ [.im (.int n),.im (.lst (rs.map Rul.toD)),.im (.lst (ss.map seD)),.im (.lst (ls.map lD)),.no,.no,.no] _
 apply zam
 refine zbs (d:=.lst [plD n rs,.lst (ss.map seD)]) (zat (zad (zb7 (zad rfl (zad (zau rfl ec) rfl))) (zad (zat (zcs ss seD seD rfl (by omega) fun x _=>zcp rfl rfl (zat rfl))) rfl))) ?_
 walk_at "nrm"
 apply zam
 refine zbs (d:=.lst (ls.map lD)) (zat (zcs ls lD lD rfl (by omega) fun l hl'=>?_)) ?_
 ·have ea:=z19 l.2 (hl l hl').1.2.2
  exact zcp rfl rfl (zb7 (zad (zat rfl) (zad (zau (zad rfl rfl) ea) rfl)))
 walk_at "nrm"
 apply zam
 refine zbs (zau (zad (zak rfl rfl rfl) (zad (zak rfl rfl rfl) (zad rfl rfl))) e1) ?_
 walk_at "nrm"
 apply zam
 refine zaz (b:=false) (zhl (zfo (b:=true) rfl) (zb1 (zar rfl (zau (zad rfl (zad rfl (zad rfl (zad rfl rfl)))) e2) (z8o _)))) (fun z=>by cases z) (fun _=>zbo ?_)
 walk_at "nrm"
 exact zbw (zhn (zar rfl (zat (zad (zb7 (zad rfl (zad rfl rfl))) (zad rfl rfl))) (zwj (zy4 n))) (zar rfl rfl (zwj (z86 ls)))) (zbr rfl)
end
theorem z2k {p q : Int -> Bool} {its : List (Int × Int)} (h : ∀ z ∈ its,p z.1 = q z.1) : zfv p its = zfv q its:=by
 unfold zfv
 rw [List.filter_congr h]
theorem z54 {l : List Bool} {its : List (Int × Int)} (h : InN l.length its) : zgm (· == some true) (bs l) its = zfv (fun t=>l.getD t.toNat false) its:=by
 rw [zs1]
 refine z2k fun z hz=>?_
 have:=h z hz
 rw [z3m (by omega)]
 cases l.getD z.1.toNat false <;> rfl
theorem zub {l : List Bool} {its : List (Int × Int)} {js : List Nat} {fi : List Sl -> Option (List D)} {ρ : List Sl} (h : InN l.length its) (hz : its.length <= 100000) (hi : fi ρ = some (its.map itD)) (hj : zdi 2 js ρ = [.no,.no,.im (.lst (l.map D.bl))]) :
  zap zd2 (zab (zal (za7 2 js fi (zb8 (za3 (zaq 0) (za3 (zaq 1) zcf))) (zcn (mIx (zaf 2) (zaa 0))) (zaa 1))) (fun _=>some [])) ρ = some (.int (zgm (· == some true) (bs l) its)):=by
 rw [z54 h]
 refine zau (zad (zat (zd3 its itD (fun z=>l.getD z.1.toNat false) (fun z=>D.int z.2) hi (by omega) fun z hz'=>?_)) rfl) (zh5 (fun t=>l.getD t.toNat false) its)
 rw [hj]
 exact zd1 rfl (zde (zak rfl rfl (zf0 (h z hz').1 (h z hz').2.1)) rfl) fun _=>rfl
theorem z4s {rs ws : List Bool} (p : Prt) (h : p.Ok rs.length) (hw : ws.length = rs.length) : zon [p.toD,.lst (rs.map D.bl),.lst (ws.map D.bl)] = some (.bl (p.holds rs ws)):=by
 cases p with
 | inn t=>exact zcb (zew (zez rfl (zcj (zak rfl rfl (zf0 h.1 h.2)))))
 | out t=>exact zcb (zcr (zc1 rfl rfl) (zew (zez rfl (zcj (zf9 (zak rfl rfl (zf0 h.1 (by rw [hw]; exact h.2))))))))
 | least k its=>exact zcb (zcr (zc1 rfl rfl) (zcr (zc1 rfl rfl) (zew (zez rfl (zcj (zar (zub h.1 h.2 rfl rfl) rfl rfl))))))
 | most k its=>exact zcb (zcr (zc1 rfl rfl) (zcr (zc1 rfl rfl) (zcr (zc1 rfl rfl) (zcj (zar (zub (by rw [hw]; exact h.1) h.2 rfl rfl) rfl rfl)))))
theorem zr2 (ws : List Bool) : ws.map D.bl = (ws.map some).map shD:=by rw [List.map_map]; rfl
theorem zwa : ∀ ws : List Bool,List.replicate ws.length (D.bl false) = ws.map fun _=>D.bl false
 | []=>rfl
 | _ :: ws=>by rw [List.length_cons,List.replicate_succ,zwa ws]; rfl
theorem z23 (rs : List Rul) (n : Nat) (n60 : n <= 60) (hok : ∀ r ∈ rs,r.Ok n) (hz : rs.length <= 1000) (ws : List Bool) (hw : ws.length = n) : ∃ d,zmg [.lst (rs.map Rul.toD),.lst (ws.map D.bl)] = some d /\ ∃ b,d = .bl b:=by
 apply zg0
 unfold b_11
 show wp _ [.im (.lst (rs.map Rul.toD)),.im (.lst (ws.map D.bl)),.no,.no,.no,.no,.no] _
 apply zam
 refine zaz (zde (zau (zad (zat (zcs rs Rul.toD (fun r=>D.bl (r.surely (ws.map some))) rfl (by omega) fun r hr=>zcp rfl rfl (zau (zad rfl (zad rfl rfl)) ?_))) rfl) (zkq _ _)) rfl) (fun _=>zbw rfl (zbr ⟨_,rfl⟩)) (fun _=>zbo ?_)
 ·rw [zr2]
  exact zqf r (by rw [List.length_map,hw]; exact hok r hr)
 walk_at "nrm"
 apply zam
 refine zer (d:=(List.replicate n false).map D.bl) ?_ ?_
 ·have : (List.replicate n false).map D.bl = ws.map fun _=>D.bl false:=by rw [List.map_replicate,<- hw]; exact zwa ws
  rw [this]
  exact zcs ws D.bl (fun _=>D.bl false) (zcq rfl rfl) (by omega) fun x _=>zcp rfl rfl rfl
 walk_at "nrm"
 apply zam
 refine zea (List.range n) (fun (i : Nat)=>D.int i) (fun _ ρ=>∃ (ri : List Bool) (v3 v4 v5 v6 : Sl),ρ = [.im (.lst (rs.map Rul.toD)),.im (.lst (ws.map D.bl)),.own (ri.map D.bl),v3,v4,v5,v6] /\ ri.length = n) (ze2 (n:=(n : Int)) (zad (zau rfl (by rw [<- hw]; exact zc3 _ _)) rfl) (by omega) (by omega)) ⟨_,_,_,_,_,rfl,List.length_replicate⟩ ?_ ?_
 ·rintro pre i post ρ ex ⟨ri,v3,v4,v5,v6,rfl,hri⟩
  refine ⟨_,rfl,?_⟩
  walk_at "nrm"
  refine zea rs Rul.toD (fun _ ρ=>∃ (ri : List Bool) (v4 v5 v6 : Sl),ρ = [.im (.lst (rs.map Rul.toD)),.im (.lst (ws.map D.bl)),.own (ri.map D.bl),.im (.int i),v4,v5,v6] /\ ri.length = n) (zcq rfl rfl) ⟨_,_,_,_,rfl,hri⟩ ?_ ?_
  ·rintro pre r post ρ ex ⟨ri,v4,v5,v6,rfl,hri⟩
   have hr:=hok r (by rw [ex]; simp)
   refine ⟨_,rfl,?_⟩
   walk_at "nrm"
   by_cases hn : r.w = .never
   ·have e1 : mB (m2 dNe (zaa 4) (fun _=>some (.str "never"))) [.im (.lst (rs.map Rul.toD)),.im (.lst (ws.map D.bl)),.own (ri.map D.bl),.im (.int i),.im (.str r.w.s),.im r.hdD,.im (.lst (r.ps.map Prt.toD))] = some false:=by
     rw [hn]
     rfl
    exact zaz (b:=false) (zlg e1) (fun q=>by cases q) (fun _=>zbo ⟨_,_,_,_,rfl,hri⟩)
   ·obtain ⟨h0,h1⟩:=hr.hd hn
    have e1 : mB (m2 dNe (zaa 4) (fun _=>some (.str "never"))) [.im (.lst (rs.map Rul.toD)),.im (.lst (ws.map D.bl)),.own (ri.map D.bl),.im (.int i),.im (.str r.w.s),.im (.int r.hd),.im (.lst (r.ps.map Prt.toD))] = some true:=by
     cases hw : r.w with
     | never=>exact absurd hw hn
     | make=>rfl
     | may=>rfl
    have eh : r.hdD = .int r.hd:=by
     unfold Rul.hdD
     cases hw : r.w with
     | never=>exact absurd hw hn
     | make=>rfl
     | may=>rfl
    rw [eh]
    refine zaz (zh7 e1 (zie (zde (zak rfl rfl (zf0 h0 (by rw [hw]; exact h1))) rfl) (zfo (zde (zak rfl rfl (zf0 h0 (by rw [hri]; exact h1))) rfl)))) (fun _=>?_) (fun _=>zbo ⟨_,_,_,_,rfl,hri⟩)
    refine zii (k:=r.hd) (xs:=ri.map D.bl) (d:=.bl (r.ps.all fun p=>p.holds ri ws)) (zau (zad (zat (zcs r.ps Prt.toD (fun p=>D.bl (p.holds ri ws)) (zcq rfl rfl) (by have:=hr.len; omega) fun p hp=>zcp rfl rfl (zyx (zad rfl (zad rfl (zad rfl rfl))) (z4s p (by rw [hri]; exact hr.ps p hp) (by rw [hw,hri])) rfl))) rfl) (zpj _ _)) rfl rfl h0 (by rw [List.length_map,hri]; exact h1) ?_
    exact ⟨ri.set r.hd.toNat (r.ps.all fun p=>p.holds ri ws),_,_,_,by rw [List.map_set]; rfl,by rw [List.length_set]; exact hri⟩
  ·rintro ρ ⟨ri,v4,v5,v6,rfl,hri⟩
   exact ⟨_,_,_,_,_,rfl,hri⟩
 ·rintro ρ ⟨ri,v3,v4,v5,v6,rfl,hri⟩
  walk_at "nrm"
  refine zhw rfl ?_
  have hrw : (ri.map some).length = ws.length:=by rw [List.length_map,hri,hw]
  refine zbw (d:=.bl (ri.map some == ws.map some)) (zar rfl rfl ?_) (zbr ⟨_,rfl⟩)
  rw [zr2 ri]
  exact zp1 _ _ hrw
noncomputable def stB (rs : List Rul) (ws : List Bool) : Bool:=match zmg [.lst (rs.map Rul.toD),.lst (ws.map D.bl)] with
 | some (.bl b)=>b
 | _=>false
theorem z1l (rs : List Rul) (n : Nat) (n60 : n <= 60) (hok : ∀ r ∈ rs,r.Ok n) (hz : rs.length <= 1000) (ws : List Bool) (hw : ws.length = n) : zmg [.lst (rs.map Rul.toD),.lst (ws.map D.bl)] = some (.bl (stB rs ws)):=by
 obtain ⟨d,e,b,rfl⟩:=z23 rs n n60 hok hz ws hw
 unfold stB
 rw [e]
noncomputable def SeN (n : Nat) (s : List Int) : Prop:=zdy n s /\ s.Nodup /\ s.length <= 60
theorem zzy (m : Nat) (p : Nat -> Bool) : (((List.range m).filter p).map fun (i : Nat)=>(i : Int)).Nodup :=
 List.pairwise_map.mpr ((List.Pairwise.filter p List.nodup_range).imp fun h e=>h (Int.ofNat.inj e))
theorem ztk (n m : Nat) (h : m <= n) (h60 : n <= 60) (p : Nat -> Bool) : SeN n (((List.range m).filter p).map fun (i : Nat)=>(i : Int)):=by
 have hl:=List.length_filter_le p (List.range m)
 rw [List.length_range] at hl
 refine ⟨⟨fun x hx=>?_,by rw [List.length_map]; omega⟩,zzy m p,by rw [List.length_map]; omega⟩
 obtain ⟨i,hi,rfl⟩:=List.mem_map.mp hx
 have:=List.mem_range.mp (List.mem_filter.mp hi).1
 exact ⟨by omega,by omega⟩
noncomputable def roD (r : List Bool) : D:=.lst (r.map D.bl)
theorem z0x (rs : List Rul) (n : Nat) (n7 : n <= 7) (hok : ∀ r ∈ rs,r.Ok n) (hz : rs.length <= 1000) : ∃ d,zp3 [.int n,.lst (rs.map Rul.toD)] = some d /\ ∃ ss : List (List Int),d = .lst (ss.map seD) /\ (∀ s ∈ ss,SeN n s) /\ ss.length <= 200:=by
 apply zg0
 unfold b_36
 show wp _ [.im (.int n),.im (.lst (rs.map Rul.toD)),.no,.no,.no] _
 apply zam
 refine zbs (d:=.lst ([[]].map roD)) rfl ?_
 walk_at "nrm"
 apply zam
 refine zea (List.range n) (fun (i : Nat)=>D.int i) (fun pre ρ=>∃ (ro : List (List Bool)) (v3 : Sl),ρ = [.im (.int n),.im (.lst (rs.map Rul.toD)),.im (.lst (ro.map roD)),v3,.no] /\ (∀ r ∈ ro,r.length = pre.length) /\ ro.length <= 2 ^ pre.length) (ze2 (n:=(n : Int)) (zad rfl rfl) (by omega) (by omega)) ⟨[[]],_,rfl,fun r hr=>by rw [List.mem_singleton.mp hr]; rfl,Nat.le_refl 1⟩ ?_ ?_
 ·rintro pre i post ρ ex ⟨ro,v3,rfl,hro,hrl⟩
  have hp : pre.length < n:=by
   have : pre.length < (List.range n).length:=by rw [ex]; simp
   simpa using this
  have h2 : 2 ^ pre.length <= 2 ^ 7:=Nat.pow_le_pow_right (by decide) (by omega)
  have hrl' : ro.length <= 128:=by omega
  refine ⟨_,rfl,?_⟩
  walk_at "nrm"
  have ec : ∀ b : Bool,∀ f : List Sl -> Option D,(∀ ρ,f ρ = some (.bl b)) -> za7 1 [] (zbl (zaa 2)) (zaq 0) (fun _=>some true) (zal (zcz (zaa 0) (zal (zab f (fun _=>some []))))) [.im (.int n),.im (.lst (rs.map Rul.toD)),.im (.lst (ro.map roD)),.im (.int i),.no] = some ((ro.map (· ++ [b])).map roD):=fun b f hf=>by
   rw [List.map_map]
   refine zcs ro roD (fun r=>roD (r ++ [b])) (zcq rfl rfl) (by omega) fun r hr=>zcp rfl rfl (zat ?_)
   rw [List.map_append]
   refine zec rfl (zat (zad (hf _) rfl)) ?_
   rw [List.length_map,hro r hr]
   show _ + 1 <= _
   omega
  refine zbs (d:=.lst ((ro.map (· ++ [true]) ++ ro.map (· ++ [false])).map roD)) (zat ?_) ?_
  ·rw [List.map_append]
   refine zec (zat (ec true _ fun _=>rfl)) (zat (ec false _ fun _=>rfl)) ?_
   simp only [List.length_map]
   omega
  ·refine ⟨_,_,rfl,fun r hr=>?_,?_⟩
   ·rw [List.length_append]
    rcases List.mem_append.mp hr with h | h
    ·obtain ⟨q,hq,rfl⟩:=List.mem_map.mp h
     rw [List.length_append,hro q hq]
     rfl
    ·obtain ⟨q,hq,rfl⟩:=List.mem_map.mp h
     rw [List.length_append,hro q hq]
     rfl
   ·simp only [List.length_append,List.length_map,List.length_cons,List.length_nil]
    rw [Nat.pow_succ]
    omega
 ·rintro ρ ⟨ro,v3,rfl,hro,hrl⟩
  rw [List.length_range] at hro hrl
  have h2 : 2 ^ n <= 2 ^ 7:=Nat.pow_le_pow_right (by decide) (by omega)
  have hrl' : ro.length <= 128:=by omega
  walk_at "nrm"
  apply zam
  refine zbs (d:=.lst ((ro.filter (stB rs)).map roD)) (zat (zd3 ro roD (stB rs) roD (zcq rfl rfl) (by omega) fun r hr=>zd1 rfl (zde (zau (zad rfl (zad rfl rfl)) (z1l rs n (by omega) hok hz r (hro r hr))) rfl) fun _=>rfl)) ?_
  have hhl:=List.length_filter_le (stB rs) ro
  have hh : ∀ r ∈ ro.filter (stB rs),r.length = n:=fun r hr=>hro r (List.mem_filter.mp hr).1
  generalize ro.filter (stB rs) = he at hhl hh
  walk_at "nrm"
  refine z36 (d:=(he.map fun r=>((List.range r.length).filter fun i=>r.getD i false).map fun (i : Nat)=>(i : Int)).map seD) ?_ (zk2 ⟨_,rfl,fun s hs=>?_,by rw [List.length_map]; omega⟩)
  ·rw [List.map_map]
   refine zcs he roD (fun r=>seD (((List.range r.length).filter fun i=>r.getD i false).map fun (i : Nat)=>(i : Int))) (zcq rfl rfl) (by omega) fun r hr=>zcp rfl rfl (zat ?_)
   have hrn:=hh r hr
   rw [List.map_map]
   exact zd3 (List.range r.length) (fun i=>D.tup [.int (i : Nat),D.bl (r.getD i false)]) (fun i=>r.getD i false) (fun (i : Nat)=>D.int i) (ziw false (zad rfl rfl)) (by rw [List.length_range]; omega) fun i _=>zd1 rfl (zde rfl rfl) fun _=>rfl
  ·obtain ⟨r,hr,rfl⟩:=List.mem_map.mp hs
   exact ztk n r.length (by rw [hh r hr]; omega) (by omega) _
theorem z0c (l : Addr) (c : Int) (a b s : D) (xs : List D) : ziv 7 l [.int c,a,b] [s] xs = [.im (.int c),.im a,.im b,.pin l xs,.im s,.no,.no]:=rfl
section
variable {rs : List Rul} {ss : List (List Int)} {es : List (Option Bool)}
theorem zp2 {k1 k2 k3 : Str} {f1 f2 f3 g : List Sl -> Option D} {ρ : List Sl} {a b c y d : D} (h1 : f1 ρ = some a) (h2 : f2 ρ = some b) (h3 : f3 ρ = some c) (hg : g ρ = some y) (hp : zn1 k1 k2 k3 a b c y = some d) : zh8 k1 k2 k3 f1 f2 f3 g ρ = some d:=by
 unfold zh8
 rw [h1,h2,h3,hg]
 exact hp
theorem zls {i : Nat} {ρ : List Sl} {l : Addr} {xs : List D} (h : ρ[i]? = some (.pin l xs)) : zap zcd (zab (zgx i) (fun _=>some [])) ρ = some (.int (xs.length : Nat)):=by
 refine zau (ds:=[.lst xs]) (zad ?_ rfl) rfl
 unfold zgx
 rw [h]
theorem z2x (n60 : es.length <= 60) (hz : rs.length <= 1000) (hsz : ss.length <= 1000) (c : Int) (xs : List D) :
  ∃ w : Wy,w.Ok es.length /\ ∀ l,zmu l [.int c,.lst (rs.map Rul.toD),.lst (ss.map seD)] [.lst (es.map shD)] xs = some (xs,w.toD):=by
 obtain ⟨d,em,ys,rfl,hl,hx⟩:=zl1 c 3 (by decide) (by decide)
 obtain ⟨a0,h0,e0⟩:=zb4 (f:=D.int) (xs:=ys) (i:=0) (by decide) (by omega)
 obtain ⟨a1,h1,e1⟩:=zb4 (f:=D.int) (xs:=ys) (i:=1) (by decide) (by omega)
 obtain ⟨a2,h2,e2⟩:=zb4 (f:=D.int) (xs:=ys) (i:=2) (by decide) (by omega)
 have q0 : 0 <= a0 % 4:=Int.emod_nonneg _ (by decide)
 have q1 : a0 % 4 < 4:=Int.emod_lt_of_pos _ (by decide)
 have run : ∀ (w : Wy) (l : Addr),wp b_10 [.im (.int c),.im (.lst (rs.map Rul.toD)),.im (.lst (ss.map seD)),.pin l xs,.im (.lst (es.map shD)),.no,.no] (fun o=>∃ ρ,o = .rtS w.toD ρ /\ ρ[3]? = some (.pin l xs)) -> zmu l [.int c,.lst (rs.map Rul.toD),.lst (ss.map seD)] [.lst (es.map shD)] xs = some (xs,w.toD):=by
  rintro w l ⟨o,eo,ρ,rfl,hp⟩
  exact z6z (by rw [z0c]; exact eo) hp
 have word : ∀ k : Int,a0 % 4 = k -> ∀ s : Str,([D.str "rule",.str "group",.str "bar",.str "world"] : List D)[k.toNat]? = some (.str s) -> ∀ (l : Addr) (K : Fl -> Prop) (F : List Sl -> Option Fl),wp F [.im (.int c),.im (.lst (rs.map Rul.toD)),.im (.lst (ss.map seD)),.pin l xs,.im (.lst (es.map shD)),.im (.lst (ys.map D.int)),.im (.str s)] K ->
   wp (zai (zbd 5 (zap m_0 (zab (zaa 0) (zab (fun _=>some (.int 3)) (fun _=>some []))))) (zai (zbd 6 (mIx (zab (fun _=>some (.str "rule")) (zab (fun _=>some (.str "group")) (zab (fun _=>some (.str "bar")) (zab (fun _=>some (.str "world")) (fun _=>some []))))) (m2 zbv (mIx (zaf 5) (fun _=>some (.int 0))) (fun _=>some (.int 4))))) F)) [.im (.int c),.im (.lst (rs.map Rul.toD)),.im (.lst (ss.map seD)),.pin l xs,.im (.lst (es.map shD)),.no,.no] K:=by
  intro k hk s hs l K F h
  apply zam
  refine zbs (zau (zad rfl (zad rfl rfl)) em) ?_
  walk_at "nrm"
  apply zam
  refine zbs (zak rfl (zar (zak rfl rfl e0) rfl (zdk (j:=4) (by decide))) (r:=some (.str s)) ?_) ?_
  ·rw [hk]
   have k0 : 0 <= k:=by omega
   have k1 : k < 4:=by omega
   obtain ⟨x,hx,ex⟩:=zb4 (f:=id) (xs:=([D.str "rule",.str "group",.str "bar",.str "world"] : List D)) (i:=k) k0 (by show k < 4; omega)
   rw [hs] at hx
   cases hx
   exact ex
  ·walk_at "nrm"
   exact h
 have num : ∀ (s : Str) (L : Int),0 <= L -> (∀ l,zh8 "rule" "bar" "world" (zap zcd (zab (zaa 1) (fun _=>some []))) (zap zcd (zab (zgx 3) (fun _=>some []))) (zap zcd (zab (zaa 2) (fun _=>some []))) (zaa 6) [.im (.int c),.im (.lst (rs.map Rul.toD)),.im (.lst (ss.map seD)),.pin l xs,.im (.lst (es.map shD)),.im (.lst (ys.map D.int)),.im (.str s)] = some (.int L)) -> ∀ l,
   zbm (zab (zaa 6) (zab (m2 zbv (mIx (zaf 5) (fun _=>some (.int 2))) (m2 zci (fun _=>some (.int 1)) (zh8 "rule" "bar" "world" (zap zcd (zab (zaa 1) (fun _=>some []))) (zap zcd (zab (zgx 3) (fun _=>some []))) (zap zcd (zab (zaa 2) (fun _=>some []))) (zaa 6)))) (fun _=>some []))) [.im (.int c),.im (.lst (rs.map Rul.toD)),.im (.lst (ss.map seD)),.pin l xs,.im (.lst (es.map shD)),.im (.lst (ys.map D.int)),.im (.str s)] = some (.tup [.str s,.int (a2 % (1 + L))]):=by
  intro s L L0 hd l
  exact zb7 (zad rfl (zad (zar (zak rfl rfl e2) (zar rfl (hd l) zhg) (zdk (by omega))) rfl))
 rcases (show a0 % 4 = 0 \/ a0 % 4 = 1 \/ a0 % 4 = 2 \/ a0 % 4 = 3 by omega) with hk | hk | hk | hk
 ·refine ⟨.rul (a2 % (1 + (rs.length : Int))),Int.emod_nonneg _ (by omega),fun l=>run _ l ?_⟩
  unfold b_10
  refine word 0 hk "rule" rfl l _ _ ?_
  apply zam
  refine zaz (b:=false) rfl (fun q=>by cases q) (fun _=>zbo ?_)
  walk_at "nrm"
  exact zn0 (num "rule" rs.length (by omega) (fun l=>zp2 (zau rfl (zc3 _ _)) (zls rfl) (zau rfl (zc3 _ _)) rfl rfl) l) ⟨_,rfl,rfl⟩
 ·have hc:=List.length_filter_le (fun i=>es.getD i none == some true || a1 / ((i : Int) + 1) % 2 == 0) (List.range es.length)
  rw [List.length_range] at hc
  refine ⟨.grp (((List.range es.length).filter fun i=>es.getD i none == some true || a1 / ((i : Int) + 1) % 2 == 0).map fun (i : Nat)=>(i : Int)),⟨fun x hx=>?_,by rw [List.length_map]; omega⟩,fun l=>run _ l ?_⟩
  ·obtain ⟨i,hi,rfl⟩:=List.mem_map.mp hx
   have:=List.mem_range.mp (List.mem_filter.mp hi).1
   exact ⟨by omega,by omega⟩
  ·unfold b_10
   refine word 1 hk "group" rfl l _ _ ?_
   apply zam
   refine zaz (b:=true) rfl (fun _=>?_) (fun q=>by cases q)
   refine zn0 (zb7 (zad rfl (zad (zat ?_) rfl))) ⟨_,rfl,rfl⟩
   rw [List.map_map]
   refine zd3 (List.range es.length) (fun i=>D.tup [.int (i : Nat),shD (es.getD i none)]) (fun i=>es.getD i none == some true || a1 / ((i : Int) + 1) % 2 == 0) (fun (i : Nat)=>D.int i) (ziw none (zad rfl rfl)) (by rw [List.length_range]; omega) fun i hi=>zd1 rfl (zmn (zb1 (zar rfl rfl (zep _ _))) (zb1 (zar (zar (zar (zak rfl rfl e1) (zar rfl rfl zhg) (zoa ?_)) rfl (zdk (by decide))) rfl (zdt _ _)))) fun _=>rfl
   have:=List.mem_range.mp hi
   exact ⟨by omega,by omega⟩
 ·refine ⟨.bar (a2 % (1 + ((xs.length : Nat) : Int))),Int.emod_nonneg _ (by omega),fun l=>run _ l ?_⟩
  unfold b_10
  refine word 2 hk "bar" rfl l _ _ ?_
  apply zam
  refine zaz (b:=false) rfl (fun q=>by cases q) (fun _=>zbo ?_)
  walk_at "nrm"
  exact zn0 (num "bar" xs.length (by omega) (fun l=>zp2 (zau rfl (zc3 _ _)) (zls rfl) (zau rfl (zc3 _ _)) rfl rfl) l) ⟨_,rfl,rfl⟩
 ·refine ⟨.wld (a2 % (1 + (ss.length : Int))),Int.emod_nonneg _ (by omega),fun l=>run _ l ?_⟩
  unfold b_10
  refine word 3 hk "world" rfl l _ _ ?_
  apply zam
  refine zaz (b:=false) rfl (fun q=>by cases q) (fun _=>zbo ?_)
  walk_at "nrm"
  exact zn0 (num "world" ss.length (by omega) (fun l=>zp2 (zau rfl (zc3 _ _)) (zls rfl) (zau rfl (zc3 _ _)) rfl rfl) l) ⟨_,rfl,rfl⟩
end
noncomputable def cnt (es : List (Option Bool)) : Nat:=(es.filter (· == none)).length
theorem zuf : ∀ (es : List (Option Bool)) (i : Nat) (b : Bool),es[i]? = some none -> cnt (es.set i (some b)) + 1 = cnt es
 | [],_,_,h=>by cases h
 | e :: es,0,b,h=>by
  cases h
  rfl
 | e :: es,i + 1,b,h=>by
  have ih:=zuf es i b (by simpa using h)
  unfold cnt at ih ⊢
  rw [List.set_cons_succ]
  cases e with
  | none =>
   show ((none : Option Bool) :: _).length + 1 = ((none : Option Bool) :: _).length
   rw [List.length_cons,List.length_cons,ih]
  | some x =>
   show (List.filter _ (es.set i (some b))).length + 1 = (List.filter _ es).length
   exact ih
theorem z6h (l : Addr) (a b s z c : D) (xs : List D) : ziv 12 l [a,b,s,z] [c] xs = [.im a,.im b,.im s,.im z,.pin l xs,.im c,.no,.no,.no,.no,.no,.no]:=rfl
section
variable {rs : List Rul} {ss : List (List Int)}
theorem zqw (n : Nat) (n60 : n <= 60) (hok : ∀ r ∈ rs,r.Ok n) (hz : rs.length <= 1000) (hs : ∀ s ∈ ss,zdy n s) (hsz : ss.length <= 1000) : ∀ (j : Nat) (es : List (Option Bool)) (zs : List (Int × Bool)) (ls : List Ln) (c : Int),es.length = n -> cnt es < j -> (zs.map (·.1)).Nodup ->
  (∀ z ∈ zs,(0 <= z.1 /\ z.1 < (n : Int)) /\ es[z.1.toNat]? ≠ some none) -> zs.length + j <= 50 -> (∀ l ∈ ls,LnN n l) -> ls.length + 2 ^ j <= 900 ->
  ∃ new : List Ln,(∀ l,m_1 j l [.lst (rs.map Rul.toD),.lst (ss.map seD),.lst (es.map shD),baD zs] [.int c] (ls.map lD) = some ((ls ++ new).map lD,.non)) /\ (∀ x ∈ new,LnN n x) /\ 0 < new.length /\ new.length + 1 <= 2 ^ j
 | 0,es,zs,ls,c,_,hc,_,_,_,_,_=>absurd hc (Nat.not_lt_zero _)
 | j + 1,es,zs,ls,c,hes,hc,hnd,hzs,hzj,hls,hll=>by
  have hpow : 0 < 2 ^ j:=Nat.pow_pos (by decide)
  rw [Nat.pow_succ] at hll
  obtain ⟨d,em,ys,rfl,hl,hx⟩:=zl1 c 4 (by decide) (by decide)
  obtain ⟨a0,h0,e0⟩:=zb4 (f:=D.int) (xs:=ys) (i:=0) (by decide) (by omega)
  obtain ⟨a1,h1,e1⟩:=zb4 (f:=D.int) (xs:=ys) (i:=1) (by decide) (by omega)
  obtain ⟨a2,h2,e2⟩:=zb4 (f:=D.int) (xs:=ys) (i:=2) (by decide) (by omega)
  obtain ⟨a3,h3,e3⟩:=zb4 (f:=D.int) (xs:=ys) (i:=3) (by decide) (by omega)
  subst hes
  have hbar : zfs es.length zs:=⟨fun z hz'=>(hzs z hz').1,by omega⟩
  obtain ⟨ws,ew,hw,hwl⟩:=z4w (rs:=rs) (ss:=ss) (bs:=ls.map (·.1)) (es:=es) hok hz hs hsz (fun b hb=>by
   obtain ⟨q,hq,rfl⟩:=List.mem_map.mp hb
   exact (hls q hq).1.1.1) (by rw [List.length_map]; omega) n60
  obtain ⟨fs,hfs⟩ : ∃ fs : List Int,((List.range es.length).filter fun i=>es.getD i none == none).map (fun (i : Nat)=>(i : Int)) = fs:=⟨_,rfl⟩
  have hfm : ∀ x ∈ fs,(0 <= x /\ x < (es.length : Int)) /\ es[x.toNat]? = some none:=fun x hx=>by
   rw [<- hfs] at hx
   obtain ⟨i,hi,rfl⟩:=List.mem_map.mp hx
   obtain ⟨hi1,hi2⟩:=List.mem_filter.mp hi
   have hi1:=List.mem_range.mp hi1
   refine ⟨⟨by omega,by omega⟩,?_⟩
   rw [Int.toNat_natCast,List.getElem?_eq_getElem hi1]
   rw [List.getD_eq_getElem?_getD,List.getElem?_eq_getElem hi1] at hi2
   cases hq : es[i] with
   | none=>rfl
   | some b=>rw [hq] at hi2; cases hi2
  have run : ∀ (l : Addr) (us : List D),wp (b_1 (m_1 j)) [.im (.lst (rs.map Rul.toD)),.im (.lst (ss.map seD)),.im (.lst (es.map shD)),.im (baD zs),.pin l (ls.map lD),.im (.int c),.no,.no,.no,.no,.no,.no] (fun o=>∃ ρ,o = .nx ρ /\ ρ[4]? = some (.pin l us)) -> m_1 (j + 1) l [.lst (rs.map Rul.toD),.lst (ss.map seD),.lst (es.map shD),baD zs] [.int c] (ls.map lD) = some (us,.non):=by
   rintro l us ⟨o,eo,ρ,rfl,hp⟩
   exact zzi (by rw [z6h]; exact eo) hp
  have start : ∀ (l : Addr) (F : List Sl -> Option Fl) (K : Fl -> Prop),wp F [.im (.lst (rs.map Rul.toD)),.im (.lst (ss.map seD)),.im (.lst (es.map shD)),.im (baD zs),.pin l (ls.map lD),.im (.int c),.im (.lst (ys.map D.int)),.no,.im (.lst (fs.map D.int)),.im (.lst (ws.map Wy.toD)),.no,.no] K ->
    wp (zai (zbd 6 (zap m_0 (zab (zaa 5) (zab (fun _=>some (.int 4)) (fun _=>some [])))))
     (zai (zbd 8 (zal (za7 2 [] (zfe (zab (zaa 2) (fun _=>some []))) (zb8 (za3 (zaq 0) (za3 (zaq 1) zcf))) (mB (m2 dIs (zaa 1) (fun _=>some .non))) (zaa 0))))
     (zai (zbd 9 (zap zrh (zab (zaa 0) (zab (zaa 1) (zab (zal (za7 1 [] (zn2 4) (zaq 0) (fun _=>some true) (mIx (zaf 0) (fun _=>some (.int 0))))) (zab (zaa 2) (fun _=>some []))))))) F)))
     [.im (.lst (rs.map Rul.toD)),.im (.lst (ss.map seD)),.im (.lst (es.map shD)),.im (baD zs),.pin l (ls.map lD),.im (.int c),.no,.no,.no,.no,.no,.no] K:=by
   intro l F K h
   apply zam
   refine zbs (zau (zad rfl (zad rfl rfl)) em) ?_
   walk_at "nrm"
   apply zam
   refine zbs (d:=.lst (fs.map D.int)) (zat ?_) ?_
   ·rw [<- hfs,List.map_map]
    exact zd3 (List.range es.length) (fun i=>D.tup [.int (i : Nat),shD (es.getD i none)]) (fun i=>es.getD i none == none) (fun (i : Nat)=>D.int i) (ziw none (zad rfl rfl)) (by rw [List.length_range]; omega) fun i _=>zd1 rfl (zb1 (zar rfl rfl (z8q _))) fun _=>rfl
   walk_at "nrm"
   apply zam
   refine zbs (zau (zad rfl (zad rfl (zad (d:=.lst ((ls.map (·.1)).map baD)) (zat ?_) (zad rfl rfl)))) (zjy ew)) ?_
   ·rw [List.map_map]
    exact zcs ls lD (fun l=>baD l.1) rfl (by omega) fun l _=>zcp rfl rfl (zak rfl rfl rfl)
   ·walk_at "nrm"
    exact h
  have lnn : ∀ sts : List Stp,(∀ z ∈ sts,za0 es.length z) -> 0 < sts.length -> sts.length <= 40 -> LnN es.length (zs,sts):=fun sts h1 h2 h3=>⟨⟨⟨hbar,h1,by show sts.length <= 1000; omega⟩,hnd⟩,h2,h3⟩
  have econd : ∀ ρ : List Sl,ρ[8]? = some (.im (.lst (fs.map D.int))) -> ρ[9]? = some (.im (.lst (ws.map Wy.toD))) -> ρ[6]? = some (.im (.lst (ys.map D.int))) ->
    mOr (mB (m2 dEq (zaa 8) (zal (fun _=>some [])))) (zdp (mB (m2 dNe (zaa 9) (zal (fun _=>some [])))) (mB (m2 dGt (m2 zbv (mIx (zaf 6) (fun _=>some (.int 0))) (fun _=>some (.int 4))) (fun _=>some (.int 0))))) ρ = some (fs.isEmpty || (!ws.isEmpty && decide (a0 % 4 > 0))):=by
   intro ρ r8 r9 r6
   have v8 : zaa 8 ρ = some (.lst (fs.map D.int)):=by unfold zaa; rw [r8]
   have v9 : zaa 9 ρ = some (.lst (ws.map Wy.toD)):=by unfold zaa; rw [r9]
   have v6 : zaf 6 ρ = some (ys.map D.int):=by unfold zaf; rw [r6]; rfl
   exact zmn (zb1 (zar v8 (zat rfl) (znd _ _))) (zie (zb1 (zar v9 (zat rfl) (zi8 _ _))) (zb1 (zar (zar (zak v6 rfl e0) rfl (zdk (by decide))) rfl zlp)))
  cases hcond : (fs.isEmpty || (!ws.isEmpty && decide (a0 % 4 > 0))) with
  | true =>
   cases ws with
   | nil =>
    obtain ⟨w,hwk,hlie⟩:=z2x (rs:=rs) (ss:=ss) (es:=es) n60 hz hsz a1 (ls.map lD)
    refine ⟨[(zs,[(none,w)])],fun l=>run l _ ?_,fun x hx=>?_,Nat.one_pos,by rw [Nat.pow_succ]; show 1 + 1 <= _; omega⟩
    ·unfold b_1
     refine start l _ _ ?_
     refine zaz (b:=true) (by rw [<- hcond]; exact econd _ rfl rfl rfl) (fun _=>?_) (fun q=>by cases q)
     apply zam
     refine zaz (b:=true) rfl (fun _=>?_) (fun q=>by cases q)
     refine zw0 (zrj rfl (zen (zak rfl rfl e1) (zen rfl (zen rfl (zn9 (zad rfl rfl))))) (hlie l)) ?_
     walk_at "nrm"
     refine zpr (d:=lD (zs,[(none,w)])) (zb7 (zad rfl (zad (zat (zad (zb7 (zad rfl (zad (zak rfl (zar (zak rfl rfl e2) (zau rfl rfl) (zdk (j:=1) (by decide))) (r:=some w.toD) ?_) rfl))) rfl)) rfl))) rfl (by rw [List.length_map]; omega) ⟨_,rfl,?_⟩
     ·rw [show a2 % 1 = 0 by omega]
      rfl
     ·rw [List.map_append]
      rfl
    ·have : x = (zs,[(none,w)]):=by simpa using hx
     subst this
     refine lnn _ (fun z hz'=>?_) Nat.one_pos (by show 1 <= 40; decide)
     have : z = (none,w):=by simpa using hz'
     subst this
     exact ⟨fun y e=>(nomatch e),hwk⟩
   | cons w0 ws' =>
    obtain ⟨w,hw',eg⟩:=zb4 (f:=Wy.toD) (xs:=w0 :: ws') (i:=a2 % ((w0 :: ws').length : Int)) (Int.emod_nonneg _ (by rw [List.length_cons]; omega)) (Int.emod_lt_of_pos _ (by rw [List.length_cons]; omega))
    refine ⟨[(zs,[(none,w)])],fun l=>run l _ ?_,fun x hx=>?_,Nat.one_pos,by rw [Nat.pow_succ]; show 1 + 1 <= _; omega⟩
    ·unfold b_1
     refine start l _ _ ?_
     refine zaz (b:=true) (by rw [<- hcond]; exact econd _ rfl rfl rfl) (fun _=>?_) (fun q=>by cases q)
     apply zam
     refine zaz (b:=false) rfl (fun q=>by cases q) (fun _=>zbo ?_)
     walk_at "nrm"
     refine zpr (d:=lD (zs,[(none,w)])) (zb7 (zad rfl (zad (zat (zad (zb7 (zad rfl (zad (zak rfl (zar (zak rfl rfl e2) (zau rfl (zc3 _ _)) (zdk (by rw [List.length_cons]; omega))) eg) rfl))) rfl)) rfl))) rfl (by rw [List.length_map]; omega) ⟨_,rfl,?_⟩
     rw [List.map_append]
     rfl
    ·have : x = (zs,[(none,w)]):=by simpa using hx
     subst this
     refine lnn _ (fun z hz'=>?_) Nat.one_pos (by show 1 <= 40; decide)
     have : z = (none,w):=by simpa using hz'
     subst this
     exact ⟨fun y e=>(nomatch e),(hw w (List.mem_of_getElem? hw')).1⟩
  | false =>
   have hfl : 0 < fs.length:=by
    cases fs with
    | nil=>cases hcond
    | cons f fs=>rw [List.length_cons]; omega
   obtain ⟨t,ht,et⟩:=zb4 (f:=D.int) (xs:=fs) (i:=a2 % (fs.length : Int)) (Int.emod_nonneg _ (by omega)) (Int.emod_lt_of_pos _ (by omega))
   obtain ⟨⟨t0,t1⟩,tn⟩:=hfm t (List.mem_of_getElem? ht)
   obtain ⟨b,hb⟩ : ∃ b,(a3 % 2 == 0) = b:=⟨_,rfl⟩
   have next : ∀ x : Bool,(((zs ++ [(t,x)]).map (·.1)).Nodup) /\ (∀ z ∈ zs ++ [(t,x)],(0 <= z.1 /\ z.1 < (es.length : Int)) /\ (es.set t.toNat (some x))[z.1.toNat]? ≠ some none):=fun x=>by
    have htn : t.toNat < es.length:=by omega
    refine ⟨?_,fun z hz'=>?_⟩
    ·rw [List.map_append]
     refine List.nodup_append.mpr ⟨hnd,List.pairwise_singleton _ _,fun p hp q hq e=>?_⟩
     obtain ⟨z,hz',rfl⟩:=List.mem_map.mp hp
     have hq : q = t:=by simpa using hq
     subst hq
     exact (hzs z hz').2 (by rw [e]; exact tn)
    ·rcases List.mem_append.mp hz' with h | h
     ·refine ⟨(hzs z h).1,?_⟩
      by_cases q : z.1.toNat = t.toNat
      ·rw [q,List.getElem?_set_self htn]
       exact fun e=>nomatch e
      ·rw [List.getElem?_set_ne (fun e=>q e.symm)]
       exact (hzs z h).2
     ·have : z = (t,x):=by simpa using h
      subst this
      refine ⟨⟨t0,t1⟩,?_⟩
      rw [List.getElem?_set_self htn]
      exact fun e=>nomatch e
   have hcs : ∀ x : Bool,cnt (es.set t.toNat (some x)) < j:=fun x=>by
    have:=zuf es t.toNat x tn
    omega
   obtain ⟨nw1,hn1,hk1,hp1,hq1⟩:=zqw es.length n60 hok hz hs hsz j (es.set t.toNat (some b)) (zs ++ [(t,b)]) ls a0 List.length_set (hcs b) (next b).1 (next b).2 (by rw [List.length_append]; show _ + 1 + j <= 50; omega) hls (by omega)
   obtain ⟨nw2,hn2,hk2,hp2,hq2⟩:=zqw es.length n60 hok hz hs hsz j (es.set t.toNat (some (!b))) (zs ++ [(t,!b)]) (ls ++ nw1) a1 List.length_set (hcs (!b)) (next (!b)).1 (next (!b)).2 (by rw [List.length_append]; show _ + 1 + j <= 50; omega) (fun l hl'=>by
    rcases List.mem_append.mp hl' with h | h
    ·exact hls l h
    ·exact hk1 l h) (by rw [List.length_append]; omega)
   have ew1:=zrz (es:=es) b t0 t1 n60
   have ew2:=zrz (es:=es) (!b) t0 t1 n60
   have ecat : ∀ (x : Bool) (f : List Sl -> Option D) (ρ : List Sl),f ρ = some (.bl x) -> ρ[3]? = some (.im (baD zs)) -> ρ[7]? = some (.im (.int t)) -> zal (zcz (zaa 3) (zal (zab (zbm (zab (zaa 7) (zab f (fun _=>some [])))) (fun _=>some [])))) ρ = some (baD (zs ++ [(t,x)])):=by
    intro x f ρ hf r3 r7
    have v3 : zaa 3 ρ = some (baD zs):=by unfold zaa; rw [r3]
    have v7 : zaa 7 ρ = some (.int t):=by unfold zaa; rw [r7]
    refine zat (ds:=(zs ++ [(t,x)]).map brD) ?_
    rw [List.map_append]
    refine zec v3 (zat (zad (zb7 (zad v7 (zad hf rfl))) rfl)) ?_
    rw [List.length_map]
    show _ + 1 <= _
    omega
   refine ⟨nw1 ++ nw2 ++ [(zs,[(some (t,!b),.bar (((ls ++ nw1).length : Nat) - 1 : Int)),(none,.bar (((ls ++ nw1 ++ nw2).length : Nat) - 1 : Int))])],fun l=>run l _ ?_,fun x hx=>?_,by rw [List.length_append]; show 0 < _ + 1; omega,by rw [List.length_append,List.length_append,Nat.pow_succ]; show _ + _ + 1 + 1 <= _; omega⟩
   ·unfold b_1
    refine start l _ _ ?_
    refine zaz (b:=false) (by rw [<- hcond]; exact econd _ rfl rfl rfl) (fun q=>by cases q) (fun _=>?_)
    apply zam
    refine zbs (zak rfl (zar (zak rfl rfl e2) (zau rfl (zc3 _ _)) (zdk (by omega))) et) ?_
    walk_at "nrm"
    apply zam
    refine zbs (d:=.bl b) (by rw [<- hb]; exact zar (zar (zak rfl rfl e3) rfl (zdk (by decide))) rfl (zdt _ _)) ?_
    walk_at "nrm"
    apply zam
    refine zrm (zrj rfl (zen rfl (zen rfl (zen (zau (zad rfl (zad rfl (zad rfl rfl))) ew1) (zen (ecat b _ _ rfl rfl rfl) (zn9 (zad (zak rfl rfl e0) rfl)))))) (hn1 l)) ?_
    walk_at "nrm"
    apply zam
    refine zbs (d:=.int (((ls ++ nw1).length : Nat) - 1 : Int)) (zar (zls rfl) rfl (by rw [List.length_map]; exact zqd)) ?_
    walk_at "nrm"
    apply zam
    refine zrm (zrj rfl (zen rfl (zen rfl (zen (zau (zad rfl (zad rfl (zad (zf9 rfl) rfl))) ew2) (zen (ecat (!b) _ _ (zf9 rfl) rfl rfl) (zn9 (zad (zak rfl rfl e1) rfl)))))) (hn2 l)) ?_
    walk_at "nrm"
    refine zpr (d:=lD (zs,[(some (t,!b),.bar (((ls ++ nw1).length : Nat) - 1 : Int)),(none,.bar (((ls ++ nw1 ++ nw2).length : Nat) - 1 : Int))])) (zb7 (zad rfl (zad (zat (zad (zb7 (zad (zb7 (zad rfl (zad (zf9 rfl) rfl))) (zad (zb7 (zad rfl (zad rfl rfl))) rfl))) (zad (zb7 (zad rfl (zad (zb7 (zad rfl (zad (zar (zls rfl) rfl (by rw [List.length_map]; exact zqd)) rfl))) rfl))) rfl))) rfl))) rfl (by rw [List.length_map,List.length_append,List.length_append]; omega) ⟨_,rfl,?_⟩
    rw [<- List.append_assoc,<- List.append_assoc,List.map_append (l₁:=ls ++ nw1 ++ nw2)]
    rfl
   ·rcases List.mem_append.mp hx with h | h
    ·rcases List.mem_append.mp h with h | h
     ·exact hk1 x h
     ·exact hk2 x h
    ·have : x = (zs,[(some (t,!b),.bar (((ls ++ nw1).length : Nat) - 1 : Int)),(none,.bar (((ls ++ nw1 ++ nw2).length : Nat) - 1 : Int))]):=by simpa using h
     subst this
     refine lnn _ (fun z hz'=>?_) (by show 0 < 2; decide) (by show 2 <= 40; decide)
     have l1 : 0 < (ls ++ nw1).length:=by rw [List.length_append]; omega
     have l2 : 0 < (ls ++ nw1 ++ nw2).length:=by rw [List.length_append]; omega
     simp only [List.mem_cons,List.not_mem_nil,or_false] at hz'
     rcases hz' with rfl | rfl
     ·exact ⟨fun y e=>by cases e; exact ⟨t0,t1⟩,by show (0 : Int) <= _ - 1; omega⟩
     ·exact ⟨fun y e=>(nomatch e),by show (0 : Int) <= _ - 1; omega⟩
end
theorem zv3 : ∀ (xs ys : List Int),xs.length = ys.length -> zcw (deq 19) (xs.map D.int) (ys.map D.int) = some (xs == ys)
 | [],[],_=>rfl
 | [],_ :: _,h=>by cases h
 | _ :: _,[],h=>by cases h
 | e :: es,b :: bs,h=>by
  have ih:=zv3 es bs (by simpa using h)
  show ((deq 19 (.int e) (.int b)).bind fun x=>(zcw (deq 19) (es.map D.int) (bs.map D.int)).map fun r=>x && r) = _
  rw [show deq 19 (.int e) (.int b) = some (e == b) from rfl,ih]
  rfl
theorem z6c (xs ys : List Int) : dEq (.lst (xs.map D.int)) (.lst (ys.map D.int)) = some (.bl (xs == ys)):=by
 show ((if (xs.map D.int).length = (ys.map D.int).length then zcw (deq 19) (xs.map D.int) (ys.map D.int) else some false) : Option Bool).map D.bl = _
 rw [List.length_map,List.length_map]
 by_cases h : xs.length = ys.length
 ·rw [if_pos h,zv3 xs ys h]
  rfl
 ·rw [if_neg h]
  have : (xs == ys) = false:=by
   cases q : xs == ys with
   | false=>rfl
   | true=>exact absurd (by rw [beq_iff_eq.mp q]) h
  rw [this]
  rfl
theorem zh4 {α : Type} {P : α -> Prop} {xs : List α} (h : ∀ z ∈ xs,P z) (a b : Nat) : (∀ z ∈ (xs.drop a).take b,P z) /\ ((xs.drop a).take b).length <= xs.length:=by
 refine ⟨fun z hz=>h z (List.mem_of_mem_drop (List.mem_of_mem_take hz)),?_⟩
 rw [List.length_take,List.length_drop]
 omega
theorem zgf {α : Type} {P : α -> Prop} {xs ys : List α} (h : ∀ z ∈ xs,P z) (h' : ∀ z ∈ ys,P z) : ∀ z ∈ xs ++ ys,P z:=fun z hz=>by
 rcases List.mem_append.mp hz with q | q
 ·exact h z q
 ·exact h' z q
theorem zln {α : Type} {P : α -> Prop} {x : α} (h : P x) : ∀ z ∈ [x],P z:=fun z hz=>by
 rw [List.mem_singleton.mp hz]
 exact h
theorem z14 (n : Nat) (l : Ln) (hl : LnN n l) (x : Int) : ∃ d,zpp [lD l,.int x] = some d /\ ∃ l' : Ln,d = lD l' /\ LnM n l':=by
 obtain ⟨zs,sts⟩:=l
 obtain ⟨⟨⟨hbr,hst,hsl⟩,hnd⟩,s0,s1⟩:=hl
 replace s0 : 0 < sts.length:=s0
 replace s1 : sts.length <= 40:=s1
 replace hst : ∀ z ∈ sts,za0 n z:=hst
 apply zg0
 unfold b_12
 show wp _ [.im (.tup [baD zs,.lst (sts.map stD)]),.im (.int x),.no,.no,.no,.no,.no] _
 apply zam
 refine zhm rfl rfl ?_
 walk_at "nrm"
 apply zam
 refine zbs (zar rfl (zau rfl (zc3 _ _)) (zdk (by omega))) ?_
 walk_at "nrm"
 obtain ⟨t,ht⟩ : ∃ t,x % (sts.length : Int) = t:=⟨_,rfl⟩
 have t0 : 0 <= t:=by rw [<- ht]; exact Int.emod_nonneg _ (by omega)
 have t1 : t < (sts.length : Int):=by rw [<- ht]; exact Int.emod_lt_of_pos _ (by omega)
 rw [ht]
 obtain ⟨⟨o,w⟩,hz,ez⟩:=zb4 (f:=stD) (xs:=sts) (i:=t) t0 t1
 obtain ⟨ho,hw⟩:=hst (o,w) (List.mem_of_getElem? hz)
 apply zam
 refine zhm (zak rfl rfl ez) rfl ?_
 walk_at "nrm"
 refine zic (fun ρ'=>∃ w' : Wy,ρ' = [.im (.tup [baD zs,.lst (sts.map stD)]),.im (.int x),.im (baD zs),.im (.lst (sts.map stD)),.im (.int t),.im (opD o),.im w'.toD] /\ w'.Ok n) ?_ ?_
 ·cases w with
  | grp gs =>
   refine zaz (b:=true) rfl (fun _=>?_) (fun q=>by cases q)
   have hc:=zh4 hw.1 (HT.sIx gs.length 0 (some 1)) (HT.sIx gs.length gs.length none - HT.sIx gs.length 0 (some 1))
   exact zbs (d:=(Wy.grp ((gs.drop (HT.sIx gs.length 0 (some 1))).take (HT.sIx gs.length gs.length none - HT.sIx gs.length 0 (some 1)))).toD) (zb7 (zad rfl (zad (zat (zc7 (g:=D.int) (xs:=gs) (zak rfl rfl rfl) rfl rfl)) rfl))) (k_J ⟨_,rfl,hc.1,Nat.le_trans hc.2 hw.2⟩)
  | rul k =>
   refine zaz (b:=false) rfl (fun q=>by cases q) (fun _=>?_)
   exact zbs (d:=(Wy.rul (k + 1)).toD) (zb7 (zad (zak rfl rfl rfl) (zad (zar (zak rfl rfl rfl) rfl zhg) rfl))) (k_J ⟨_,rfl,Int.add_nonneg hw (by decide)⟩)
  | bar k =>
   refine zaz (b:=false) rfl (fun q=>by cases q) (fun _=>?_)
   exact zbs (d:=(Wy.bar (k + 1)).toD) (zb7 (zad (zak rfl rfl rfl) (zad (zar (zak rfl rfl rfl) rfl zhg) rfl))) (k_J ⟨_,rfl,Int.add_nonneg hw (by decide)⟩)
  | wld k =>
   refine zaz (b:=false) rfl (fun q=>by cases q) (fun _=>?_)
   exact zbs (d:=(Wy.wld (k + 1)).toD) (zb7 (zad (zak rfl rfl rfl) (zad (zar (zak rfl rfl rfl) rfl zhg) rfl))) (k_J ⟨_,rfl,Int.add_nonneg hw (by decide)⟩)
 ·rintro ρ' ⟨w',rfl,hw'⟩
  have hc:=zh4 hst (HT.sIx sts.length 0 none) (HT.sIx sts.length sts.length (some t) - HT.sIx sts.length 0 none)
  have hd:=zh4 hst (HT.sIx sts.length 0 (some (t + 1))) (HT.sIx sts.length sts.length none - HT.sIx sts.length 0 (some (t + 1)))
  refine zbw (d:=lD (zs,((((sts.drop (HT.sIx sts.length 0 none)).take (HT.sIx sts.length sts.length (some t) - HT.sIx sts.length 0 none)) ++ [(o,w')]) ++ ((sts.drop (HT.sIx sts.length 0 (some (t + 1)))).take (HT.sIx sts.length sts.length none - HT.sIx sts.length 0 (some (t + 1))))))) (zb7 (zad rfl (zad (zat ?_) rfl))) (zbr ⟨_,rfl,⟨hbr,zgf (zgf hc.1 (zln ⟨ho,hw'⟩)) hd.1,?_⟩,hnd⟩)
  ·rw [List.map_append,List.map_append]
   refine zec (zat (zec (zat (zc7 (g:=stD) (xs:=sts) rfl rfl rfl)) (zat (zad (zb7 (zad rfl (zad rfl rfl))) rfl)) ?_)) (zat (zc7 (g:=stD) (xs:=sts) rfl rfl rfl)) ?_
   ·simp only [List.length_map,List.length_cons,List.length_nil]
    omega
   ·simp only [List.length_append,List.length_map,List.length_cons,List.length_nil]
    omega
  ·show (_ ++ _ ++ _ : List Stp).length <= 1000
   rw [List.length_append,List.length_append]
   show (_ + 1) + _ <= _
   omega
theorem z6d {s : List Int} {t : Int} (h : (s.filter fun x=>!(x == t)) = s) : t ∉ s:=fun q=>by
 rw [<- h] at q
 have:=(List.mem_filter.mp q).2
 simp at this
theorem z1a (n : Nat) (n60 : n <= 60) (ss : List (List Int)) (hs : ∀ s ∈ ss,SeN n s) (hsz : ss.length <= 300) (ls : List Ln) (hl : ∀ l ∈ ls,LnN n l) (l0 : 0 < ls.length) (l1 : ls.length <= 900) (c : Int) :
  ∃ d,zp5 [.lst (ss.map seD),.lst (ls.map lD),.int c,.int n] = some d /\ ∃ (ss' : List (List Int)) (ls' : List Ln),d = .tup [.lst (ss'.map seD),.lst (ls'.map lD)] /\ (∀ s ∈ ss',zdy n s) /\ ss'.length <= 1000 /\ (∀ l ∈ ls',LnM n l) /\ ls'.length <= 3000:=by
 have hsok : ∀ s ∈ ss,zdy n s:=fun s h=>(hs s h).1
 have hlm : ∀ l ∈ ls,LnM n l:=fun l h=>(hl l h).1
 obtain ⟨d,em,xs,rfl,hxl,hx⟩:=zl1 c 4 (by decide) (by decide)
 obtain ⟨a0,h0,e0⟩:=zb4 (f:=D.int) (xs:=xs) (i:=0) (by decide) (by omega)
 obtain ⟨a1,h1,e1⟩:=zb4 (f:=D.int) (xs:=xs) (i:=1) (by decide) (by omega)
 obtain ⟨a2,h2,e2⟩:=zb4 (f:=D.int) (xs:=xs) (i:=2) (by decide) (by omega)
 obtain ⟨a3,h3,e3⟩:=zb4 (f:=D.int) (xs:=xs) (i:=3) (by decide) (by omega)
 apply zg0
 unfold b_15
 show wp _ [.im (.lst (ss.map seD)),.im (.lst (ls.map lD)),.im (.int c),.im (.int n),.no,.no,.no,.no,.no] _
 apply zam
 refine zbs (zau (zad rfl (zad rfl rfl)) em) ?_
 walk_at "nrm"
 apply zam
 refine zbs (zar (zak rfl rfl e0) rfl (zdk (by decide))) ?_
 walk_at "nrm"
 apply zam
 refine zbs (zar (zak rfl rfl e1) (zau rfl (zc3 _ _)) (zdk (by omega))) ?_
 walk_at "nrm"
 obtain ⟨t,ht⟩ : ∃ t,a1 % (ls.length : Int) = t:=⟨_,rfl⟩
 have t0 : 0 <= t:=by rw [<- ht]; exact Int.emod_nonneg _ (by omega)
 have t1 : t < (ls.length : Int):=by rw [<- ht]; exact Int.emod_lt_of_pos _ (by omega)
 rw [ht]
 obtain ⟨lt,hlt,elt⟩:=zb4 (f:=lD) (xs:=ls) (i:=t) t0 t1
 have cut:=fun a b=>zh4 hlm a b
 apply zam
 refine zaz (zb1 (zar rfl rfl (zdt _ _))) (fun _=>?_) (fun _=>zbo ?_)
 ·have hc:=cut (HT.sIx ls.length 0 none) (HT.sIx ls.length ls.length (some (-1)) - HT.sIx ls.length 0 none)
  exact zbw (zb7 (zad rfl (zad (zat (zc7 (g:=lD) (xs:=ls) rfl rfl rfl)) rfl))) (zbr ⟨ss,_,rfl,hsok,by omega,hc.1,by omega⟩)
 walk_at "nrm"
 apply zam
 refine zaz (zb1 (zar rfl rfl (zdt _ _))) (fun _=>?_) (fun _=>zbo ?_)
 ·have hc:=cut (HT.sIx ls.length 0 none) (HT.sIx ls.length ls.length (some t) - HT.sIx ls.length 0 none)
  have hd:=cut (HT.sIx ls.length 0 (some (t + 1))) (HT.sIx ls.length ls.length none - HT.sIx ls.length 0 (some (t + 1)))
  refine zbw (zb7 (zad rfl (zad (zat (zec (zat (zc7 (g:=lD) (xs:=ls) rfl rfl rfl)) (zat (zc7 (g:=lD) (xs:=ls) rfl rfl rfl)) ?_)) rfl))) (zbr ⟨ss,_,by rw [<- List.map_append],hsok,by omega,zgf hc.1 hd.1,by rw [List.length_append]; omega⟩)
  rw [List.length_map,List.length_map]
  omega
 walk_at "nrm"
 apply zam
 refine zaz (zb1 (zar rfl rfl (zdt _ _))) (fun _=>?_) (fun _=>zbo ?_)
 ·have hc:=cut (HT.sIx ls.length 0 none) (HT.sIx ls.length ls.length (some (t + 1)) - HT.sIx ls.length 0 none)
  have hd:=cut (HT.sIx ls.length 0 (some t)) (HT.sIx ls.length ls.length none - HT.sIx ls.length 0 (some t))
  refine zbw (zb7 (zad rfl (zad (zat (zec (zat (zc7 (g:=lD) (xs:=ls) rfl rfl rfl)) (zat (zc7 (g:=lD) (xs:=ls) rfl rfl rfl)) ?_)) rfl))) (zbr ⟨ss,_,by rw [<- List.map_append],hsok,by omega,zgf hc.1 hd.1,by rw [List.length_append]; omega⟩)
  rw [List.length_map,List.length_map]
  omega
 walk_at "nrm"
 apply zam
 refine zaz (zb1 (zar rfl rfl (zdt _ _))) (fun _=>?_) (fun _=>zbo ?_)
 ·have hc:=cut (HT.sIx ls.length 0 (some t)) (HT.sIx ls.length ls.length none - HT.sIx ls.length 0 (some t))
  have hd:=cut (HT.sIx ls.length 0 none) (HT.sIx ls.length ls.length (some t) - HT.sIx ls.length 0 none)
  refine zbw (zb7 (zad rfl (zad (zat (zec (zat (zc7 (g:=lD) (xs:=ls) rfl rfl rfl)) (zat (zc7 (g:=lD) (xs:=ls) rfl rfl rfl)) ?_)) rfl))) (zbr ⟨ss,_,by rw [<- List.map_append],hsok,by omega,zgf hc.1 hd.1,by rw [List.length_append]; omega⟩)
  rw [List.length_map,List.length_map]
  omega
 walk_at "nrm"
 apply zam
 refine zaz (zie (zb1 (zar rfl rfl (zdt _ _))) (zb1 (zar rfl (zat rfl) (zi8 _ _)))) (fun _=>?_) (fun _=>zbo ?_)
 ·have hc:=zh4 hsok (HT.sIx ss.length 0 (some 1)) (HT.sIx ss.length ss.length none - HT.sIx ss.length 0 (some 1))
  exact zbw (zb7 (zad (zat (zc7 (g:=seD) (xs:=ss) rfl rfl rfl)) (zad rfl rfl))) (zbr ⟨_,ls,rfl,hc.1,by omega,hlm,by omega⟩)
 walk_at "nrm"
 apply zam
 refine zaz (zie (zb1 (zar rfl rfl (zdt _ _))) (zie (zb1 (zar rfl (zat rfl) (zi8 _ _))) (zb1 (zar rfl rfl zlp)))) (fun q=>?_) (fun _=>zbo ?_)
 ·rw [Bool.and_eq_true,Bool.and_eq_true] at q
  have hn0 : 0 < n:=by have:=of_decide_eq_true q.2.2; omega
  obtain ⟨u,hu⟩ : ∃ u,a2 % (n : Int) = u:=⟨_,rfl⟩
  have u0 : 0 <= u:=by rw [<- hu]; exact Int.emod_nonneg _ (by omega)
  have u1 : u < (n : Int):=by rw [<- hu]; exact Int.emod_lt_of_pos _ (by omega)
  apply zam
  refine zbs (zar (zak rfl rfl e2) rfl (zdk (by omega))) ?_
  walk_at "nrm"
  rw [hu]
  rcases List.eq_nil_or_concat ss with rfl | ⟨ini,s,rfl⟩
  ·cases q.2.1
  rw [List.concat_eq_append] at *
  obtain ⟨hsk,hsn,hs60⟩:=hs s (by simp)
  have eL : atI ((ini ++ [s]).map seD) (-1) = some (seD s):=by rw [List.map_append]; exact zlc _ _
  have hfl:=List.length_filter_le (fun x=>!(x == u)) s
  apply zam
  refine zbs (d:=.lst ((s.filter fun x=>!(x == u)).map D.int)) (zat (zd3 s D.int (fun x=>!(x == u)) D.int (zcq (zak rfl rfl eL) rfl) (by omega) fun x _=>zd1 rfl (zb1 (zar rfl rfl (zvr _ _))) fun _=>rfl)) ?_
  walk_at "nrm"
  refine zic (fun ρ'=>∃ g : List Int,ρ' = [.im (.lst ((ini ++ [s]).map seD)),.im (.lst (ls.map lD)),.im (.int c),.im (.int n),.im (.lst (xs.map D.int)),.im (.int (a0 % 14)),.im (.int t),.im (.int u),.im (.lst (g.map D.int))] /\ zdy n g) ?_ ?_
  ·refine zaz (b:=(s.filter fun x=>!(x == u)) == s) (zb1 (zar rfl (zak rfl rfl eL) (z6c _ _))) (fun z=>?_) (fun _=>zbo (k_J ⟨_,rfl,fun x hx=>hsk.1 x (List.mem_filter.mp hx).1,by omega⟩))
   have z:=beq_iff_eq.mp z
   have hus:=z6d z
   rw [z]
   have hnd : (s ++ [u]).Nodup:=List.nodup_append.mpr ⟨hsn,List.pairwise_singleton _ _,fun p hp q hq e=>by
    have hq : q = u:=by simpa using hq
    subst hq e
    exact hus hp⟩
   refine zbs (d:=.lst ((zct (s ++ [u])).map D.int)) (zat (zzk (zat ?_) (by rw [List.length_append]; show _ + 1 < 64; omega) hnd)) (k_J ⟨_,rfl,fun x hx=>?_,?_⟩)
   ·refine Eq.trans ?_ (congrArg some (List.map_append (f:=D.int) (l₁:=s) (l₂:=[u])).symm)
    refine zec rfl (zat (zad rfl rfl)) ?_
    rw [List.length_map]
    show _ + 1 <= _
    omega
   ·rcases List.mem_append.mp ((zle x _).mp hx) with h | h
    ·exact hsk.1 x h
    ·have : x = u:=by simpa using h
     subst this
     exact ⟨u0,u1⟩
   ·have:=zu4 (s ++ [u])
    rw [List.length_append] at this
    replace this : (zct (s ++ [u])).length <= s.length + 1:=this
    omega
  ·rintro ρ' ⟨g,rfl,hg⟩
   have hc:=zh4 hsok (HT.sIx (ini ++ [s]).length 0 none) (HT.sIx (ini ++ [s]).length (ini ++ [s]).length (some (-1)) - HT.sIx (ini ++ [s]).length 0 none)
   refine zbw (d:=.tup [.lst (((((ini ++ [s]).drop (HT.sIx (ini ++ [s]).length 0 none)).take (HT.sIx (ini ++ [s]).length (ini ++ [s]).length (some (-1)) - HT.sIx (ini ++ [s]).length 0 none)) ++ [g]).map seD),.lst (ls.map lD)]) (zb7 (zad (zat ?_) (zad rfl rfl))) (zbr ⟨_,ls,rfl,zgf hc.1 (zln hg),by rw [List.length_append (as:=List.take _ _)]; show _ + 1 <= _; omega,hlm,by omega⟩)
   rw [List.map_append (l₁:=List.take _ _)]
   refine zec (zat (zc7 (g:=seD) (xs:=ini ++ [s]) rfl rfl rfl)) (zat (zad rfl rfl)) ?_
   rw [List.length_map]
   show _ + 1 <= _
   omega
 walk_at "nrm"
 apply zam
 refine zaz (zmn (zb1 (zar rfl rfl (zdt _ _))) (zb1 (zar rfl rfl (zdt _ _)))) (fun _=>?_) (fun _=>zbo ?_)
 ·have hc:=cut (HT.sIx ls.length 0 none) (HT.sIx ls.length ls.length (some t) - HT.sIx ls.length 0 none)
  have hd:=cut (HT.sIx ls.length 0 (some (t + 1))) (HT.sIx ls.length ls.length none - HT.sIx ls.length 0 (some (t + 1)))
  obtain ⟨d,eo,l',rfl,hl'⟩:=z14 n lt (hl lt (List.mem_of_getElem? hlt)) a3
  refine zbw (d:=.tup [.lst (ss.map seD),.lst (((((ls.drop (HT.sIx ls.length 0 none)).take (HT.sIx ls.length ls.length (some t) - HT.sIx ls.length 0 none)) ++ [l']) ++ ((ls.drop (HT.sIx ls.length 0 (some (t + 1)))).take (HT.sIx ls.length ls.length none - HT.sIx ls.length 0 (some (t + 1))))).map lD)]) (zb7 (zad rfl (zad (zat ?_) rfl))) (zbr ⟨ss,_,rfl,hsok,by omega,zgf (zgf hc.1 (zln hl')) hd.1,by rw [List.length_append,List.length_append]; show (_ + 1) + _ <= _; omega⟩)
  rw [List.map_append,List.map_append]
  refine zec (zat (zec (zat (zc7 (g:=lD) (xs:=ls) rfl rfl rfl)) (zat (zad (zau (zad (zak rfl rfl elt) (zad (zak rfl rfl e3) rfl)) eo) rfl)) ?_)) (zat (zc7 (g:=lD) (xs:=ls) rfl rfl rfl)) ?_
  ·simp only [List.length_map,List.length_cons,List.length_nil]
   omega
  ·simp only [List.length_append,List.length_map,List.length_cons,List.length_nil]
   omega
 walk_at "nrm"
 apply zam
 refine zaz (zb1 (zar rfl rfl (zdt _ _))) (fun _=>?_) (fun _=>zbo ?_)
 ·have m0 : 0 <= a2 % 2:=Int.emod_nonneg _ (by decide)
  have m1 : a2 % 2 < 2:=Int.emod_lt_of_pos _ (by decide)
  obtain ⟨v,l',hv,hvl,hvm⟩ : ∃ (v : Int) (l' : Ln),atI [D.int (-1),.int 0] (a2 % 2) = some (.int v) /\ atI (ls.map lD) v = some (lD l') /\ l' ∈ ls:=by
   rcases (show a2 % 2 = 0 \/ a2 % 2 = 1 by omega) with h | h
   ·rw [h]
    rcases List.eq_nil_or_concat ls with rfl | ⟨ini,l',rfl⟩
    ·cases l0
    ·rw [List.concat_eq_append]
     exact ⟨-1,l',rfl,by rw [List.map_append]; exact zlc _ _,by simp⟩
   ·rw [h]
    obtain ⟨l',hl',el'⟩:=zb4 (f:=lD) (xs:=ls) (i:=0) (by decide) (by omega)
    exact ⟨0,l',rfl,el',List.mem_of_getElem? hl'⟩
  refine zbw (d:=.tup [.lst (ss.map seD),.lst ((ls ++ [l']).map lD)]) (zb7 (zad rfl (zad (zat ?_) rfl))) (zbr ⟨ss,_,rfl,hsok,by omega,zgf hlm (zln (hlm l' hvm)),by rw [List.length_append]; show _ + 1 <= _; omega⟩)
  rw [List.map_append]
  refine zec rfl (zat (zad (zak rfl (zak (zad rfl (zad rfl rfl)) (zar (zak rfl rfl e2) rfl (zdk (by decide))) hv) hvl) rfl)) ?_
  rw [List.length_map]
  show _ + 1 <= _
  omega
 walk_at "nrm"
 apply zam
 refine zaz (zb1 (zar rfl rfl (zdt _ _))) (fun _=>?_) (fun _=>zbo ?_)
 ·have hc:=cut (HT.sIx ls.length 0 none) (HT.sIx ls.length ls.length (some 0) - HT.sIx ls.length 0 none)
  exact zbw (zb7 (zad rfl (zad (zat (zc7 (g:=lD) (xs:=ls) rfl rfl rfl)) rfl))) (zbr ⟨ss,_,rfl,hsok,by omega,hc.1,by omega⟩)
 walk_at "nrm"
 exact zbw (zb7 (zad rfl (zad rfl rfl))) (zbr ⟨ss,ls,rfl,hsok,by omega,hlm,by omega⟩)
theorem zua : ∀ n : Nat,cnt (List.replicate n none) = n
 | 0=>rfl
 | n + 1=>by
  have:=zua n
  unfold cnt at this ⊢
  rw [List.replicate_succ]
  show ((none : Option Bool) :: _).length = _
  rw [List.length_cons,this]
theorem z7c (ns : List Int) (hns : ns.length <= 63) : m_2 [.kl (ns.map D.int)] = some (.bl true):=by
 apply zeb
 unfold b_2
 show wp _ [.im (.kl (ns.map D.int)),.no,.no,.no,.no,.no,.no,.no,.no] _
 obtain ⟨c0,k0⟩:=zu2 ns 0 (by decide)
 obtain ⟨c1,k1⟩:=zu2 ns 1 (by decide)
 obtain ⟨d,em,hs,rfl,hl,hx⟩:=zl1 c0 6 (by decide) (by decide)
 obtain ⟨a0,h0,e0⟩:=zb4 (f:=D.int) (xs:=hs) (i:=0) (by decide) (by omega)
 obtain ⟨a1,h1,e1⟩:=zb4 (f:=D.int) (xs:=hs) (i:=1) (by decide) (by omega)
 obtain ⟨a2,h2,e2⟩:=zb4 (f:=D.int) (xs:=hs) (i:=2) (by decide) (by omega)
 obtain ⟨a3,h3,e3⟩:=zb4 (f:=D.int) (xs:=hs) (i:=3) (by decide) (by omega)
 obtain ⟨a4,h4,e4⟩:=zb4 (f:=D.int) (xs:=hs) (i:=4) (by decide) (by omega)
 apply zam
 refine zbs (zau (zad (zau (zad rfl (zad rfl rfl)) k0) (zad rfl rfl)) em) ?_
 walk_at "nrm"
 apply zam
 refine zbs (zar (zar (zar (zak rfl rfl e0) rfl (zdk (by decide))) rfl zhg) rfl (zoa ⟨by decide,by decide⟩)) ?_
 walk_at "nrm"
 have b0 : 0 <= a0 % 10:=Int.emod_nonneg _ (by decide)
 have b1 : a0 % 10 < 10:=Int.emod_lt_of_pos _ (by decide)
 obtain ⟨n,hn⟩ : ∃ n : Nat,(a0 % 10 + 2) / 3 = (n : Int):=⟨((a0 % 10 + 2) / 3).toNat,by omega⟩
 rw [hn]
 have n7 : n <= 7:=by omega
 clear hn
 obtain ⟨rs0,er0,hr0,hl0⟩:=z13 (a1 % 5) (n : Int) (Int.emod_nonneg _ (by decide)) (Int.emod_lt_of_pos _ (by decide)) (by omega) (by omega)
 apply zam
 refine zer (zsf (zad (zar (zak rfl rfl e1) rfl (zdk (by decide))) (zad rfl rfl)) er0) ?_
 walk_at "nrm"
 have hcl:=List.length_take_le' (HT.sIx ns.length ns.length (some 12) - HT.sIx ns.length 0 (some 2)) (ns.drop (HT.sIx ns.length 0 (some 2)))
 rw [List.length_drop] at hcl
 generalize hcs : (ns.drop (HT.sIx ns.length 0 (some 2))).take (HT.sIx ns.length ns.length (some 12) - HT.sIx ns.length 0 (some 2)) = cs at hcl
 apply zam
 refine zea cs D.int (fun pre ρ=>∃ (rs : List Rul) (v4 : Sl),ρ = [.im (.kl (ns.map D.int)),.im (.lst (hs.map D.int)),.im (.int n),.own (rs.map Rul.toD),v4,.no,.no,.no,.no] /\ (∀ r ∈ rs,r.Ok n /\ r.ps.length <= 3) /\ rs.length <= 60 + pre.length) (by rw [<- hcs]; exact zcq (zat (zpd rfl rfl rfl)) rfl) ⟨rs0,.no,rfl,hr0,by show rs0.length <= 60 + 0; omega⟩ ?_ ?_
 ·rintro pre c post ρ ex ⟨rs,v4,rfl,hrs,hlr⟩
  have hpl : pre.length < cs.length:=by rw [ex]; simp
  obtain ⟨d,er,r,rfl,hr,hr3⟩:=z11 (a2 % 2 == 0) c (n : Int) (by omega) (by omega)
  refine ⟨_,rfl,?_⟩
  walk_at "nrm"
  refine zhq (zau (zad rfl (zad rfl (zad (zar (zar (zak rfl rfl e2) rfl (zdk (by decide))) rfl (zdt _ _)) rfl))) er) rfl (by rw [List.length_map]; omega) ?_
  refine ⟨rs ++ [r],.im (.int c),by rw [List.map_append]; rfl,fun q hq=>?_,by rw [List.length_append,List.length_append]; show _ + 1 <= 60 + (_ + 1); omega⟩
  rcases List.mem_append.mp hq with h | h
  ·exact hrs q h
  ·have : q = r:=by simpa using h
   subst this
   exact ⟨hr,hr3⟩
 rintro ρ ⟨rs,v4,rfl,hrs,hlr⟩
 walk_at "nrm"
 have hok : ∀ r ∈ rs,r.Ok n:=fun r hr=>(hrs r hr).1
 have hp : ∀ r ∈ rs,r.ps.length <= 1000:=fun r hr=>by have:=(hrs r hr).2; omega
 have hrsl : rs.length <= 1000:=by omega
 obtain ⟨d,est,ss0,rfl,hss0,hsl0⟩:=z0x rs n n7 hok hrsl
 apply zam
 refine zhw rfl ?_
 refine zbs (zau (zad rfl (zad rfl rfl)) est) ?_
 walk_at "nrm"
 refine zic (fun ρ'=>∃ ss : List (List Int),ρ' = [.im (.kl (ns.map D.int)),.im (.lst (hs.map D.int)),.im (.int n),.im (.lst (rs.map Rul.toD)),v4,.im (.lst (ss.map seD)),.no,.no,.no] /\ (∀ s ∈ ss,SeN n s) /\ ss.length <= 200) ?_ ?_
 ·refine zaz (zb1 (zar (zar (zak rfl rfl e3) rfl (zdk (by decide))) rfl (zdt _ _))) (fun _=>?_) (fun _=>zbo (k_J ⟨ss0,rfl,hss0,hsl0⟩))
  have hc:=zh4 hss0 (HT.sIx ss0.length 0 (some 1)) (HT.sIx ss0.length ss0.length none - HT.sIx ss0.length 0 (some 1))
  exact zbs (zat (zc7 (g:=seD) (xs:=ss0) rfl rfl rfl)) (k_J ⟨_,rfl,hc.1,by omega⟩)
 rintro ρ' ⟨ss1,rfl,hss1,hsl1⟩
 refine zic (fun ρ'=>∃ ss : List (List Int),ρ' = [.im (.kl (ns.map D.int)),.im (.lst (hs.map D.int)),.im (.int n),.im (.lst (rs.map Rul.toD)),v4,.im (.lst (ss.map seD)),.no,.no,.no] /\ (∀ s ∈ ss,SeN n s) /\ ss.length <= 300) ?_ ?_
 ·refine zaz (zb1 (zar (zar (zak rfl rfl e3) rfl (zdk (by decide))) rfl (zdt _ _))) (fun _=>?_) (fun _=>zbo (k_J ⟨ss1,rfl,hss1,by omega⟩))
  refine zbs (d:=.lst ((ss1 ++ [((List.range n).filter fun (i : Nat)=>a4 / ((i : Int) + 1) % 2 == 0).map fun (i : Nat)=>(i : Int)]).map seD)) (zat ?_) (k_J ⟨_,rfl,zgf hss1 (zln (ztk n n (Nat.le_refl n) (by omega) _)),by rw [List.length_append]; show _ + 1 <= _; omega⟩)
  rw [List.map_append]
  refine zec rfl (zat (zad (zat ?_) rfl)) ?_
  ·refine Eq.trans ?_ (congrArg some List.map_map.symm)
   refine zd3 (List.range n) (fun (i : Nat)=>D.int i) (fun (i : Nat)=>a4 / ((i : Int) + 1) % 2 == 0) (fun (i : Nat)=>D.int i) (ze2 (n:=(n : Int)) (zad rfl rfl) (by omega) (by omega)) (by rw [List.length_range]; omega) fun i hi=>zd1 rfl (zb1 (zar (zar (zar (zak rfl rfl e4) (zar rfl rfl zhg) (zoa ?_)) rfl (zdk (by decide))) rfl (zdt _ _))) fun _=>rfl
   have:=List.mem_range.mp hi
   exact ⟨by omega,by omega⟩
  ·rw [List.length_map]
   show _ + 1 <= _
   omega
 rintro ρ' ⟨ss,rfl,hss,hsl⟩
 have hsok : ∀ s ∈ ss,zdy n s:=fun s h=>(hss s h).1
 apply zam
 refine zer rfl ?_
 walk_at "nrm"
 obtain ⟨new,hbo,hnew,hn0,hn9⟩:=zqw (rs:=rs) (ss:=ss) n (by omega) hok hrsl hsok (by omega) 9 (List.replicate n none) [] [] c1 List.length_replicate (by rw [zua]; omega) List.nodup_nil (fun z hz=>(by cases hz)) (by show 0 + 9 <= 50; decide) (fun l hl=>(by cases hl)) (by show 0 + 2 ^ 9 <= 900; decide)
 apply zam
 refine zhw rfl ?_
 refine zrm (z7x rfl (zen rfl (zen rfl (zen (d:=.lst ((List.replicate n none).map shD)) (zat ?_) (zen (d:=baD []) (zat rfl) (zn9 (zad (zau (zad rfl (zad rfl rfl)) k1) rfl)))))) (ys:=new.map lD) (d:=.non) fun l=>hbo l) ?_
 ·rw [<- zpq]
  exact zcs (List.range n) (fun (i : Nat)=>D.int i) (fun _=>D.non) (ze2 (n:=(n : Int)) (zad rfl rfl) (by omega) (by omega)) (by rw [List.length_range]; omega) fun i _=>zcp rfl rfl rfl
 walk_at "nrm"
 have hcl2:=List.length_take_le' (HT.sIx ns.length ns.length (some 42) - HT.sIx ns.length 0 (some 2)) (ns.drop (HT.sIx ns.length 0 (some 2)))
 rw [List.length_drop] at hcl2
 generalize hcs2 : (ns.drop (HT.sIx ns.length 0 (some 2))).take (HT.sIx ns.length ns.length (some 42) - HT.sIx ns.length 0 (some 2)) = cs2 at hcl2
 have h29 : 2 ^ 9 = 512:=by decide
 apply zam
 refine zea (c0 :: cs2) D.int (fun _ ρ=>∃ (v4 v6 v7 v8 : Sl),ρ = [.im (.kl (ns.map D.int)),.im (.lst (hs.map D.int)),.im (.int n),.im (.lst (rs.map Rul.toD)),v4,.im (.lst (ss.map seD)),v6,v7,v8] /\ (v6 = .own (new.map lD) \/ v6 = .im (.lst (new.map lD)))) ?_ ⟨_,_,_,_,rfl,.inl rfl⟩ ?_ ?_
 ·refine zcq (d:=.lst ((c0 :: cs2).map D.int)) (zat ?_) rfl
  show zcz _ _ _ = some ([D.int c0] ++ cs2.map D.int)
  refine zec ?_ (zat ?_) ?_
  ·exact zat (zad (zau (zad rfl (zad rfl rfl)) k0) rfl)
  ·rw [<- hcs2]
   exact zpd rfl rfl rfl
  ·rw [List.length_map]
   show 1 + cs2.length <= _
   omega
 ·rintro pre c post ρ ex ⟨v4,v6,v7,v8,rfl,hv6⟩
  obtain ⟨d,es,ss',ls',rfl,hss',hsl',hls',hll'⟩:=z1a n (by omega) ss hss hsl new hnew hn0 (by omega) c
  have ea:=zz1 (rs:=rs) (ss:=ss') n (by omega) hok hrsl hp hss' hsl' ls' hls' hll'
  refine ⟨_,rfl,?_⟩
  walk_at "nrm"
  have hf6 : znu 6 [.im (.kl (ns.map D.int)),.im (.lst (hs.map D.int)),.im (.int n),.im (.lst (rs.map Rul.toD)),.im (.int c),.im (.lst (ss.map seD)),v6,v7,v8] = [.im (.kl (ns.map D.int)),.im (.lst (hs.map D.int)),.im (.int n),.im (.lst (rs.map Rul.toD)),.im (.int c),.im (.lst (ss.map seD)),.im (.lst (new.map lD)),v7,v8]:=by
   rcases hv6 with rfl | rfl <;> rfl
  apply zam
  refine zhw hf6 ?_
  refine zhm (zau (zad rfl (zad rfl (zad rfl (zad rfl rfl)))) es) rfl ?_
  walk_at "nrm"
  refine zhw rfl ?_
  refine zaz (b:=false) (zfo (b:=true) (zde (zau (zad rfl (zad rfl (zad rfl (zad rfl rfl)))) ea) rfl)) (fun z=>by cases z) (fun _=>zbo ?_)
  exact ⟨_,_,_,_,rfl,.inr rfl⟩
 ·rintro ρ ⟨v4,v6,v7,v8,rfl,_⟩
  exact zbw rfl (zbr rfl)
section
variable {P : Program} {w : World} {K : PySem.W.Frag} {mg : Str -> Option Value} {base : Heap}
noncomputable def sp_law (K : PySem.W.Frag) : Sp:=fun vs H Q _=>∃ (a : Addr) (ns : List Int),vs = [.ref a] /\ SqL K H a (ns.map V.int) /\ ns.length <= 63 /\ ∀ H',Q (.bl true) H'
theorem sp_law_of {K : PySem.W.Frag} {H : Hp} {a : Addr} {ns : List Int} {E : XK} (hl : ns.length <= 63) (hS : SqL K H a (ns.map V.int)) : sp_law K [.ref a] H (fun v _=>v = .bl true) E:=⟨a,ns,rfl,hS,hl,fun _=>rfl⟩
theorem law_ok {a : Wa} (W : Wd K mg a) : zax P w K mg base CX0 15 a.f_2 a.fd_2 ["_law_script"] (sp_law K):=(z5h W).imp fun vs H Q E ⟨a,ns,ev,hS,hl,k⟩ =>
 ⟨H,[.kl (ns.map D.int)],.bl true,za5.refl _,⟨.ref a,[],ev,⟨a,_,rfl,hS,zas.ints ns⟩,rfl⟩,rfl,z7c ns hl,fun v Hf' H' x r=>by rw [show v = V.bl true from r]; exact k H'⟩
end
section
variable {K : PySem.W.Frag} {mg : Str -> Option Value}
theorem zk0 {P : List Value -> Prop} (h : P []) : ∀ us : List Value,us.length = 0 -> P us:=fun us e=>by
 rw [List.eq_nil_of_length_eq_zero e]
 exact h
theorem zdh {n : Nat} {P : List Value -> Prop} (h : ∀ a (us : List Value),us.length = n -> P (a :: us)) : ∀ us : List Value,us.length = n + 1 -> P us:=fun us e=>by
 cases us with
 | nil=>cases e
 | cons a us=>exact h a us (Nat.succ.inj e)
theorem zjs {P : List Value -> Prop} (h : ∀ a0 : Value,P [a0]) : ∀ us : List Value,us.length = 1 -> P us:=zdh (P:=fun us=>P (us)) fun a0=>zk0 (h a0)
theorem zcv {P : List Value -> Prop} (h : ∀ a0 a1 : Value,P [a0,a1]) : ∀ us : List Value,us.length = 2 -> P us:=zdh (P:=fun us=>P (us)) fun a0=>zdh (P:=fun us=>P (a0 :: us)) fun a1=>zk0 (h a0 a1)
theorem zeh {P : List Value -> Prop} (h : ∀ a0 a1 a2 : Value,P [a0,a1,a2]) : ∀ us : List Value,us.length = 3 -> P us:=zdh (P:=fun us=>P (us)) fun a0=>zdh (P:=fun us=>P (a0 :: us)) fun a1=>zdh (P:=fun us=>P (a0 :: a1 :: us)) fun a2=>zk0 (h a0 a1 a2)
theorem zlm {P : List Value -> Prop} (h : ∀ a0 a1 a2 a3 : Value,P [a0,a1,a2,a3]) : ∀ us : List Value,us.length = 4 -> P us:=zdh (P:=fun us=>P (us)) fun a0=>zdh (P:=fun us=>P (a0 :: us)) fun a1=>zdh (P:=fun us=>P (a0 :: a1 :: us)) fun a2=>zdh (P:=fun us=>P (a0 :: a1 :: a2 :: us)) fun a3=>zk0 (h a0 a1 a2 a3)
theorem zi0 {P : List Value -> Prop} (h : ∀ a0 a1 a2 a3 a4 : Value,P [a0,a1,a2,a3,a4]) : ∀ us : List Value,us.length = 5 -> P us:=zdh (P:=fun us=>P (us)) fun a0=>zdh (P:=fun us=>P (a0 :: us)) fun a1=>zdh (P:=fun us=>P (a0 :: a1 :: us)) fun a2=>zdh (P:=fun us=>P (a0 :: a1 :: a2 :: us)) fun a3=>zdh (P:=fun us=>P (a0 :: a1 :: a2 :: a3 :: us)) fun a4=>zk0 (h a0 a1 a2 a3 a4)
theorem z59 {P : List Value -> Prop} (h : ∀ a0 a1 a2 a3 a4 a5 : Value,P [a0,a1,a2,a3,a4,a5]) : ∀ us : List Value,us.length = 6 -> P us:=zdh (P:=fun us=>P (us)) fun a0=>zdh (P:=fun us=>P (a0 :: us)) fun a1=>zdh (P:=fun us=>P (a0 :: a1 :: us)) fun a2=>zdh (P:=fun us=>P (a0 :: a1 :: a2 :: us)) fun a3=>zdh (P:=fun us=>P (a0 :: a1 :: a2 :: a3 :: us)) fun a4=>zdh (P:=fun us=>P (a0 :: a1 :: a2 :: a3 :: a4 :: us)) fun a5=>zk0 (h a0 a1 a2 a3 a4 a5)
theorem all_mk {l : PySem.W.OpenLaw} {w : World} {h : Heap} {C_In : Addr} {C_Out : Addr} {C_Least : Addr} {C_Most : Addr} {f_8 : Addr} {od_8 an_8 : Option Addr} {sl_8 : Array (Option Value)} {oc_8 kV_8 dc_8 pm_8 cd_8 ct_8 : Value} {f_48 : Addr} {od_48 an_48 : Option Addr} {sl_48 : Array (Option Value)} {oc_48 kV_48 dc_48 pm_48 cd_48 ct_48 : Value} {f_30 : Addr} {od_30 an_30 : Option Addr} {sl_30 : Array (Option Value)} {oc_30 kV_30 dc_30 pm_30 cd_30 ct_30 : Value} {f_20 : Addr} {od_20 an_20 : Option Addr} {sl_20 : Array (Option Value)} {oc_20 kV_20 dc_20 pm_20 cd_20 ct_20 : Value} {f_51 : Addr} {od_51 an_51 : Option Addr} {sl_51 : Array (Option Value)} {oc_51 kV_51 dc_51 pm_51 cd_51 ct_51 : Value} {f_31 : Addr} {od_31 an_31 : Option Addr} {sl_31 : Array (Option Value)} {oc_31 kV_31 dc_31 pm_31 cd_31 ct_31 : Value} {f_52 : Addr} {od_52 an_52 : Option Addr} {sl_52 : Array (Option Value)} {oc_52 kV_52 dc_52 pm_52 cd_52 ct_52 : Value} {f_53 : Addr} {od_53 an_53 : Option Addr} {sl_53 : Array (Option Value)} {oc_53 kV_53 dc_53 pm_53 cd_53 ct_53 : Value} {f_54 : Addr} {od_54 an_54 : Option Addr} {sl_54 : Array (Option Value)} {oc_54 kV_54 dc_54 pm_54 cd_54 ct_54 : Value} {f_44 : Addr} {od_44 an_44 : Option Addr} {sl_44 : Array (Option Value)} {oc_44 kV_44 dc_44 pm_44 cd_44 ct_44 : Value} {f_45 : Addr} {od_45 an_45 : Option Addr} {sl_45 : Array (Option Value)} {oc_45 kV_45 dc_45 pm_45 cd_45 ct_45 : Value} {f_55 : Addr} {od_55 an_55 : Option Addr} {sl_55 : Array (Option Value)} {oc_55 kV_55 dc_55 pm_55 cd_55 ct_55 : Value} {f_13 : Addr} {od_13 an_13 : Option Addr} {sl_13 : Array (Option Value)} {oc_13 kV_13 dc_13 pm_13 cd_13 ct_13 : Value} {f_4 : Addr} {od_4 an_4 : Option Addr} {sl_4 : Array (Option Value)} {oc_4 kV_4 dc_4 pm_4 cd_4 ct_4 : Value} {f_46 : Addr} {od_46 an_46 : Option Addr} {sl_46 : Array (Option Value)} {oc_46 kV_46 dc_46 pm_46 cd_46 ct_46 : Value} {f_56 : Addr} {od_56 an_56 : Option Addr} {sl_56 : Array (Option Value)} {oc_56 kV_56 dc_56 pm_56 cd_56 ct_56 : Value} {f_47 : Addr} {od_47 an_47 : Option Addr} {sl_47 : Array (Option Value)} {oc_47 kV_47 dc_47 pm_47 cd_47 ct_47 : Value} {f_40 : Addr} {od_40 an_40 : Option Addr} {sl_40 : Array (Option Value)} {oc_40 kV_40 dc_40 pm_40 cd_40 ct_40 : Value} {f_32 : Addr} {od_32 an_32 : Option Addr} {sl_32 : Array (Option Value)} {oc_32 kV_32 dc_32 pm_32 cd_32 ct_32 : Value} {f_33 : Addr} {od_33 an_33 : Option Addr} {sl_33 : Array (Option Value)} {oc_33 kV_33 dc_33 pm_33 cd_33 ct_33 : Value} {f_41 : Addr} {od_41 an_41 : Option Addr} {sl_41 : Array (Option Value)} {oc_41 kV_41 dc_41 pm_41 cd_41 ct_41 : Value} {f_5 : Addr} {od_5 an_5 : Option Addr} {sl_5 : Array (Option Value)} {oc_5 kV_5 dc_5 pm_5 cd_5 ct_5 : Value} {f_0 : Addr} {od_0 an_0 : Option Addr} {sl_0 : Array (Option Value)} {oc_0 kV_0 dc_0 pm_0 cd_0 ct_0 : Value} {f_42 : Addr} {od_42 an_42 : Option Addr} {sl_42 : Array (Option Value)} {oc_42 kV_42 dc_42 pm_42 cd_42 ct_42 : Value} {f_34 : Addr} {od_34 an_34 : Option Addr} {sl_34 : Array (Option Value)} {oc_34 kV_34 dc_34 pm_34 cd_34 ct_34 : Value} {f_43 : Addr} {od_43 an_43 : Option Addr} {sl_43 : Array (Option Value)} {oc_43 kV_43 dc_43 pm_43 cd_43 ct_43 : Value} {f_21 : Addr} {od_21 an_21 : Option Addr} {sl_21 : Array (Option Value)} {oc_21 kV_21 dc_21 pm_21 cd_21 ct_21 : Value} {f_9 : Addr} {od_9 an_9 : Option Addr} {sl_9 : Array (Option Value)} {oc_9 kV_9 dc_9 pm_9 cd_9 ct_9 : Value} {f_49 : Addr} {od_49 an_49 : Option Addr} {sl_49 : Array (Option Value)} {oc_49 kV_49 dc_49 pm_49 cd_49 ct_49 : Value} {f_6 : Addr} {od_6 an_6 : Option Addr} {sl_6 : Array (Option Value)} {oc_6 kV_6 dc_6 pm_6 cd_6 ct_6 : Value} {f_50 : Addr} {od_50 an_50 : Option Addr} {sl_50 : Array (Option Value)} {oc_50 kV_50 dc_50 pm_50 cd_50 ct_50 : Value} {f_22 : Addr} {od_22 an_22 : Option Addr} {sl_22 : Array (Option Value)} {oc_22 kV_22 dc_22 pm_22 cd_22 ct_22 : Value} {f_14 : Addr} {od_14 an_14 : Option Addr} {sl_14 : Array (Option Value)} {oc_14 kV_14 dc_14 pm_14 cd_14 ct_14 : Value} {f_35 : Addr} {od_35 an_35 : Option Addr} {sl_35 : Array (Option Value)} {oc_35 kV_35 dc_35 pm_35 cd_35 ct_35 : Value} {f_3 : Addr} {od_3 an_3 : Option Addr} {sl_3 : Array (Option Value)} {oc_3 kV_3 dc_3 pm_3 cd_3 ct_3 : Value} {f_7 : Addr} {od_7 an_7 : Option Addr} {sl_7 : Array (Option Value)} {oc_7 kV_7 dc_7 pm_7 cd_7 ct_7 : Value} {f_23 : Addr} {od_23 an_23 : Option Addr} {sl_23 : Array (Option Value)} {oc_23 kV_23 dc_23 pm_23 cd_23 ct_23 : Value} {f_10 : Addr} {od_10 an_10 : Option Addr} {sl_10 : Array (Option Value)} {oc_10 kV_10 dc_10 pm_10 cd_10 ct_10 : Value} {f_1 : Addr} {od_1 an_1 : Option Addr} {sl_1 : Array (Option Value)} {oc_1 kV_1 dc_1 pm_1 cd_1 ct_1 : Value} {f_57 : Addr} {od_57 an_57 : Option Addr} {sl_57 : Array (Option Value)} {oc_57 kV_57 dc_57 pm_57 cd_57 ct_57 : Value} {f_11 : Addr} {od_11 an_11 : Option Addr} {sl_11 : Array (Option Value)} {oc_11 kV_11 dc_11 pm_11 cd_11 ct_11 : Value} {f_36 : Addr} {od_36 an_36 : Option Addr} {sl_36 : Array (Option Value)} {oc_36 kV_36 dc_36 pm_36 cd_36 ct_36 : Value} {f_37 : Addr} {od_37 an_37 : Option Addr} {sl_37 : Array (Option Value)} {oc_37 kV_37 dc_37 pm_37 cd_37 ct_37 : Value} {f_24 : Addr} {od_24 an_24 : Option Addr} {sl_24 : Array (Option Value)} {oc_24 kV_24 dc_24 pm_24 cd_24 ct_24 : Value} {f_25 : Addr} {od_25 an_25 : Option Addr} {sl_25 : Array (Option Value)} {oc_25 kV_25 dc_25 pm_25 cd_25 ct_25 : Value} {f_38 : Addr} {od_38 an_38 : Option Addr} {sl_38 : Array (Option Value)} {oc_38 kV_38 dc_38 pm_38 cd_38 ct_38 : Value} {f_12 : Addr} {od_12 an_12 : Option Addr} {sl_12 : Array (Option Value)} {oc_12 kV_12 dc_12 pm_12 cd_12 ct_12 : Value} {f_15 : Addr} {od_15 an_15 : Option Addr} {sl_15 : Array (Option Value)} {oc_15 kV_15 dc_15 pm_15 cd_15 ct_15 : Value} {f_39 : Addr} {od_39 an_39 : Option Addr} {sl_39 : Array (Option Value)} {oc_39 kV_39 dc_39 pm_39 cd_39 ct_39 : Value} {f_2 : Addr} {od_2 an_2 : Option Addr} {sl_2 : Array (Option Value)} {oc_2 kV_2 dc_2 pm_2 cd_2 ct_2 : Value} {f_58 : Addr} {od_58 an_58 : Option Addr} {sl_58 : Array (Option Value)} {oc_58 kV_58 dc_58 pm_58 cd_58 ct_58 : Value} {f_26 : Addr} {od_26 an_26 : Option Addr} {sl_26 : Array (Option Value)} {oc_26 kV_26 dc_26 pm_26 cd_26 ct_26 : Value} {f_16 : Addr} {od_16 an_16 : Option Addr} {sl_16 : Array (Option Value)} {oc_16 kV_16 dc_16 pm_16 cd_16 ct_16 : Value} {f_59 : Addr} {od_59 an_59 : Option Addr} {sl_59 : Array (Option Value)} {oc_59 kV_59 dc_59 pm_59 cd_59 ct_59 : Value} {f_27 : Addr} {od_27 an_27 : Option Addr} {sl_27 : Array (Option Value)} {oc_27 kV_27 dc_27 pm_27 cd_27 ct_27 : Value} {f_17 : Addr} {od_17 an_17 : Option Addr} {sl_17 : Array (Option Value)} {oc_17 kV_17 dc_17 pm_17 cd_17 ct_17 : Value} {f_60 : Addr} {od_60 an_60 : Option Addr} {sl_60 : Array (Option Value)} {oc_60 kV_60 dc_60 pm_60 cd_60 ct_60 : Value} {f_28 : Addr} {od_28 an_28 : Option Addr} {sl_28 : Array (Option Value)} {oc_28 kV_28 dc_28 pm_28 cd_28 ct_28 : Value} {f_18 : Addr} {od_18 an_18 : Option Addr} {sl_18 : Array (Option Value)} {oc_18 kV_18 dc_18 pm_18 cd_18 ct_18 : Value} {f_61 : Addr} {od_61 an_61 : Option Addr} {sl_61 : Array (Option Value)} {oc_61 kV_61 dc_61 pm_61 cd_61 ct_61 : Value} {f_29 : Addr} {od_29 an_29 : Option Addr} {sl_29 : Array (Option Value)} {oc_29 kV_29 dc_29 pm_29 cd_29 ct_29 : Value} {f_19 : Addr} {od_19 an_19 : Option Addr} {sl_19 : Array (Option Value)} {oc_19 kV_19 dc_19 pm_19 cd_19 ct_19 : Value} {fa : Addr} (X : K.In h) (G : h.Ns mainGlobals mg) (hfa : mg "law" = some (.ref fa))
  (aC_In : PySem.W.nsIn K mainGlobals "In" = some (some (.ref C_In)))
  (aC_Out : PySem.W.nsIn K mainGlobals "Out" = some (some (.ref C_Out)))
  (aC_Least : PySem.W.nsIn K mainGlobals "Least" = some (some (.ref C_Least)))
  (aC_Most : PySem.W.nsIn K mainGlobals "Most" = some (some (.ref C_Most)))
  (a_8 : PySem.W.nsIn K mainGlobals "marks" = some (some (.ref f_8)))
  (l_8 : K.lookup f_8 = some ⟨oc_8,od_8,.func (PySem.W.fnOf "marks" "marks" (zbe s_8) (za9 s_8) (zao s_8) .none kV_8 dc_8 pm_8 an_8 cd_8 ct_8),sl_8⟩)
  (c_8 : PySem.W.codeIn K cd_8 "marks" = true)
  (k_8 : PySem.W.keepIn K (.ref f_8) = true)
  (a_48 : PySem.W.nsIn K mainGlobals "part_of" = some (some (.ref f_48)))
  (l_48 : K.lookup f_48 = some ⟨oc_48,od_48,.func (PySem.W.fnOf "part_of" "part_of" (zbe zk8) (za9 zk8) (zao zk8) .none kV_48 dc_48 pm_48 an_48 cd_48 ct_48),sl_48⟩)
  (c_48 : PySem.W.codeIn K cd_48 "part_of" = true)
  (k_48 : PySem.W.keepIn K (.ref f_48) = true)
  (a_30 : PySem.W.nsIn K mainGlobals "worth_in" = some (some (.ref f_30)))
  (l_30 : K.lookup f_30 = some ⟨oc_30,od_30,.func (PySem.W.fnOf "worth_in" "worth_in" (zbe zkd) (za9 zkd) (zao zkd) .none kV_30 dc_30 pm_30 an_30 cd_30 ct_30),sl_30⟩)
  (c_30 : PySem.W.codeIn K cd_30 "worth_in" = true)
  (k_30 : PySem.W.keepIn K (.ref f_30) = true)
  (a_20 : PySem.W.nsIn K mainGlobals "worth_not_out" = some (some (.ref f_20)))
  (l_20 : K.lookup f_20 = some ⟨oc_20,od_20,.func (PySem.W.fnOf "worth_not_out" "worth_not_out" (zbe zjg) (za9 zjg) (zao zjg) .none kV_20 dc_20 pm_20 an_20 cd_20 ct_20),sl_20⟩)
  (c_20 : PySem.W.codeIn K cd_20 "worth_not_out" = true)
  (k_20 : PySem.W.keepIn K (.ref f_20) = true)
  (a_51 : PySem.W.nsIn K mainGlobals "outside" = some (some (.ref f_51)))
  (l_51 : K.lookup f_51 = some ⟨oc_51,od_51,.func (PySem.W.fnOf "outside" "outside" (zbe zkg) (za9 zkg) (zao zkg) .none kV_51 dc_51 pm_51 an_51 cd_51 ct_51),sl_51⟩)
  (c_51 : PySem.W.codeIn K cd_51 "outside" = true)
  (k_51 : PySem.W.keepIn K (.ref f_51) = true)
  (a_31 : PySem.W.nsIn K mainGlobals "body_of" = some (some (.ref f_31)))
  (l_31 : K.lookup f_31 = some ⟨oc_31,od_31,.func (PySem.W.fnOf "body_of" "body_of" (zbe zkj) (za9 zkj) (zao zkj) .none kV_31 dc_31 pm_31 an_31 cd_31 ct_31),sl_31⟩)
  (c_31 : PySem.W.codeIn K cd_31 "body_of" = true)
  (k_31 : PySem.W.keepIn K (.ref f_31) = true)
  (a_52 : PySem.W.nsIn K mainGlobals "body_sure" = some (some (.ref f_52)))
  (l_52 : K.lookup f_52 = some ⟨oc_52,od_52,.func (PySem.W.fnOf "body_sure" "body_sure" (zbe zjz) (za9 zjz) (zao zjz) .none kV_52 dc_52 pm_52 an_52 cd_52 ct_52),sl_52⟩)
  (c_52 : PySem.W.codeIn K cd_52 "body_sure" = true)
  (k_52 : PySem.W.keepIn K (.ref f_52) = true)
  (a_53 : PySem.W.nsIn K mainGlobals "body_lost" = some (some (.ref f_53)))
  (l_53 : K.lookup f_53 = some ⟨oc_53,od_53,.func (PySem.W.fnOf "body_lost" "body_lost" (zbe zka) (za9 zka) (zao zka) .none kV_53 dc_53 pm_53 an_53 cd_53 ct_53),sl_53⟩)
  (c_53 : PySem.W.codeIn K cd_53 "body_lost" = true)
  (k_53 : PySem.W.keepIn K (.ref f_53) = true)
  (a_54 : PySem.W.nsIn K mainGlobals "surely_broken" = some (some (.ref f_54)))
  (l_54 : K.lookup f_54 = some ⟨oc_54,od_54,.func (PySem.W.fnOf "surely_broken" "surely_broken" (zbe zj6) (za9 zj6) (zao zj6) .none kV_54 dc_54 pm_54 an_54 cd_54 ct_54),sl_54⟩)
  (c_54 : PySem.W.codeIn K cd_54 "surely_broken" = true)
  (k_54 : PySem.W.keepIn K (.ref f_54) = true)
  (a_44 : PySem.W.nsIn K mainGlobals "put_to" = some (some (.ref f_44)))
  (l_44 : K.lookup f_44 = some ⟨oc_44,od_44,.func (PySem.W.fnOf "put_to" "put_to" (zbe zku) (za9 zku) (zao zku) .none kV_44 dc_44 pm_44 an_44 cd_44 ct_44),sl_44⟩)
  (c_44 : PySem.W.codeIn K cd_44 "put_to" = true)
  (k_44 : PySem.W.keepIn K (.ref f_44) = true)
  (a_45 : PySem.W.nsIn K mainGlobals "rests_outside" = some (some (.ref f_45)))
  (l_45 : K.lookup f_45 = some ⟨oc_45,od_45,.func (PySem.W.fnOf "rests_outside" "rests_outside" (zbe zkb) (za9 zkb) (zao zkb) .none kV_45 dc_45 pm_45 an_45 cd_45 ct_45),sl_45⟩)
  (c_45 : PySem.W.codeIn K cd_45 "rests_outside" = true)
  (k_45 : PySem.W.keepIn K (.ref f_45) = true)
  (a_55 : PySem.W.nsIn K mainGlobals "fits" = some (some (.ref f_55)))
  (l_55 : K.lookup f_55 = some ⟨oc_55,od_55,.func (PySem.W.fnOf "fits" "fits" (zbe zk7) (za9 zk7) (zao zk7) .none kV_55 dc_55 pm_55 an_55 cd_55 ct_55),sl_55⟩)
  (c_55 : PySem.W.codeIn K cd_55 "fits" = true)
  (k_55 : PySem.W.keepIn K (.ref f_55) = true)
  (a_13 : PySem.W.nsIn K mainGlobals "right_why" = some (some (.ref f_13)))
  (l_13 : K.lookup f_13 = some ⟨oc_13,od_13,.func (PySem.W.fnOf "right_why" "right_why" (zbe zkx) (za9 zkx) (zao zkx) .none kV_13 dc_13 pm_13 an_13 cd_13 ct_13),sl_13⟩)
  (c_13 : PySem.W.codeIn K cd_13 "right_why" = true)
  (k_13 : PySem.W.keepIn K (.ref f_13) = true)
  (a_4 : PySem.W.nsIn K mainGlobals "has_number" = some (some (.ref f_4)))
  (l_4 : K.lookup f_4 = some ⟨oc_4,od_4,.func (PySem.W.fnOf "has_number" "has_number" (zbe s_4) (za9 s_4) (zao s_4) .none kV_4 dc_4 pm_4 an_4 cd_4 ct_4),sl_4⟩)
  (c_4 : PySem.W.codeIn K cd_4 "has_number" = true)
  (k_4 : PySem.W.keepIn K (.ref f_4) = true)
  (a_46 : PySem.W.nsIn K mainGlobals "right_group" = some (some (.ref f_46)))
  (l_46 : K.lookup f_46 = some ⟨oc_46,od_46,.func (PySem.W.fnOf "right_group" "right_group" (zbe zkr) (za9 zkr) (zao zkr) .none kV_46 dc_46 pm_46 an_46 cd_46 ct_46),sl_46⟩)
  (c_46 : PySem.W.codeIn K cd_46 "right_group" = true)
  (k_46 : PySem.W.keepIn K (.ref f_46) = true)
  (a_56 : PySem.W.nsIn K mainGlobals "has_in" = some (some (.ref f_56)))
  (l_56 : K.lookup f_56 = some ⟨oc_56,od_56,.func (PySem.W.fnOf "has_in" "has_in" (zbe zjt) (za9 zjt) (zao zjt) .none kV_56 dc_56 pm_56 an_56 cd_56 ct_56),sl_56⟩)
  (c_56 : PySem.W.codeIn K cd_56 "has_in" = true)
  (k_56 : PySem.W.keepIn K (.ref f_56) = true)
  (a_47 : PySem.W.nsIn K mainGlobals "right_step" = some (some (.ref f_47)))
  (l_47 : K.lookup f_47 = some ⟨oc_47,od_47,.func (PySem.W.fnOf "right_step" "right_step" (zbe zjo) (za9 zjo) (zao zjo) .none kV_47 dc_47 pm_47 an_47 cd_47 ct_47),sl_47⟩)
  (c_47 : PySem.W.codeIn K cd_47 "right_step" = true)
  (k_47 : PySem.W.keepIn K (.ref f_47) = true)
  (a_40 : PySem.W.nsIn K mainGlobals "right_line" = some (some (.ref f_40)))
  (l_40 : K.lookup f_40 = some ⟨oc_40,od_40,.func (PySem.W.fnOf "right_line" "right_line" (zbe zjk) (za9 zjk) (zao zjk) .none kV_40 dc_40 pm_40 an_40 cd_40 ct_40),sl_40⟩)
  (c_40 : PySem.W.codeIn K cd_40 "right_line" = true)
  (k_40 : PySem.W.keepIn K (.ref f_40) = true)
  (a_32 : PySem.W.nsIn K mainGlobals "begun" = some (some (.ref f_32)))
  (l_32 : K.lookup f_32 = some ⟨oc_32,od_32,.func (PySem.W.fnOf "begun" "begun" (zbe zj5) (za9 zj5) (zao zj5) .none kV_32 dc_32 pm_32 an_32 cd_32 ct_32),sl_32⟩)
  (c_32 : PySem.W.codeIn K cd_32 "begun" = true)
  (k_32 : PySem.W.keepIn K (.ref f_32) = true)
  (a_33 : PySem.W.nsIn K mainGlobals "right_steps" = some (some (.ref f_33)))
  (l_33 : K.lookup f_33 = some ⟨oc_33,od_33,.func (PySem.W.fnOf "right_steps" "right_steps" (zbe zkf) (za9 zkf) (zao zkf) .none kV_33 dc_33 pm_33 an_33 cd_33 ct_33),sl_33⟩)
  (c_33 : PySem.W.codeIn K cd_33 "right_steps" = true)
  (k_33 : PySem.W.keepIn K (.ref f_33) = true)
  (a_41 : PySem.W.nsIn K mainGlobals "right_paper" = some (some (.ref f_41)))
  (l_41 : K.lookup f_41 = some ⟨oc_41,od_41,.func (PySem.W.fnOf "right_paper" "right_paper" (zbe ziy) (za9 ziy) (zao ziy) .none kV_41 dc_41 pm_41 an_41 cd_41 ct_41),sl_41⟩)
  (c_41 : PySem.W.codeIn K cd_41 "right_paper" = true)
  (k_41 : PySem.W.keepIn K (.ref f_41) = true)
  (a_5 : PySem.W.nsIn K mainGlobals "_law_cell_at" = some (some (.ref f_5)))
  (l_5 : K.lookup f_5 = some ⟨oc_5,od_5,.func (PySem.W.fnOf "_law_cell_at" "_law_cell_at" (zbe s_5) (za9 s_5) (zao s_5) .none kV_5 dc_5 pm_5 an_5 cd_5 ct_5),sl_5⟩)
  (c_5 : PySem.W.codeIn K cd_5 "_law_cell_at" = true)
  (k_5 : PySem.W.keepIn K (.ref f_5) = true)
  (a_0 : PySem.W.nsIn K mainGlobals "_law_mixed" = some (some (.ref f_0)))
  (l_0 : K.lookup f_0 = some ⟨oc_0,od_0,.func (PySem.W.fnOf "_law_mixed" "_law_mixed" (zbe s_0) (za9 s_0) (zao s_0) .none kV_0 dc_0 pm_0 an_0 cd_0 ct_0),sl_0⟩)
  (c_0 : PySem.W.codeIn K cd_0 "_law_mixed" = true)
  (k_0 : PySem.W.keepIn K (.ref f_0) = true)
  (a_42 : PySem.W.nsIn K mainGlobals "_law_worth" = some (some (.ref f_42)))
  (l_42 : K.lookup f_42 = some ⟨oc_42,od_42,.func (PySem.W.fnOf "_law_worth" "_law_worth" (zbe zks) (za9 zks) (zao zks) .none kV_42 dc_42 pm_42 an_42 cd_42 ct_42),sl_42⟩)
  (c_42 : PySem.W.codeIn K cd_42 "_law_worth" = true)
  (k_42 : PySem.W.keepIn K (.ref f_42) = true)
  (a_34 : PySem.W.nsIn K mainGlobals "_law_part" = some (some (.ref f_34)))
  (l_34 : K.lookup f_34 = some ⟨oc_34,od_34,.func (PySem.W.fnOf "_law_part" "_law_part" (zbe zj4) (za9 zj4) (zao zj4) .none kV_34 dc_34 pm_34 an_34 cd_34 ct_34),sl_34⟩)
  (c_34 : PySem.W.codeIn K cd_34 "_law_part" = true)
  (k_34 : PySem.W.keepIn K (.ref f_34) = true)
  (a_43 : PySem.W.nsIn K mainGlobals "_law_rule" = some (some (.ref f_43)))
  (l_43 : K.lookup f_43 = some ⟨oc_43,od_43,.func (PySem.W.fnOf "_law_rule" "_law_rule" (zbe zj7) (za9 zj7) (zao zj7) .none kV_43 dc_43 pm_43 an_43 cd_43 ct_43),sl_43⟩)
  (c_43 : PySem.W.codeIn K cd_43 "_law_rule" = true)
  (k_43 : PySem.W.keepIn K (.ref f_43) = true)
  (a_21 : PySem.W.nsIn K mainGlobals "_law_ring" = some (some (.ref f_21)))
  (l_21 : K.lookup f_21 = some ⟨oc_21,od_21,.func (PySem.W.fnOf "_law_ring" "_law_ring" (zbe zkl) (za9 zkl) (zao zkl) .none kV_21 dc_21 pm_21 an_21 cd_21 ct_21),sl_21⟩)
  (c_21 : PySem.W.codeIn K cd_21 "_law_ring" = true)
  (k_21 : PySem.W.keepIn K (.ref f_21) = true)
  (a_9 : PySem.W.nsIn K mainGlobals "_law_copy" = some (some (.ref f_9)))
  (l_9 : K.lookup f_9 = some ⟨oc_9,od_9,.func (PySem.W.fnOf "_law_copy" "_law_copy" (zbe s_9) (za9 s_9) (zao s_9) .none kV_9 dc_9 pm_9 an_9 cd_9 ct_9),sl_9⟩)
  (c_9 : PySem.W.codeIn K cd_9 "_law_copy" = true)
  (k_9 : PySem.W.keepIn K (.ref f_9) = true)
  (a_49 : PySem.W.nsIn K mainGlobals "_law_part_sure" = some (some (.ref f_49)))
  (l_49 : K.lookup f_49 = some ⟨oc_49,od_49,.func (PySem.W.fnOf "_law_part_sure" "_law_part_sure" (zbe zkw) (za9 zkw) (zao zkw) .none kV_49 dc_49 pm_49 an_49 cd_49 ct_49),sl_49⟩)
  (c_49 : PySem.W.codeIn K cd_49 "_law_part_sure" = true)
  (k_49 : PySem.W.keepIn K (.ref f_49) = true)
  (a_6 : PySem.W.nsIn K mainGlobals "_law_broken" = some (some (.ref f_6)))
  (l_6 : K.lookup f_6 = some ⟨oc_6,od_6,.func (PySem.W.fnOf "_law_broken" "_law_broken" (zbe s_6) (za9 s_6) (zao s_6) .none kV_6 dc_6 pm_6 an_6 cd_6 ct_6),sl_6⟩)
  (c_6 : PySem.W.codeIn K cd_6 "_law_broken" = true)
  (k_6 : PySem.W.keepIn K (.ref f_6) = true)
  (a_50 : PySem.W.nsIn K mainGlobals "_law_part_lost" = some (some (.ref f_50)))
  (l_50 : K.lookup f_50 = some ⟨oc_50,od_50,.func (PySem.W.fnOf "_law_part_lost" "_law_part_lost" (zbe zko) (za9 zko) (zao zko) .none kV_50 dc_50 pm_50 an_50 cd_50 ct_50),sl_50⟩)
  (c_50 : PySem.W.codeIn K cd_50 "_law_part_lost" = true)
  (k_50 : PySem.W.keepIn K (.ref f_50) = true)
  (a_22 : PySem.W.nsIn K mainGlobals "_law_holds_up" = some (some (.ref f_22)))
  (l_22 : K.lookup f_22 = some ⟨oc_22,od_22,.func (PySem.W.fnOf "_law_holds_up" "_law_holds_up" (zbe zjv) (za9 zjv) (zao zjv) .none kV_22 dc_22 pm_22 an_22 cd_22 ct_22),sl_22⟩)
  (c_22 : PySem.W.codeIn K cd_22 "_law_holds_up" = true)
  (k_22 : PySem.W.keepIn K (.ref f_22) = true)
  (a_14 : PySem.W.nsIn K mainGlobals "_law_loose" = some (some (.ref f_14)))
  (l_14 : K.lookup f_14 = some ⟨oc_14,od_14,.func (PySem.W.fnOf "_law_loose" "_law_loose" (zbe zja) (za9 zja) (zao zja) .none kV_14 dc_14 pm_14 an_14 cd_14 ct_14),sl_14⟩)
  (c_14 : PySem.W.codeIn K cd_14 "_law_loose" = true)
  (k_14 : PySem.W.keepIn K (.ref f_14) = true)
  (a_35 : PySem.W.nsIn K mainGlobals "_law_fits" = some (some (.ref f_35)))
  (l_35 : K.lookup f_35 = some ⟨oc_35,od_35,.func (PySem.W.fnOf "_law_fits" "_law_fits" (zbe zkm) (za9 zkm) (zao zkm) .none kV_35 dc_35 pm_35 an_35 cd_35 ct_35),sl_35⟩)
  (c_35 : PySem.W.codeIn K cd_35 "_law_fits" = true)
  (k_35 : PySem.W.keepIn K (.ref f_35) = true)
  (a_3 : PySem.W.nsIn K mainGlobals "_law_right" = some (some (.ref f_3)))
  (l_3 : K.lookup f_3 = some ⟨oc_3,od_3,.func (PySem.W.fnOf "_law_right" "_law_right" (zbe s_3) (za9 s_3) (zao s_3) .none kV_3 dc_3 pm_3 an_3 cd_3 ct_3),sl_3⟩)
  (c_3 : PySem.W.codeIn K cd_3 "_law_right" = true)
  (k_3 : PySem.W.keepIn K (.ref f_3) = true)
  (a_7 : PySem.W.nsIn K mainGlobals "_law_with" = some (some (.ref f_7)))
  (l_7 : K.lookup f_7 = some ⟨oc_7,od_7,.func (PySem.W.fnOf "_law_with" "_law_with" (zbe s_7) (za9 s_7) (zao s_7) .none kV_7 dc_7 pm_7 an_7 cd_7 ct_7),sl_7⟩)
  (c_7 : PySem.W.codeIn K cd_7 "_law_with" = true)
  (k_7 : PySem.W.keepIn K (.ref f_7) = true)
  (a_23 : PySem.W.nsIn K mainGlobals "_law_whys" = some (some (.ref f_23)))
  (l_23 : K.lookup f_23 = some ⟨oc_23,od_23,.func (PySem.W.fnOf "_law_whys" "_law_whys" (zbe zkz) (za9 zkz) (zao zkz) .none kV_23 dc_23 pm_23 an_23 cd_23 ct_23),sl_23⟩)
  (c_23 : PySem.W.codeIn K cd_23 "_law_whys" = true)
  (k_23 : PySem.W.keepIn K (.ref f_23) = true)
  (a_10 : PySem.W.nsIn K mainGlobals "_law_lie" = some (some (.ref f_10)))
  (l_10 : K.lookup f_10 = some ⟨oc_10,od_10,.func (PySem.W.fnOf "_law_lie" "_law_lie" (zbe zjb) (za9 zjb) (zao zjb) .none kV_10 dc_10 pm_10 an_10 cd_10 ct_10),sl_10⟩)
  (c_10 : PySem.W.codeIn K cd_10 "_law_lie" = true)
  (k_10 : PySem.W.keepIn K (.ref f_10) = true)
  (a_1 : PySem.W.nsIn K mainGlobals "_law_bar_out" = some (some (.ref f_1)))
  (l_1 : K.lookup f_1 = some ⟨oc_1,od_1,.func (PySem.W.fnOf "_law_bar_out" "_law_bar_out" (zbe s_1) (za9 s_1) (zao s_1) .none kV_1 dc_1 pm_1 an_1 cd_1 ct_1),sl_1⟩)
  (c_1 : PySem.W.codeIn K cd_1 "_law_bar_out" = true)
  (k_1 : PySem.W.keepIn K (.ref f_1) = true)
  (a_57 : PySem.W.nsIn K mainGlobals "_law_holds" = some (some (.ref f_57)))
  (l_57 : K.lookup f_57 = some ⟨oc_57,od_57,.func (PySem.W.fnOf "_law_holds" "_law_holds" (zbe zjw) (za9 zjw) (zao zjw) .none kV_57 dc_57 pm_57 an_57 cd_57 ct_57),sl_57⟩)
  (c_57 : PySem.W.codeIn K cd_57 "_law_holds" = true)
  (k_57 : PySem.W.keepIn K (.ref f_57) = true)
  (a_11 : PySem.W.nsIn K mainGlobals "_law_stands" = some (some (.ref f_11)))
  (l_11 : K.lookup f_11 = some ⟨oc_11,od_11,.func (PySem.W.fnOf "_law_stands" "_law_stands" (zbe zjr) (za9 zjr) (zao zjr) .none kV_11 dc_11 pm_11 an_11 cd_11 ct_11),sl_11⟩)
  (c_11 : PySem.W.codeIn K cd_11 "_law_stands" = true)
  (k_11 : PySem.W.keepIn K (.ref f_11) = true)
  (a_36 : PySem.W.nsIn K mainGlobals "_law_standing" = some (some (.ref f_36)))
  (l_36 : K.lookup f_36 = some ⟨oc_36,od_36,.func (PySem.W.fnOf "_law_standing" "_law_standing" (zbe zjc) (za9 zjc) (zao zjc) .none kV_36 dc_36 pm_36 an_36 cd_36 ct_36),sl_36⟩)
  (c_36 : PySem.W.codeIn K cd_36 "_law_standing" = true)
  (k_36 : PySem.W.keepIn K (.ref f_36) = true)
  (a_37 : PySem.W.nsIn K mainGlobals "_law_again" = some (some (.ref f_37)))
  (l_37 : K.lookup f_37 = some ⟨oc_37,od_37,.func (PySem.W.fnOf "_law_again" "_law_again" (zbe ziz) (za9 ziz) (zao ziz) .none kV_37 dc_37 pm_37 an_37 cd_37 ct_37),sl_37⟩)
  (c_37 : PySem.W.codeIn K cd_37 "_law_again" = true)
  (k_37 : PySem.W.keepIn K (.ref f_37) = true)
  (a_24 : PySem.W.nsIn K mainGlobals "_law_begun" = some (some (.ref f_24)))
  (l_24 : K.lookup f_24 = some ⟨oc_24,od_24,.func (PySem.W.fnOf "_law_begun" "_law_begun" (zbe zj3) (za9 zj3) (zao zj3) .none kV_24 dc_24 pm_24 an_24 cd_24 ct_24),sl_24⟩)
  (c_24 : PySem.W.codeIn K cd_24 "_law_begun" = true)
  (k_24 : PySem.W.keepIn K (.ref f_24) = true)
  (a_25 : PySem.W.nsIn K mainGlobals "_law_line_right" = some (some (.ref f_25)))
  (l_25 : K.lookup f_25 = some ⟨oc_25,od_25,.func (PySem.W.fnOf "_law_line_right" "_law_line_right" (zbe zji) (za9 zji) (zao zji) .none kV_25 dc_25 pm_25 an_25 cd_25 ct_25),sl_25⟩)
  (c_25 : PySem.W.codeIn K cd_25 "_law_line_right" = true)
  (k_25 : PySem.W.keepIn K (.ref f_25) = true)
  (a_38 : PySem.W.nsIn K mainGlobals "_law_paper_right" = some (some (.ref f_38)))
  (l_38 : K.lookup f_38 = some ⟨oc_38,od_38,.func (PySem.W.fnOf "_law_paper_right" "_law_paper_right" (zbe zj9) (za9 zj9) (zao zj9) .none kV_38 dc_38 pm_38 an_38 cd_38 ct_38),sl_38⟩)
  (c_38 : PySem.W.codeIn K cd_38 "_law_paper_right" = true)
  (k_38 : PySem.W.keepIn K (.ref f_38) = true)
  (a_12 : PySem.W.nsIn K mainGlobals "_law_other_line" = some (some (.ref f_12)))
  (l_12 : K.lookup f_12 = some ⟨oc_12,od_12,.func (PySem.W.fnOf "_law_other_line" "_law_other_line" (zbe zk1) (za9 zk1) (zao zk1) .none kV_12 dc_12 pm_12 an_12 cd_12 ct_12),sl_12⟩)
  (c_12 : PySem.W.codeIn K cd_12 "_law_other_line" = true)
  (k_12 : PySem.W.keepIn K (.ref f_12) = true)
  (a_15 : PySem.W.nsIn K mainGlobals "_law_spoiled" = some (some (.ref f_15)))
  (l_15 : K.lookup f_15 = some ⟨oc_15,od_15,.func (PySem.W.fnOf "_law_spoiled" "_law_spoiled" (zbe zj0) (za9 zj0) (zao zj0) .none kV_15 dc_15 pm_15 an_15 cd_15 ct_15),sl_15⟩)
  (c_15 : PySem.W.codeIn K cd_15 "_law_spoiled" = true)
  (k_15 : PySem.W.keepIn K (.ref f_15) = true)
  (a_39 : PySem.W.nsIn K mainGlobals "_law_asked" = some (some (.ref f_39)))
  (l_39 : K.lookup f_39 = some ⟨oc_39,od_39,.func (PySem.W.fnOf "_law_asked" "_law_asked" (zbe zjm) (za9 zjm) (zao zjm) .none kV_39 dc_39 pm_39 an_39 cd_39 ct_39),sl_39⟩)
  (c_39 : PySem.W.codeIn K cd_39 "_law_asked" = true)
  (k_39 : PySem.W.keepIn K (.ref f_39) = true)
  (a_2 : PySem.W.nsIn K mainGlobals "law" = some (some (.ref f_2)))
  (l_2 : K.lookup f_2 = some ⟨oc_2,od_2,.func (PySem.W.fnOf "law" "law" (zbe s_2) (za9 s_2) (zao s_2) .none kV_2 dc_2 pm_2 an_2 cd_2 ct_2),sl_2⟩)
  (c_2 : PySem.W.codeIn K cd_2 "law" = true)
  (k_2 : PySem.W.keepIn K (.ref f_2) = true)
  (a_58 : PySem.W.findIn K (.ref C_In) "__init__" = some (some (.ref f_58)))
  (i_58 : PySem.W.isFn K (.ref f_58) = true)
  (l_58 : K.lookup f_58 = some ⟨oc_58,od_58,.func (PySem.W.fnOf "__init__" "In.__init__" (zbe zi5) (za9 zi5) (zao zi5) .none kV_58 dc_58 pm_58 an_58 cd_58 ct_58),sl_58⟩)
  (c_58 : PySem.W.codeIn K cd_58 "In.__init__" = true)
  (k_58 : PySem.W.keepIn K (.ref f_58) = true)
  (a_26 : PySem.W.findIn K (.ref C_In) "sure" = some (some (.ref f_26)))
  (i_26 : PySem.W.isFn K (.ref f_26) = true)
  (l_26 : K.lookup f_26 = some ⟨oc_26,od_26,.func (PySem.W.fnOf "sure" "In.sure" (zbe zjf) (za9 zjf) (zao zjf) .none kV_26 dc_26 pm_26 an_26 cd_26 ct_26),sl_26⟩)
  (c_26 : PySem.W.codeIn K cd_26 "In.sure" = true)
  (k_26 : PySem.W.keepIn K (.ref f_26) = true)
  (a_16 : PySem.W.findIn K (.ref C_In) "lost" = some (some (.ref f_16)))
  (i_16 : PySem.W.isFn K (.ref f_16) = true)
  (l_16 : K.lookup f_16 = some ⟨oc_16,od_16,.func (PySem.W.fnOf "lost" "In.lost" (zbe zkn) (za9 zkn) (zao zkn) .none kV_16 dc_16 pm_16 an_16 cd_16 ct_16),sl_16⟩)
  (c_16 : PySem.W.codeIn K cd_16 "In.lost" = true)
  (k_16 : PySem.W.keepIn K (.ref f_16) = true)
  (a_59 : PySem.W.findIn K (.ref C_Out) "__init__" = some (some (.ref f_59)))
  (i_59 : PySem.W.isFn K (.ref f_59) = true)
  (l_59 : K.lookup f_59 = some ⟨oc_59,od_59,.func (PySem.W.fnOf "__init__" "Out.__init__" (zbe zjj) (za9 zjj) (zao zjj) .none kV_59 dc_59 pm_59 an_59 cd_59 ct_59),sl_59⟩)
  (c_59 : PySem.W.codeIn K cd_59 "Out.__init__" = true)
  (k_59 : PySem.W.keepIn K (.ref f_59) = true)
  (a_27 : PySem.W.findIn K (.ref C_Out) "sure" = some (some (.ref f_27)))
  (i_27 : PySem.W.isFn K (.ref f_27) = true)
  (l_27 : K.lookup f_27 = some ⟨oc_27,od_27,.func (PySem.W.fnOf "sure" "Out.sure" (zbe zkt) (za9 zkt) (zao zkt) .none kV_27 dc_27 pm_27 an_27 cd_27 ct_27),sl_27⟩)
  (c_27 : PySem.W.codeIn K cd_27 "Out.sure" = true)
  (k_27 : PySem.W.keepIn K (.ref f_27) = true)
  (a_17 : PySem.W.findIn K (.ref C_Out) "lost" = some (some (.ref f_17)))
  (i_17 : PySem.W.isFn K (.ref f_17) = true)
  (l_17 : K.lookup f_17 = some ⟨oc_17,od_17,.func (PySem.W.fnOf "lost" "Out.lost" (zbe zjq) (za9 zjq) (zao zjq) .none kV_17 dc_17 pm_17 an_17 cd_17 ct_17),sl_17⟩)
  (c_17 : PySem.W.codeIn K cd_17 "Out.lost" = true)
  (k_17 : PySem.W.keepIn K (.ref f_17) = true)
  (a_60 : PySem.W.findIn K (.ref C_Least) "__init__" = some (some (.ref f_60)))
  (i_60 : PySem.W.isFn K (.ref f_60) = true)
  (l_60 : K.lookup f_60 = some ⟨oc_60,od_60,.func (PySem.W.fnOf "__init__" "Least.__init__" (zbe zi2) (za9 zi2) (zao zi2) .none kV_60 dc_60 pm_60 an_60 cd_60 ct_60),sl_60⟩)
  (c_60 : PySem.W.codeIn K cd_60 "Least.__init__" = true)
  (k_60 : PySem.W.keepIn K (.ref f_60) = true)
  (a_28 : PySem.W.findIn K (.ref C_Least) "sure" = some (some (.ref f_28)))
  (i_28 : PySem.W.isFn K (.ref f_28) = true)
  (l_28 : K.lookup f_28 = some ⟨oc_28,od_28,.func (PySem.W.fnOf "sure" "Least.sure" (zbe zk6) (za9 zk6) (zao zk6) .none kV_28 dc_28 pm_28 an_28 cd_28 ct_28),sl_28⟩)
  (c_28 : PySem.W.codeIn K cd_28 "Least.sure" = true)
  (k_28 : PySem.W.keepIn K (.ref f_28) = true)
  (a_18 : PySem.W.findIn K (.ref C_Least) "lost" = some (some (.ref f_18)))
  (i_18 : PySem.W.isFn K (.ref f_18) = true)
  (l_18 : K.lookup f_18 = some ⟨oc_18,od_18,.func (PySem.W.fnOf "lost" "Least.lost" (zbe zk9) (za9 zk9) (zao zk9) .none kV_18 dc_18 pm_18 an_18 cd_18 ct_18),sl_18⟩)
  (c_18 : PySem.W.codeIn K cd_18 "Least.lost" = true)
  (k_18 : PySem.W.keepIn K (.ref f_18) = true)
  (a_61 : PySem.W.findIn K (.ref C_Most) "__init__" = some (some (.ref f_61)))
  (i_61 : PySem.W.isFn K (.ref f_61) = true)
  (l_61 : K.lookup f_61 = some ⟨oc_61,od_61,.func (PySem.W.fnOf "__init__" "Most.__init__" (zbe zkv) (za9 zkv) (zao zkv) .none kV_61 dc_61 pm_61 an_61 cd_61 ct_61),sl_61⟩)
  (c_61 : PySem.W.codeIn K cd_61 "Most.__init__" = true)
  (k_61 : PySem.W.keepIn K (.ref f_61) = true)
  (a_29 : PySem.W.findIn K (.ref C_Most) "sure" = some (some (.ref f_29)))
  (i_29 : PySem.W.isFn K (.ref f_29) = true)
  (l_29 : K.lookup f_29 = some ⟨oc_29,od_29,.func (PySem.W.fnOf "sure" "Most.sure" (zbe zkk) (za9 zkk) (zao zkk) .none kV_29 dc_29 pm_29 an_29 cd_29 ct_29),sl_29⟩)
  (c_29 : PySem.W.codeIn K cd_29 "Most.sure" = true)
  (k_29 : PySem.W.keepIn K (.ref f_29) = true)
  (a_19 : PySem.W.findIn K (.ref C_Most) "lost" = some (some (.ref f_19)))
  (i_19 : PySem.W.isFn K (.ref f_19) = true)
  (l_19 : K.lookup f_19 = some ⟨oc_19,od_19,.func (PySem.W.fnOf "lost" "Most.lost" (zbe zk4) (za9 zk4) (zao zk4) .none kV_19 dc_19 pm_19 an_19 cd_19 ct_19),sl_19⟩)
  (c_19 : PySem.W.codeIn K cd_19 "Most.lost" = true)
  (k_19 : PySem.W.keepIn K (.ref f_19) = true)
  (pg_In : PySem.W.plainGet K C_In Str.empty = true)
  (hd_In : PySem.W.hasDictIn K C_In = true)
  (po_In : PySem.W.plainOver K C_In = true)
  (sa_In : PySem.W.findIn K (.ref C_In) "__setattr__" = some (some (.builtin "object.__setattr__")))
  (mk_In : PySem.W.makesIn K C_In = true)
  (kc_In : PySem.W.keepIn K (.ref C_In) = true)
  (na_In_thing : PySem.W.findIn K (.ref C_In) "thing" = some none)
  (pg_Out : PySem.W.plainGet K C_Out Str.empty = true)
  (hd_Out : PySem.W.hasDictIn K C_Out = true)
  (po_Out : PySem.W.plainOver K C_Out = true)
  (sa_Out : PySem.W.findIn K (.ref C_Out) "__setattr__" = some (some (.builtin "object.__setattr__")))
  (mk_Out : PySem.W.makesIn K C_Out = true)
  (kc_Out : PySem.W.keepIn K (.ref C_Out) = true)
  (na_Out_thing : PySem.W.findIn K (.ref C_Out) "thing" = some none)
  (pg_Least : PySem.W.plainGet K C_Least Str.empty = true)
  (hd_Least : PySem.W.hasDictIn K C_Least = true)
  (po_Least : PySem.W.plainOver K C_Least = true)
  (sa_Least : PySem.W.findIn K (.ref C_Least) "__setattr__" = some (some (.builtin "object.__setattr__")))
  (mk_Least : PySem.W.makesIn K C_Least = true)
  (kc_Least : PySem.W.keepIn K (.ref C_Least) = true)
  (na_Least_bound : PySem.W.findIn K (.ref C_Least) "bound" = some none)
  (na_Least_pieces : PySem.W.findIn K (.ref C_Least) "pieces" = some none)
  (pg_Most : PySem.W.plainGet K C_Most Str.empty = true)
  (hd_Most : PySem.W.hasDictIn K C_Most = true)
  (po_Most : PySem.W.plainOver K C_Most = true)
  (sa_Most : PySem.W.findIn K (.ref C_Most) "__setattr__" = some (some (.builtin "object.__setattr__")))
  (mk_Most : PySem.W.makesIn K C_Most = true)
  (kc_Most : PySem.W.keepIn K (.ref C_Most) = true)
  (na_Most_bound : PySem.W.findIn K (.ref C_Most) "bound" = some none)
  (na_Most_pieces : PySem.W.findIn K (.ref C_Most) "pieces" = some none)
  (kt_NoneType_bool : PySem.W.kitOne K (.type "NoneType") (.type "bool") = some false)
  (kt_bool_bool : PySem.W.kitOne K (.type "bool") (.type "bool") = some true)
  (kt_int_bool : PySem.W.kitOne K (.type "int") (.type "bool") = some false)
  (kt_str_bool : PySem.W.kitOne K (.type "str") (.type "bool") = some false)
  (kt_list_bool : PySem.W.kitOne K (.type "list") (.type "bool") = some false)
  (kt_tuple_bool : PySem.W.kitOne K (.type "tuple") (.type "bool") = some false)
  (kt_dict_bool : PySem.W.kitOne K (.type "dict") (.type "bool") = some false)
  (z_all : PySem.W.nsIn K mainGlobals "all" = some none)
  (z_any : PySem.W.nsIn K mainGlobals "any" = some none)
  (z_bool : PySem.W.nsIn K mainGlobals "bool" = some none)
  (z_enumerate : PySem.W.nsIn K mainGlobals "enumerate" = some none)
  (z_isinstance : PySem.W.nsIn K mainGlobals "isinstance" = some none)
  (z_len : PySem.W.nsIn K mainGlobals "len" = some none)
  (z_list : PySem.W.nsIn K mainGlobals "list" = some none)
  (z_range : PySem.W.nsIn K mainGlobals "range" = some none)
  (z_set : PySem.W.nsIn K mainGlobals "set" = some none)
  (z_sorted : PySem.W.nsIn K mainGlobals "sorted" = some none)
  (z_sum : PySem.W.nsIn K mainGlobals "sum" = some none)
  : ∃ fd : FuncData,(∀ (s : Shared) (v : Value),BindsTo s fd ⟨[v],[]⟩ [("_law_script",v)]) /\ ∃ a : Wa,∃ W : Wd K mg a,a.f_2 = fa /\ a.fd_2 = fd:=by
 have e:=hfa.symm.trans (PySem.W.mg_of X G a_2)
 cases e
 have F_8:=zbn (st:=s_8) l_8 c_8 k_8
 have F_48:=zbn (st:=zk8) l_48 c_48 k_48
 have F_30:=zbn (st:=zkd) l_30 c_30 k_30
 have F_20:=zbn (st:=zjg) l_20 c_20 k_20
 have F_51:=zbn (st:=zkg) l_51 c_51 k_51
 have F_31:=zbn (st:=zkj) l_31 c_31 k_31
 have F_52:=zbn (st:=zjz) l_52 c_52 k_52
 have F_53:=zbn (st:=zka) l_53 c_53 k_53
 have F_54:=zbn (st:=zj6) l_54 c_54 k_54
 have F_44:=zbn (st:=zku) l_44 c_44 k_44
 have F_45:=zbn (st:=zkb) l_45 c_45 k_45
 have F_55:=zbn (st:=zk7) l_55 c_55 k_55
 have F_13:=zbn (st:=zkx) l_13 c_13 k_13
 have F_4:=zbn (st:=s_4) l_4 c_4 k_4
 have F_46:=zbn (st:=zkr) l_46 c_46 k_46
 have F_56:=zbn (st:=zjt) l_56 c_56 k_56
 have F_47:=zbn (st:=zjo) l_47 c_47 k_47
 have F_40:=zbn (st:=zjk) l_40 c_40 k_40
 have F_32:=zbn (st:=zj5) l_32 c_32 k_32
 have F_33:=zbn (st:=zkf) l_33 c_33 k_33
 have F_41:=zbn (st:=ziy) l_41 c_41 k_41
 have F_5:=zbn (st:=s_5) l_5 c_5 k_5
 have F_0:=zbn (st:=s_0) l_0 c_0 k_0
 have F_42:=zbn (st:=zks) l_42 c_42 k_42
 have F_34:=zbn (st:=zj4) l_34 c_34 k_34
 have F_43:=zbn (st:=zj7) l_43 c_43 k_43
 have F_21:=zbn (st:=zkl) l_21 c_21 k_21
 have F_9:=zbn (st:=s_9) l_9 c_9 k_9
 have F_49:=zbn (st:=zkw) l_49 c_49 k_49
 have F_6:=zbn (st:=s_6) l_6 c_6 k_6
 have F_50:=zbn (st:=zko) l_50 c_50 k_50
 have F_22:=zbn (st:=zjv) l_22 c_22 k_22
 have F_14:=zbn (st:=zja) l_14 c_14 k_14
 have F_35:=zbn (st:=zkm) l_35 c_35 k_35
 have F_3:=zbn (st:=s_3) l_3 c_3 k_3
 have F_7:=zbn (st:=s_7) l_7 c_7 k_7
 have F_23:=zbn (st:=zkz) l_23 c_23 k_23
 have F_10:=zbn (st:=zjb) l_10 c_10 k_10
 have F_1:=zbn (st:=s_1) l_1 c_1 k_1
 have F_57:=zbn (st:=zjw) l_57 c_57 k_57
 have F_11:=zbn (st:=zjr) l_11 c_11 k_11
 have F_36:=zbn (st:=zjc) l_36 c_36 k_36
 have F_37:=zbn (st:=ziz) l_37 c_37 k_37
 have F_24:=zbn (st:=zj3) l_24 c_24 k_24
 have F_25:=zbn (st:=zji) l_25 c_25 k_25
 have F_38:=zbn (st:=zj9) l_38 c_38 k_38
 have F_12:=zbn (st:=zk1) l_12 c_12 k_12
 have F_15:=zbn (st:=zj0) l_15 c_15 k_15
 have F_39:=zbn (st:=zjm) l_39 c_39 k_39
 have F_2:=zbn (st:=s_2) l_2 c_2 k_2
 have F_58:=zbn (st:=zi5) l_58 c_58 k_58
 have F_26:=zbn (st:=zjf) l_26 c_26 k_26
 have F_16:=zbn (st:=zkn) l_16 c_16 k_16
 have F_59:=zbn (st:=zjj) l_59 c_59 k_59
 have F_27:=zbn (st:=zkt) l_27 c_27 k_27
 have F_17:=zbn (st:=zjq) l_17 c_17 k_17
 have F_60:=zbn (st:=zi2) l_60 c_60 k_60
 have F_28:=zbn (st:=zk6) l_28 c_28 k_28
 have F_18:=zbn (st:=zk9) l_18 c_18 k_18
 have F_61:=zbn (st:=zkv) l_61 c_61 k_61
 have F_29:=zbn (st:=zkk) l_29 c_29 k_29
 have F_19:=zbn (st:=zk4) l_19 c_19 k_19
 exact ⟨PySem.W.fnOf "law" "law" (zbe s_2) (za9 s_2) (zao s_2) .none kV_2 dc_2 pm_2 an_2 cd_2 ct_2,fun s v=>.of_eq rfl,{
  f_8:=f_8,
  fd_8:=_,
  f_48:=f_48,
  fd_48:=_,
  f_30:=f_30,
  fd_30:=_,
  f_20:=f_20,
  fd_20:=_,
  f_51:=f_51,
  fd_51:=_,
  f_31:=f_31,
  fd_31:=_,
  f_52:=f_52,
  fd_52:=_,
  f_53:=f_53,
  fd_53:=_,
  f_54:=f_54,
  fd_54:=_,
  f_44:=f_44,
  fd_44:=_,
  f_45:=f_45,
  fd_45:=_,
  f_55:=f_55,
  fd_55:=_,
  f_13:=f_13,
  fd_13:=_,
  f_4:=f_4,
  fd_4:=_,
  f_46:=f_46,
  fd_46:=_,
  f_56:=f_56,
  fd_56:=_,
  f_47:=f_47,
  fd_47:=_,
  f_40:=f_40,
  fd_40:=_,
  f_32:=f_32,
  fd_32:=_,
  f_33:=f_33,
  fd_33:=_,
  f_41:=f_41,
  fd_41:=_,
  f_5:=f_5,
  fd_5:=_,
  f_0:=f_0,
  fd_0:=_,
  f_42:=f_42,
  fd_42:=_,
  f_34:=f_34,
  fd_34:=_,
  f_43:=f_43,
  fd_43:=_,
  f_21:=f_21,
  fd_21:=_,
  f_9:=f_9,
  fd_9:=_,
  f_49:=f_49,
  fd_49:=_,
  f_6:=f_6,
  fd_6:=_,
  f_50:=f_50,
  fd_50:=_,
  f_22:=f_22,
  fd_22:=_,
  f_14:=f_14,
  fd_14:=_,
  f_35:=f_35,
  fd_35:=_,
  f_3:=f_3,
  fd_3:=_,
  f_7:=f_7,
  fd_7:=_,
  f_23:=f_23,
  fd_23:=_,
  f_10:=f_10,
  fd_10:=_,
  f_1:=f_1,
  fd_1:=_,
  f_57:=f_57,
  fd_57:=_,
  f_11:=f_11,
  fd_11:=_,
  f_36:=f_36,
  fd_36:=_,
  f_37:=f_37,
  fd_37:=_,
  f_24:=f_24,
  fd_24:=_,
  f_25:=f_25,
  fd_25:=_,
  f_38:=f_38,
  fd_38:=_,
  f_12:=f_12,
  fd_12:=_,
  f_15:=f_15,
  fd_15:=_,
  f_39:=f_39,
  fd_39:=_,
  f_2:=f_2,
  fd_2:=_,
  f_58:=f_58,
  fd_58:=_,
  f_26:=f_26,
  fd_26:=_,
  f_16:=f_16,
  fd_16:=_,
  f_59:=f_59,
  fd_59:=_,
  f_27:=f_27,
  fd_27:=_,
  f_17:=f_17,
  fd_17:=_,
  f_60:=f_60,
  fd_60:=_,
  f_28:=f_28,
  fd_28:=_,
  f_18:=f_18,
  fd_18:=_,
  f_61:=f_61,
  fd_61:=_,
  f_29:=f_29,
  fd_29:=_,
  f_19:=f_19,
  fd_19:=_,
  C_In:=C_In,
  C_Out:=C_Out,
  C_Least:=C_Least,
  C_Most:=C_Most },{
  F_8:=F_8,
  b_8:=F_8.binds fun _ _ _ _ _ _ us hl=>by
   revert us hl
   exact zcv fun _ _=>rfl,
  g_8:=PySem.W.mg_of X G a_8,
  F_48:=F_48,
  b_48:=F_48.binds fun _ _ _ _ _ _ us hl=>by
   revert us hl
   exact zjs fun _=>rfl,
  g_48:=PySem.W.mg_of X G a_48,
  F_30:=F_30,
  b_30:=F_30.binds fun _ _ _ _ _ _ us hl=>by
   revert us hl
   exact zcv fun _ _=>rfl,
  g_30:=PySem.W.mg_of X G a_30,
  F_20:=F_20,
  b_20:=F_20.binds fun _ _ _ _ _ _ us hl=>by
   revert us hl
   exact zcv fun _ _=>rfl,
  g_20:=PySem.W.mg_of X G a_20,
  F_51:=F_51,
  b_51:=F_51.binds fun _ _ _ _ _ _ us hl=>by
   revert us hl
   exact zcv fun _ _=>rfl,
  g_51:=PySem.W.mg_of X G a_51,
  F_31:=F_31,
  b_31:=F_31.binds fun _ _ _ _ _ _ us hl=>by
   revert us hl
   exact zjs fun _=>rfl,
  g_31:=PySem.W.mg_of X G a_31,
  F_52:=F_52,
  b_52:=F_52.binds fun _ _ _ _ _ _ us hl=>by
   revert us hl
   exact zcv fun _ _=>rfl,
  g_52:=PySem.W.mg_of X G a_52,
  F_53:=F_53,
  b_53:=F_53.binds fun _ _ _ _ _ _ us hl=>by
   revert us hl
   exact zeh fun _ _ _=>rfl,
  g_53:=PySem.W.mg_of X G a_53,
  F_54:=F_54,
  b_54:=F_54.binds fun _ _ _ _ _ _ us hl=>by
   revert us hl
   exact zcv fun _ _=>rfl,
  g_54:=PySem.W.mg_of X G a_54,
  F_44:=F_44,
  b_44:=F_44.binds fun _ _ _ _ _ _ us hl=>by
   revert us hl
   exact zeh fun _ _ _=>rfl,
  g_44:=PySem.W.mg_of X G a_44,
  F_45:=F_45,
  b_45:=F_45.binds fun _ _ _ _ _ _ us hl=>by
   revert us hl
   exact zeh fun _ _ _=>rfl,
  g_45:=PySem.W.mg_of X G a_45,
  F_55:=F_55,
  b_55:=F_55.binds fun _ _ _ _ _ _ us hl=>by
   revert us hl
   exact zcv fun _ _=>rfl,
  g_55:=PySem.W.mg_of X G a_55,
  F_13:=F_13,
  b_13:=F_13.binds fun _ _ _ _ _ _ us hl=>by
   revert us hl
   exact zi0 fun _ _ _ _ _=>rfl,
  g_13:=PySem.W.mg_of X G a_13,
  F_4:=F_4,
  b_4:=F_4.binds fun _ _ _ _ _ _ us hl=>by
   revert us hl
   exact zcv fun _ _=>rfl,
  g_4:=PySem.W.mg_of X G a_4,
  F_46:=F_46,
  b_46:=F_46.binds fun _ _ _ _ _ _ us hl=>by
   revert us hl
   exact zeh fun _ _ _=>rfl,
  g_46:=PySem.W.mg_of X G a_46,
  F_56:=F_56,
  b_56:=F_56.binds fun _ _ _ _ _ _ us hl=>by
   revert us hl
   exact zcv fun _ _=>rfl,
  g_56:=PySem.W.mg_of X G a_56,
  F_47:=F_47,
  b_47:=F_47.binds fun _ _ _ _ _ _ us hl=>by
   revert us hl
   exact zi0 fun _ _ _ _ _=>rfl,
  g_47:=PySem.W.mg_of X G a_47,
  F_40:=F_40,
  b_40:=F_40.binds fun _ _ _ _ _ _ us hl=>by
   revert us hl
   exact zlm fun _ _ _ _=>rfl,
  g_40:=PySem.W.mg_of X G a_40,
  F_32:=F_32,
  b_32:=F_32.binds fun _ _ _ _ _ _ us hl=>by
   revert us hl
   exact zcv fun _ _=>rfl,
  g_32:=PySem.W.mg_of X G a_32,
  F_33:=F_33,
  b_33:=F_33.binds fun _ _ _ _ _ _ us hl=>by
   revert us hl
   exact zi0 fun _ _ _ _ _=>rfl,
  g_33:=PySem.W.mg_of X G a_33,
  F_41:=F_41,
  b_41:=F_41.binds fun _ _ _ _ _ _ us hl=>by
   revert us hl
   exact zeh fun _ _ _=>rfl,
  g_41:=PySem.W.mg_of X G a_41,
  F_5:=F_5,
  b_5:=F_5.binds fun _ _ _ _ _ _ us hl=>by
   revert us hl
   exact zcv fun _ _=>rfl,
  g_5:=PySem.W.mg_of X G a_5,
  F_0:=F_0,
  b_0:=F_0.binds fun _ _ _ _ _ _ us hl=>by
   revert us hl
   exact zcv fun _ _=>rfl,
  g_0:=PySem.W.mg_of X G a_0,
  F_42:=F_42,
  b_42:=F_42.binds fun _ _ _ _ _ _ us hl=>by
   revert us hl
   exact zjs fun _=>rfl,
  g_42:=PySem.W.mg_of X G a_42,
  F_34:=F_34,
  b_34:=F_34.binds fun _ _ _ _ _ _ us hl=>by
   revert us hl
   exact zcv fun _ _=>rfl,
  g_34:=PySem.W.mg_of X G a_34,
  F_43:=F_43,
  b_43:=F_43.binds fun _ _ _ _ _ _ us hl=>by
   revert us hl
   exact zeh fun _ _ _=>rfl,
  g_43:=PySem.W.mg_of X G a_43,
  F_21:=F_21,
  b_21:=F_21.binds fun _ _ _ _ _ _ us hl=>by
   revert us hl
   exact zcv fun _ _=>rfl,
  g_21:=PySem.W.mg_of X G a_21,
  F_9:=F_9,
  b_9:=F_9.binds fun _ _ _ _ _ _ us hl=>by
   revert us hl
   exact zjs fun _=>rfl,
  g_9:=PySem.W.mg_of X G a_9,
  F_49:=F_49,
  b_49:=F_49.binds fun _ _ _ _ _ _ us hl=>by
   revert us hl
   exact zcv fun _ _=>rfl,
  g_49:=PySem.W.mg_of X G a_49,
  F_6:=F_6,
  b_6:=F_6.binds fun _ _ _ _ _ _ us hl=>by
   revert us hl
   exact zcv fun _ _=>rfl,
  g_6:=PySem.W.mg_of X G a_6,
  F_50:=F_50,
  b_50:=F_50.binds fun _ _ _ _ _ _ us hl=>by
   revert us hl
   exact zeh fun _ _ _=>rfl,
  g_50:=PySem.W.mg_of X G a_50,
  F_22:=F_22,
  b_22:=F_22.binds fun _ _ _ _ _ _ us hl=>by
   revert us hl
   exact zeh fun _ _ _=>rfl,
  g_22:=PySem.W.mg_of X G a_22,
  F_14:=F_14,
  b_14:=F_14.binds fun _ _ _ _ _ _ us hl=>by
   revert us hl
   exact zcv fun _ _=>rfl,
  g_14:=PySem.W.mg_of X G a_14,
  F_35:=F_35,
  b_35:=F_35.binds fun _ _ _ _ _ _ us hl=>by
   revert us hl
   exact zcv fun _ _=>rfl,
  g_35:=PySem.W.mg_of X G a_35,
  F_3:=F_3,
  b_3:=F_3.binds fun _ _ _ _ _ _ us hl=>by
   revert us hl
   exact zi0 fun _ _ _ _ _=>rfl,
  g_3:=PySem.W.mg_of X G a_3,
  F_7:=F_7,
  b_7:=F_7.binds fun _ _ _ _ _ _ us hl=>by
   revert us hl
   exact zeh fun _ _ _=>rfl,
  g_7:=PySem.W.mg_of X G a_7,
  F_23:=F_23,
  b_23:=F_23.binds fun _ _ _ _ _ _ us hl=>by
   revert us hl
   exact zlm fun _ _ _ _=>rfl,
  g_23:=PySem.W.mg_of X G a_23,
  F_10:=F_10,
  b_10:=F_10.binds fun _ _ _ _ _ _ us hl=>by
   revert us hl
   exact zi0 fun _ _ _ _ _=>rfl,
  g_10:=PySem.W.mg_of X G a_10,
  F_1:=F_1,
  b_1:=F_1.binds fun _ _ _ _ _ _ us hl=>by
   revert us hl
   exact z59 fun _ _ _ _ _ _=>rfl,
  g_1:=PySem.W.mg_of X G a_1,
  F_57:=F_57,
  b_57:=F_57.binds fun _ _ _ _ _ _ us hl=>by
   revert us hl
   exact zeh fun _ _ _=>rfl,
  g_57:=PySem.W.mg_of X G a_57,
  F_11:=F_11,
  b_11:=F_11.binds fun _ _ _ _ _ _ us hl=>by
   revert us hl
   exact zcv fun _ _=>rfl,
  g_11:=PySem.W.mg_of X G a_11,
  F_36:=F_36,
  b_36:=F_36.binds fun _ _ _ _ _ _ us hl=>by
   revert us hl
   exact zcv fun _ _=>rfl,
  g_36:=PySem.W.mg_of X G a_36,
  F_37:=F_37,
  b_37:=F_37.binds fun _ _ _ _ _ _ us hl=>by
   revert us hl
   exact zjs fun _=>rfl,
  g_37:=PySem.W.mg_of X G a_37,
  F_24:=F_24,
  b_24:=F_24.binds fun _ _ _ _ _ _ us hl=>by
   revert us hl
   exact zcv fun _ _=>rfl,
  g_24:=PySem.W.mg_of X G a_24,
  F_25:=F_25,
  b_25:=F_25.binds fun _ _ _ _ _ _ us hl=>by
   revert us hl
   exact zi0 fun _ _ _ _ _=>rfl,
  g_25:=PySem.W.mg_of X G a_25,
  F_38:=F_38,
  b_38:=F_38.binds fun _ _ _ _ _ _ us hl=>by
   revert us hl
   exact zlm fun _ _ _ _=>rfl,
  g_38:=PySem.W.mg_of X G a_38,
  F_12:=F_12,
  b_12:=F_12.binds fun _ _ _ _ _ _ us hl=>by
   revert us hl
   exact zcv fun _ _=>rfl,
  g_12:=PySem.W.mg_of X G a_12,
  F_15:=F_15,
  b_15:=F_15.binds fun _ _ _ _ _ _ us hl=>by
   revert us hl
   exact zlm fun _ _ _ _=>rfl,
  g_15:=PySem.W.mg_of X G a_15,
  F_39:=F_39,
  b_39:=F_39.binds fun _ _ _ _ _ _ us hl=>by
   revert us hl
   exact zlm fun _ _ _ _=>rfl,
  g_39:=PySem.W.mg_of X G a_39,
  F_2:=F_2,
  b_2:=F_2.binds fun _ _ _ _ _ _ us hl=>by
   revert us hl
   exact zjs fun _=>rfl,
  g_2:=PySem.W.mg_of X G a_2,
  F_58:=F_58,
  b_58:=F_58.binds fun _ _ _ _ _ _ us hl=>by
   revert us hl
   exact zcv fun _ _=>rfl,
  F_26:=F_26,
  b_26:=F_26.binds fun _ _ _ _ _ _ us hl=>by
   revert us hl
   exact zcv fun _ _=>rfl,
  F_16:=F_16,
  b_16:=F_16.binds fun _ _ _ _ _ _ us hl=>by
   revert us hl
   exact zeh fun _ _ _=>rfl,
  F_59:=F_59,
  b_59:=F_59.binds fun _ _ _ _ _ _ us hl=>by
   revert us hl
   exact zcv fun _ _=>rfl,
  F_27:=F_27,
  b_27:=F_27.binds fun _ _ _ _ _ _ us hl=>by
   revert us hl
   exact zcv fun _ _=>rfl,
  F_17:=F_17,
  b_17:=F_17.binds fun _ _ _ _ _ _ us hl=>by
   revert us hl
   exact zeh fun _ _ _=>rfl,
  F_60:=F_60,
  b_60:=F_60.binds fun _ _ _ _ _ _ us hl=>by
   revert us hl
   exact zeh fun _ _ _=>rfl,
  F_28:=F_28,
  b_28:=F_28.binds fun _ _ _ _ _ _ us hl=>by
   revert us hl
   exact zcv fun _ _=>rfl,
  F_18:=F_18,
  b_18:=F_18.binds fun _ _ _ _ _ _ us hl=>by
   revert us hl
   exact zeh fun _ _ _=>rfl,
  F_61:=F_61,
  b_61:=F_61.binds fun _ _ _ _ _ _ us hl=>by
   revert us hl
   exact zeh fun _ _ _=>rfl,
  F_29:=F_29,
  b_29:=F_29.binds fun _ _ _ _ _ _ us hl=>by
   revert us hl
   exact zcv fun _ _=>rfl,
  F_19:=F_19,
  b_19:=F_19.binds fun _ _ _ _ _ _ us hl=>by
   revert us hl
   exact zeh fun _ _ _=>rfl,
  g_In:=PySem.W.mg_of X G aC_In,
  cl_In:=⟨pg_In,hd_In,po_In,sa_In⟩,
  mk_In:=⟨mk_In,a_58,i_58,kc_In⟩,
  na_In_thing:=na_In_thing,
  m_26:=⟨a_26,i_26,k_26⟩,
  m_16:=⟨a_16,i_16,k_16⟩,
  g_Out:=PySem.W.mg_of X G aC_Out,
  cl_Out:=⟨pg_Out,hd_Out,po_Out,sa_Out⟩,
  mk_Out:=⟨mk_Out,a_59,i_59,kc_Out⟩,
  na_Out_thing:=na_Out_thing,
  m_27:=⟨a_27,i_27,k_27⟩,
  m_17:=⟨a_17,i_17,k_17⟩,
  g_Least:=PySem.W.mg_of X G aC_Least,
  cl_Least:=⟨pg_Least,hd_Least,po_Least,sa_Least⟩,
  mk_Least:=⟨mk_Least,a_60,i_60,kc_Least⟩,
  na_Least_bound:=na_Least_bound,
  na_Least_pieces:=na_Least_pieces,
  m_28:=⟨a_28,i_28,k_28⟩,
  m_18:=⟨a_18,i_18,k_18⟩,
  g_Most:=PySem.W.mg_of X G aC_Most,
  cl_Most:=⟨pg_Most,hd_Most,po_Most,sa_Most⟩,
  mk_Most:=⟨mk_Most,a_61,i_61,kc_Most⟩,
  na_Most_bound:=na_Most_bound,
  na_Most_pieces:=na_Most_pieces,
  m_29:=⟨a_29,i_29,k_29⟩,
  m_19:=⟨a_19,i_19,k_19⟩,
  kt_NoneType_bool:=kt_NoneType_bool,
  kt_bool_bool:=kt_bool_bool,
  kt_int_bool:=kt_int_bool,
  kt_str_bool:=kt_str_bool,
  kt_list_bool:=kt_list_bool,
  kt_tuple_bool:=kt_tuple_bool,
  kt_dict_bool:=kt_dict_bool,
  z_all:=PySem.W.mg_none_of X G z_all,
  z_any:=PySem.W.mg_none_of X G z_any,
  z_bool:=PySem.W.mg_none_of X G z_bool,
  z_enumerate:=PySem.W.mg_none_of X G z_enumerate,
  z_isinstance:=PySem.W.mg_none_of X G z_isinstance,
  z_len:=PySem.W.mg_none_of X G z_len,
  z_list:=PySem.W.mg_none_of X G z_list,
  z_range:=PySem.W.mg_none_of X G z_range,
  z_set:=PySem.W.mg_none_of X G z_set,
  z_sorted:=PySem.W.mg_none_of X G z_sorted,
  z_sum:=PySem.W.mg_none_of X G z_sum },rfl,rfl⟩
end
end N_k42
theorem PySem.W.Fast.te18437262256937762003 : True:=trivial
theorem PySem.W.Fast.te9174462475327741883 : True:=trivial
theorem PySem.W.Fast.te5759161587270235450 : True:=trivial
theorem PySem.W.Fast.te10224862649711060071 : True:=trivial
theorem PySem.W.Fast.te14142267159753262855 : True:=trivial
theorem PySem.W.Fast.te10121767528541682637 : True:=trivial
theorem PySem.W.Fast.te14387410904086051332 : True:=trivial
theorem PySem.W.Fast.te16359319178137562470 : True:=trivial
theorem PySem.W.Fast.te3062155283589073332 : True:=trivial
theorem PySem.W.Fast.te10833073045457730872 : True:=trivial
open PySem PySem.W PyProof.Rows
set_option maxRecDepth 100000 in
set_option maxHeartbeats 0 in
theorem PySem.Challenge.cw_standstill_k42_a_paper_holds : PySem.Challenge.rw_standstill_k42_a_paper.Holds:=by
 w_on; o_2; k_head; (case hw=>w_witness2)
 k_fill
 refine L2.walk_ofK (l:=PySem.Challenge.rw_standstill_k42_a_paper) (n:=63) (k:=15) (x:="_law_script") (CX:=L2.CX0) (sp:=N_k42.sp_law) rfl (by decide) rfl ⟨rfl,by decide,by decide⟩ (fun w h Y=>PySem.W.kIn_of Y) ?F (fun _ _ a ns hl _ hS=>N_k42.sp_law_of hl hS) (fun _ _ _ _ z=>z)
 case F =>
  intro w mg fa h KX G hmg
  have TT : ∃ fd : FuncData,(∀ (s : Shared) (v : Value),BindsTo s fd ⟨[v],[]⟩ [("_law_script",v)]) /\ ∃ a : N_k42.Wa,∃ W : N_k42.Wd (L2.KOf KX) mg a,a.f_2 = fa /\ a.fd_2 = fd:=by
   dsimp only [L2.KOf]
   refine' N_k42.all_mk (l:=PySem.Challenge.rw_standstill_k42_a_paper) (w:=w) KX G hmg ..
   all_goals first | k_is | kit_is | skip
  obtain ⟨fd,hb,a,W,e1,e2⟩:=TT
  subst e1 e2
  exact ⟨_,hb,fun base kb nb=>N_k42.law_ok W⟩
