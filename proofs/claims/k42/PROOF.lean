import PyProof.Rows.All
import Wide.All
import OpenK.AllK
import Wide.FinOn
import Lean
import PyProof.EqAt
import PyProof.EqKinds
import PyProof.TupleCall
import PyProof.NeKinds
import PySem.Challenge.RW_standstill_k42_a_paper
set_option Elab.async false
set_option genSizeOf false
set_option linter.all false
set_option maxRecDepth 100000
namespace L2
open PySem PySem.Spec PyProof.Rows
noncomputable abbrev Key:=Sum Int Str
noncomputable def zjw : Key -> Value -> Bool
 | .inl k,v=>Value.isInt k v
 | .inr x,v=>Value.isStrOf x v
noncomputable def z4o (w : World) : Key -> Int
 | .inl k=>hashInt k
 | .inr x=>hashStr w x
theorem zg7 : ∀ {k : Key} {v : Value},zjw k v = true -> (∃ i t,k = Sum.inl i /\ v = Value.int i t) \/ (∃ x t,k = Sum.inr x /\ v = Value.str x t)
 | .inl i,v,h=>by
  obtain ⟨t,e⟩:=Value.isInt_shape (k:=i) (v:=v) h
  exact .inl ⟨i,t,rfl,e⟩
 | .inr x,v,h=>by
  obtain ⟨t,e⟩:=Value.isStrOf_shape (x:=x) (v:=v) h
  exact .inr ⟨x,t,rfl,e⟩
theorem zwq (i : Int) (t : Tok) : zjw (.inl i) (.int i t) = true:=by simp [zjw,Value.isInt]
theorem z62 (x : Str) (t : Tok) : zjw (.inr x) (.str x t) = true:=by simp [zjw,Value.isStrOf]
theorem zz0 (a b : Int) : decide ((Sum.inl a : Key) = Sum.inl b) = (a == b):=by
 by_cases e : a = b
 ·subst e; simp
 ·have h : ¬ (Sum.inl a : Key) = Sum.inl b:=fun q=>e (Sum.inl.inj q)
  rw [decide_eq_false h]
  exact (beq_eq_false_iff_ne.mpr e).symm
theorem z7y (a b : Str) : decide ((Sum.inr a : Key) = Sum.inr b) = decide (a = b):=by
 by_cases e : a = b
 ·subst e; simp
 ·have h : ¬ (Sum.inr a : Key) = Sum.inr b:=fun q=>e (Sum.inr.inj q)
  rw [decide_eq_false h,decide_eq_false e]
theorem z1q (a : Int) (b : Str) : decide ((Sum.inl a : Key) = Sum.inr b) = false:=decide_eq_false (fun q=>nomatch q)
theorem z1w (a : Str) (b : Int) : decide ((Sum.inr a : Key) = Sum.inl b) = false:=decide_eq_false (fun q=>nomatch q)
noncomputable def zef (prog : Program) (w : World) : PySem.KeyKind prog w Key where
 is:=zjw
 hash:=z4o w
 inj:=fun v a b ha hb=>by
  rcases zg7 ha with ⟨i,t,rfl,rfl⟩ | ⟨x,t,rfl,rfl⟩
  ·rcases zg7 hb with ⟨j,u,rfl,e⟩ | ⟨y,u,rfl,e⟩
   ·injection e with e1 _; rw [e1]
   ·exact nomatch e
  ·rcases zg7 hb with ⟨j,u,rfl,e⟩ | ⟨y,u,rfl,e⟩
   ·exact nomatch e
   ·injection e with e1 _; rw [e1]
 byValue:=fun k v h=>by
  rcases zg7 h with ⟨i,t,rfl,rfl⟩ | ⟨x,t,rfl,rfl⟩ <;> rfl
 pyHash:=fun hv h=>by
  rcases zg7 hv with ⟨i,t,rfl,rfl⟩ | ⟨x,t,rfl,rfl⟩
  ·exact wpAny_pyHash_int h
  ·exact wpAny_pyHash_str h
 eqBool:=fun hu hv h=>by
  rcases zg7 hu with ⟨i,t,rfl,rfl⟩ | ⟨x,t,rfl,rfl⟩
  ·rcases zg7 hv with ⟨j,u,rfl,rfl⟩ | ⟨y,u,rfl,rfl⟩
   ·rw [zz0] at h; exact wpAny_eqBool_int h
   ·rw [z1q] at h; exact SeqAt.EqAt.int_str i t y u _ _ _ _ h
  ·rcases zg7 hv with ⟨j,u,rfl,rfl⟩ | ⟨y,u,rfl,rfl⟩
   ·rw [z1w] at h; exact SeqAt.EqAt.str_int x t j u _ _ _ _ h
   ·rw [z7y] at h; exact wpAny_eqBool_str h
 «strs»:=fun k x t v h=>by
  rcases zg7 h with ⟨i,u,rfl,e⟩ | ⟨y,u,rfl,e⟩
  ·exact nomatch e
  ·injection e with e1 _
   subst e1
   cases v <;> rfl
theorem z3a (prog : Program) (w : World) (i : Int) (t : Tok) : (zef prog w).is (.inl i) (.int i t) = true:=zwq i t
theorem z2c (prog : Program) (w : World) (x : Str) (t : Tok) : (zef prog w).is (.inr x) (.str x t) = true:=z62 x t
inductive V where
 | non | bl (b : Bool) | int (i : Int) | str (x : Str) | byt (b : Array UInt8) | flt (b : UInt64) | ref (a : Addr) | ty (n : String)
 deriving DecidableEq
noncomputable def za5 : V -> Value -> Prop
 | .non,u=>u = Value.none
 | .bl b,u=>u = Value.bool b
 | .int i,u=>∃ t,u = Value.int i t
 | .str x,u=>∃ t,u = Value.str x t
 | .byt b,u=>∃ t,u = Value.bytes b t
 | .flt b,u=>∃ t,u = Value.float b t
 | .ref a,u=>u = Value.ref a
 | .ty n,u=>u = Value.type n
noncomputable abbrev za8 : List V -> List Value -> Prop:=Paired za5
theorem za8.length {xs : List V} {us : List Value} (r : za8 xs us) : xs.length = us.length:=Paired.length r
theorem za8.get : ∀ {xs : List V} {us : List Value} {i : Nat} {x : V},za8 xs us -> xs[i]? = some x -> ∃ u,us[i]? = some u /\ za5 x u
 | _,_,_,_,.nil,e=>by simp at e
 | _,_,0,_,.cons r _,e=>by simp at e; subst e; exact ⟨_,rfl,r⟩
 | _,_,i + 1,x,.cons _ t,e=>by
  obtain ⟨u,h1,h2⟩:=za8.get (i:=i) (x:=x) t (by simpa using e)
  exact ⟨u,by simpa using h1,h2⟩
theorem za8.set {x : V} {u : Value} (r : za5 x u) : ∀ {xs : List V} {us : List Value} (i : Nat),za8 xs us -> za8 (xs.set i x) (us.set i u)
 | _,_,_,.nil=>.nil
 | _,_,0,.cons _ t=>.cons r t
 | _,_,i + 1,.cons q t=>.cons q (za8.set r i t)
theorem za8.append : ∀ {xs ys : List V} {us ws : List Value},za8 xs us -> za8 ys ws -> za8 (xs ++ ys) (us ++ ws)
 | _,_,_,_,.nil,s=>s
 | _,_,_,_,.cons r t,s=>.cons r (za8.append t s)
theorem za8.take : ∀ {xs : List V} {us : List Value} (n : Nat),za8 xs us -> za8 (xs.take n) (us.take n)
 | _,_,0,_=>.nil
 | _,_,_ + 1,.nil=>.nil
 | _,_,n + 1,.cons r t=>.cons r (za8.take n t)
theorem za8.drop : ∀ {xs : List V} {us : List Value} (n : Nat),za8 xs us -> za8 (xs.drop n) (us.drop n)
 | _,_,0,r=>r
 | _,_,_ + 1,.nil=>.nil
 | _,_,n + 1,.cons _ t=>za8.drop n t
noncomputable def zei : Option V -> Option Value -> Prop
 | some v,some u=>za5 v u
 | none,none=>True
 | _,_=>False
noncomputable def KV {κ : Type} : List (κ × V) -> List (κ × Value) -> Prop:=Paired fun (p : κ × V) (q : κ × Value)=>p.1 = q.1 /\ za5 p.2 q.2
noncomputable def kV : Key -> V
 | .inl i=>.int i
 | .inr x=>.str x
inductive HO where
 | lst (xs : List V)
 | tup (xs : List V)
 | dK (kvs : List (Key × V)) | dT (kvs : List (List Key × V))
 | set (S : Int -> Bool) (n : Nat)
 | ins (C dx : Addr) (fs : List (Str × V))
 | own (x : Addr)
 | xd (fs : List (Str × V))
 | met (f x : Addr)
 | rng (lo hi : Int)
 | frz (o : Obj) (u : HO)
 | tbl (ps : Array Value)
 | ext (φ : Heap -> Prop)
noncomputable abbrev Hp:=Addr -> Option HO
noncomputable def upd (H : Hp) (a : Addr) (o : HO) : Hp:=fun b=>if b = a then some o else H b
theorem zcg {H : Hp} {a : Addr} {o : HO} : upd H a o a = some o:=by unfold upd; rw [if_pos rfl]
theorem zb1 {H : Hp} {a b : Addr} {o : HO} (h : b ≠ a) : upd H a o b = H b:=by unfold upd; rw [if_neg h]
theorem z7o {H : Hp} {a b : Addr} {o u : HO} (h : H a = some o) (h' : H b = some u) (d : o ≠ u) : a ≠ b:=by
 intro e; subst e; rw [h] at h'; exact d (Option.some.inj h')
theorem zdm {H : Hp} {a b : Addr} {o : HO} (h : H a = some o) (h' : H b = none) : a ≠ b:=by
 intro e; subst e; rw [h] at h'; cases h'
section
variable (P : Program) (w : World)
noncomputable def zcw (H : Hp) (h : Heap) (a : Addr) : HO -> Prop
 | .lst xs=>xs.length <= sizeLine /\ ∃ (its : List Value) (n : Nat),za8 xs its /\ h.get? a = some { cls:=.type "list",data:=.seq its.toArray n }
 | .tup xs=>xs.length <= sizeLine /\ ∃ its : List Value,za8 xs its /\ IsTup h a its.toArray
 | .dK kvs=>kvs.length <= sizeLine /\ (a == sysModules) = false /\ ∃ vs,KV kvs vs /\ h.DictOf (zef P w) a vs
 | .dT kvs=>kvs.length <= sizeLine /\ (a == sysModules) = false /\ ∃ xs : List (List Key × Addr × Value),
   Paired (fun (p : List Key × V) (q : List Key × Addr × Value)=>p.1 = q.1 /\ H q.2.1 = some (.tup (p.1.map kV)) /\ za5 p.2 q.2.2) kvs xs /\
   ∃ o es ep,h.get? a = some o /\ o.ExactDict /\ o.data = .dict es ep /\ es.toList = xs.map (entryOfKey (tupleKind (zef P w))) /\ (xs.map (·.1)).Nodup
 | .set S n=>h.SetOf (intKind P w) a S n
 | .ins C dx fs=>H dx = some (.own a) /\ fs.length <= 1000 /\ dx ≠ a /\ h.get? a = some (PySem.W.instObj C dx) /\
   ∃ mA,h.Ns1 dx mA /\ (∀ f,zei (fs.lookup f) (mA f)) /\ PySem.Within mA (fs.map (·.1))
 | .own _=>∃ o,h.get? a = some o
 | .xd fs=>∃ mA,h.Ns1 a mA /\ ∀ f,zei (fs.lookup f) (mA f)
 | .rng lo hi=>∃ t u v,h.get? a = some { cls:=.type "range",data:=.fields #[.int lo t,.int hi u,.int 1 v] }
 | .frz o u=>h.get? a = some o /\ zcw H h a u
 | .tbl ps=>h.get? a = some { cls:=.none,data:=.fields ps }
 | .met f x=>h.get? a = some (PySem.W.methodObj (.ref f) (.ref x))
 | .ext φ=>φ h /\ (∃ o,h.get? a = some o) /\ ∀ h1 h2 : Heap,φ h1 -> (∀ o,h1.get? a = some o -> h2.get? a = some o) -> φ h2
noncomputable def HOk (H : Hp) (h : Heap) : Prop:=∀ a o,H a = some o -> zcw P w H h a o
end
section
variable {P : Program} {w : World} {H H' : Hp} {h h' : Heap} {a : Addr} {o : HO}
theorem zcw.lt (x : zcw P w H h a o) : a < h.objs.size:=by
 cases o with
 | lst xs=>obtain ⟨_,_,_,_,e⟩:=x; exact Heap.lt_size e
 | tup xs=>obtain ⟨_,_,_,p⟩:=x; exact p.lt
 | dK kvs=>obtain ⟨_,_,_,_,o,_,_,e,_⟩:=x; exact Heap.lt_size e
 | dT kvs=>obtain ⟨_,_,_,_,o,_,_,e,_⟩:=x; exact Heap.lt_size e
 | set S n=>obtain ⟨o,_,_,_,e,_⟩:=x; exact Heap.lt_size e
 | ins C dx fs=>obtain ⟨_,_,_,e,_⟩:=x; exact Heap.lt_size e
 | own y=>obtain ⟨_,e⟩:=x; exact Heap.lt_size e
 | xd fs=>obtain ⟨_,⟨_,_,_,e,_⟩,_⟩:=x; exact Heap.lt_size e
 | rng lo hi=>obtain ⟨_,_,_,e⟩:=x; exact Heap.lt_size e
 | frz ob u=>obtain ⟨e,_⟩:=x; exact Heap.lt_size e
 | tbl ps=>exact Heap.lt_size (show h.get? a = some _ from x)
 | met f y=>exact Heap.lt_size (show h.get? a = some _ from x)
 | ext φ=>obtain ⟨_,⟨_,e⟩,_⟩:=x; exact Heap.lt_size e
theorem Paired.mapP {α β : Type} {F G : α -> β -> Prop} : ∀ {l₁ : List α} {l₂ : List β},Paired F l₁ l₂ -> (∀ a b,F a b -> G a b) -> Paired G l₁ l₂
 | _,_,.nil,_=>.nil
 | _,_,.cons r t,f=>.cons (f _ _ r) (Paired.mapP t f)
theorem zcw.stay (x : zcw P w H h a o) (k : ∀ b u,(b = a \/ H b = some (.own a)) -> h.get? b = some u -> h'.get? b = some u)
  (ho : ∀ b,H b = some (.own a) -> H' b = some (.own a)) (ht : ∀ b xs,H b = some (.tup xs) -> H' b = some (.tup xs)) : zcw P w H' h' a o:=by
 induction o with
 | lst xs=>obtain ⟨z,its,n,r,e⟩:=x; exact ⟨z,its,n,r,k _ _ (.inl rfl) e⟩
 | tup xs=>obtain ⟨z,its,r,ob,e,c⟩:=x; exact ⟨z,its,r,ob,k _ _ (.inl rfl) e,c⟩
 | dK kvs=>obtain ⟨z,y,vs,r,ob,es,ep,e,c⟩:=x; exact ⟨z,y,vs,r,ob,es,ep,k _ _ (.inl rfl) e,c⟩
 | dT kvs =>
  obtain ⟨z,y,xs,r,ob,es,ep,e,c⟩:=x
  exact ⟨z,y,xs,Paired.mapP r fun p q z=>⟨z.1,ht _ _ z.2.1,z.2.2⟩,ob,es,ep,k _ _ (.inl rfl) e,c⟩
 | set S n=>obtain ⟨ob,es,ep,t,e,c⟩:=x; exact ⟨ob,es,ep,t,k _ _ (.inl rfl) e,c⟩
 | ins C dx fs =>
  obtain ⟨d,z,ne,e,mA,⟨od,es,ep,e2,c⟩,r⟩:=x
  exact ⟨ho _ d,z,ne,k _ _ (.inl rfl) e,mA,⟨od,es,ep,k _ _ (.inr d) e2,c⟩,r⟩
 | own y=>obtain ⟨ob,e⟩:=x; exact ⟨ob,k _ _ (.inl rfl) e⟩
 | xd fs=>obtain ⟨mA,⟨od,es,ep,e,c⟩,r⟩:=x; exact ⟨mA,⟨od,es,ep,k _ _ (.inl rfl) e,c⟩,r⟩
 | rng lo hi=>obtain ⟨t,u,v,e⟩:=x; exact ⟨t,u,v,k _ _ (.inl rfl) e⟩
 | frz ob u ih=>obtain ⟨e,q⟩:=x; exact ⟨k _ _ (.inl rfl) e,ih q⟩
 | tbl ps =>
  have e : h.get? a = some { cls:=.none,data:=.fields ps }:=x
  show h'.get? a = some { cls:=.none,data:=.fields ps }
  exact k a _ (.inl rfl) e
 | met f y =>
  have e : h.get? a = some (PySem.W.methodObj (.ref f) (.ref y)):=x
  show h'.get? a = some (PySem.W.methodObj (.ref f) (.ref y))
  exact k a _ (.inl rfl) e
 | ext φ=>obtain ⟨p,⟨o,e⟩,st⟩:=x; exact ⟨st _ _ p fun o q=>k _ _ (.inl rfl) q,⟨o,k _ _ (.inl rfl) e⟩,st⟩
theorem HOk.lt (x : HOk P w H h) (e : H a = some o) : a < h.objs.size:=(x a o e).lt
theorem HOk.fresh (x : HOk P w H h) (e : h.objs.size <= a) : H a = none:=by
 cases q : H a with
 | none=>rfl
 | some u=>exact absurd (Nat.lt_of_lt_of_le (x.lt q) e) (Nat.lt_irrefl _)
theorem HOk.kept (x : HOk P w H h) (k : ∀ b u,h.get? b = some u -> h'.get? b = some u) : HOk P w H h':=fun a o e =>
 (x a o e).stay (fun b u _ q=>k b u q) (fun _ q=>q) fun _ _ q=>q
theorem HOk.laid (x : HOk P w H h) (k : ∀ b u,h.get? b = some u -> h'.get? b = some u) (hp : h.objs.size <= a) (new : zcw P w (upd H a o) h' a o) : HOk P w (upd H a o) h':=fun b u e=>by
 have hn:=x.fresh hp
 by_cases hb : b = a
 ·subst hb; rw [zcg] at e; cases e; exact new
 ·rw [zb1 hb] at e
  exact (x b u e).stay (fun c v _ q=>k c v q) (fun c q=>by rw [zb1 (zdm q hn)]; exact q) fun c xs q=>by rw [zb1 (zdm q hn)]; exact q
end
noncomputable def Rd (H : Hp) (a : Addr) (u : HO) : Prop:=H a = some u \/ ∃ o,H a = some (.frz o u)
theorem Rd.ok {P : Program} {w : World} {H : Hp} {h : Heap} {a : Addr} {u : HO} (r : Rd H a u) (x : HOk P w H h) : zcw P w H h a u:=by
 rcases r with r | ⟨o,r⟩
 ·exact x a u r
 ·obtain ⟨_,q⟩:=x a _ r
  exact q
noncomputable def Mut : Option HO -> Prop
 | some (.lst _)=>True
 | some (.dK _)=>True
 | some (.dT _)=>True
 | some (.set _ _)=>True
 | some (.ins _ _ _)=>True
 | some (.ext _)=>True
 | _=>False
section
variable {P : Program} {w : World} {H : Hp} {h h' : Heap} {x e : Addr} {o' : HO}
theorem HOk.write (ok : HOk P w H h) (mu : Mut (H x)) (he : e = x \/ H e = some (.own x)) (k : ∀ b u,b ≠ e -> h.get? b = some u -> h'.get? b = some u) (heo : ∃ u,h'.get? e = some u)
  (new : zcw P w (upd H x o') h' x o') : HOk P w (upd H x o') h':=fun b u q=>by
 have nown : ∀ c y,H c = some (.own y) -> c ≠ x:=fun c y r z=>by subst z; rw [r] at mu; exact mu
 have ntup : ∀ c xs,H c = some (.tup xs) -> c ≠ x:=fun c xs r z=>by subst z; rw [r] at mu; exact mu
 by_cases hb : b = x
 ·subst hb; rw [zcg] at q; cases q; exact new
 ·rw [zb1 hb] at q
  by_cases hbe : b = e
  ·have q' : H b = some (.own x):=by
    rcases he with z | z
    ·exact absurd (hbe.trans z) hb
    ·rw [hbe]; exact z
   rw [q] at q'; cases q'
   obtain ⟨v,hv⟩:=heo
   exact ⟨v,by rw [hbe]; exact hv⟩
  ·refine (ok b u q).stay (fun c v hc r=>k c v ?_ r) (fun c r=>by rw [zb1 (nown c b r)]; exact r) fun c xs r=>by rw [zb1 (ntup c xs r)]; exact r
   rcases hc with rfl | hc
   ·exact hbe
   ·rintro rfl
    rcases he with z | z
    ·exact nown c b hc z
    ·rw [hc] at z; cases z; exact hb rfl
end
structure Un (fs ex : List Addr) (H H' : Hp) (h h' : Heap) : Prop where
 keep : ∀ b o,h.get? b = some o -> H b = none -> b ∉ fs -> b ∉ ex -> h'.get? b = some o
 slot : ∀ b o,h.get? b = some o -> H b = none -> b ∈ fs -> b ∉ ex -> ∃ sl,h'.get? b = some { o with slots:=sl }
 free : ∀ b o,h.get? b = some o -> H b = none -> b ∉ ex -> H' b = none
 there : ∀ b o,h.get? b = some o -> b ∉ ex -> ∃ o',h'.get? b = some o'
 tups : ∀ b xs,H b = some (.tup xs) -> H' b = some (.tup xs)
 frzs : ∀ b o u,H b = some (.frz o u) -> H' b = some (.frz o u)
 tbls : ∀ b ps,H b = some (.tbl ps) -> ∃ more,H' b = some (.tbl (ps ++ more))
section
variable {fs fs' ex ex' : List Addr} {H H1 H2 : Hp} {h h1 h2 h' : Heap} {a x e : Addr} {o : HO}
theorem Un.any (u : Un fs ex H H1 h h1) {b : Addr} {ob : Obj} (q : h.get? b = some ob) (n : H b = none) (hx : b ∉ ex) : ∃ sl,h1.get? b = some { ob with slots:=sl }:=by
 by_cases hb : b ∈ fs
 ·exact u.slot b ob q n hb hx
 ·exact ⟨ob.slots,u.keep b ob q n hb hx⟩
theorem Un.kept (k : ∀ b u,h.get? b = some u -> h'.get? b = some u) : Un fs ex H H h h' :=
 ⟨fun b ob q _ _ _=>k b ob q,fun b ob q _ _ _=>⟨ob.slots,k b ob q⟩,fun _ _ _ n _=>n,fun b ob q _=>⟨ob,k b ob q⟩,fun _ _ q=>q,fun _ _ _ q=>q,fun _ ps q=>⟨#[],by rw [q]; simp⟩⟩
theorem Un.refl : Un fs ex H H h h:=Un.kept fun _ _ q=>q
theorem Un.laid (k : ∀ b u,h.get? b = some u -> h'.get? b = some u) (hp : h.objs.size <= a) (hn : H a = none) : Un fs ex H (upd H a o) h h' where
 keep:=fun b u q _ _ _=>k b u q
 slot:=fun b u q _ _ _=>⟨u.slots,k b u q⟩
 free:=fun b u q n _=>by rw [zb1 (Nat.ne_of_lt (Nat.lt_of_lt_of_le (Heap.lt_size q) hp))]; exact n
 there:=fun b u q _=>⟨u,k b u q⟩
 tups:=fun b xs q=>by rw [zb1 (zdm q hn)]; exact q
 frzs:=fun b u xs q=>by rw [zb1 (zdm q hn)]; exact q
 tbls:=fun b ps q=>⟨#[],by rw [zb1 (zdm q hn),q]; simp⟩
theorem Un.write (mu : Mut (H x)) (he : e = x \/ H e = some (.own x)) (k : ∀ b u,b ≠ e -> h.get? b = some u -> h'.get? b = some u) (heo : ∃ u,h'.get? e = some u) : Un fs ex H (upd H x o) h h':=by
 have hx : ∀ b,H b = none -> b ≠ x:=fun b n z=>by subst z; rw [n] at mu; exact mu
 have hb : ∀ b,H b = none -> b ≠ e:=fun b n z=>by
  subst z
  rcases he with r | r
  ·exact hx b n r
  ·rw [n] at r; cases r
 have hm : ∀ b u,H b = some u -> ¬ Mut (some u) -> b ≠ x:=fun b u q nm z=>by subst z; rw [q] at mu; exact nm mu
 refine ⟨fun b u q n _ _=>k b u (hb b n) q,fun b u q n _ _=>⟨u.slots,k b u (hb b n) q⟩,fun b u q n _=>by rw [zb1 (hx b n)]; exact n,fun b u q _=>?_,
  fun b xs q=>by rw [zb1 (hm b _ q fun z=>z)]; exact q,fun b u xs q=>by rw [zb1 (hm b _ q fun z=>z)]; exact q,fun b ps q=>⟨#[],by rw [zb1 (hm b _ q fun z=>z),q]; simp⟩⟩
 by_cases hbe : b = e
 ·subst hbe; exact heo
 ·exact ⟨u,k b u hbe q⟩
end
noncomputable def trk (h : Heap) (H : Hp) : List Addr:=(List.range h.objs.size).filter fun a=>(H a).isSome
noncomputable def zgz (h : Heap) (H : Hp) : Heap:=PySem.W.hideAll h (trk h H)
theorem z5r (h : Heap) (H : Hp) : (zgz h H).objs.size = h.objs.size:=PySem.W.hideAll_size _ _
theorem zyt {h : Heap} {H : Hp} {b : Addr} {o : Obj} (e : h.get? b = some o) (n : H b = none) : (zgz h H).get? b = some o :=
 PySem.W.hideAll_get _ e fun hm=>by
  have q : (H b).isSome = true:=(List.mem_filter.mp hm).2
  rw [n] at q; simp at q
theorem z3e {h : Heap} {H : Hp} {b : Addr} {o : Obj} (e : (zgz h H).get? b = some o) : h.get? b = some o /\ H b = none:=by
 have e' : h.get? b = some o:=PySem.W.of_hideAll (trk h H) e
 refine ⟨e',?_⟩
 cases q : H b with
 | none=>rfl
 | some x =>
  have hm : b ∈ trk h H:=List.mem_filter.mpr ⟨List.mem_range.mpr (Heap.lt_size e'),by simp [q]⟩
  have z : (zgz h H).get? b = none:=PySem.W.hideAll_none (trk h H) hm
  rw [z] at e; cases e
noncomputable def z2r (g h : Heap) (L : Addr) : List (Addr × Obj):=(List.range h.objs.size).filterMap fun a=>if a = L \/ (g.get? a).isSome = true then none else (h.get? a).map fun o=>(a,o)
noncomputable def zco (g h : Heap) (L d : Addr) : List (Addr × Obj):=(z2r g h L).filter fun p=>decide (p.1 ≠ d)
structure Mod (K : PySem.W.Frag) (mg : Str -> Option Value) (base : Heap) : Prop where
 kin : K.In base
 glob : base.Ns mainGlobals mg
 blt : ∃ mb,base.Ns builtinsNs mb /\ ∀ x : Str,x ≠ "__name__" -> mb x = bootBuiltins x
 nolimit : base.NoLimit
set_option genInjectivity false in
structure Cx where
 prog : Program
 w : World
 K : PySem.W.Frag
 mg : Str -> Option Value
 base : Heap
 A : Around
 N : List Str
 s₀ : Shared
 H₀ : Hp
 env : Env
 outer : List Env
 stack : List Env
 ex : List Addr
 fn : Str -> Bool
 calm : Bool
 pn : List (Addr × Obj)
 xe : Value -> Shared -> Prop
noncomputable def frs (l : List Env) : List Addr:=l.filterMap (·.frame)
noncomputable abbrev Cx.fs (X : Cx) : List Addr:=frs X.outer
noncomputable def Vis (sc : Scope) (x : Str) : Prop:=sc.names.lookup x = some .local \/ sc.names.lookup x = some .cell \/ sc.names.lookup x = some .free
noncomputable def Loc (sc : Scope) (x : Str) : Prop:=sc.names.lookup x = some .local \/ sc.names.lookup x = some .cell
noncomputable def z4z (env : Env) (h : Heap) (m : Str -> Option Value) (x : Str) (u : Value) : Prop :=
 (env.kindOf x = some .local /\ m x = some u) \/ ((env.kindOf x = some .cell \/ env.kindOf x = some .free) /\ ∃ c,env.cells.lookup x = some c /\ h.IsCell c (some u))
structure Cx.Ok (X : Cx) : Prop where
 mod : Mod X.K X.mg X.base
 kind : X.env.scope.kind = .function
 glob : X.env.globals = mainGlobals
 blt : X.env.builtins = builtinsNs
 above : X.s₀.heap.objs.size <= X.env.locals
 inj : ∀ x y c,X.env.cells.lookup x = some c -> X.env.cells.lookup y = some c -> x = y
 has : ∀ x,(X.env.kindOf x = some .cell \/ X.env.kindOf x = some .free) -> ∃ c,X.env.cells.lookup x = some c
 cab : ∀ x c,X.fn x = true -> X.env.cells.lookup x = some c -> X.s₀.heap.objs.size <= c
 hd : X.calm = true -> X.A.handled = none
 frames : X.A.frames = some X.stack
 stk : X.stack = X.outer \/ (X.stack = X.env :: X.outer /\ X.env.frame = some X.env.locals)
 exf : ∀ b ∈ X.ex,b ≠ X.env.locals /\ ∀ x c,X.env.cells.lookup x = some c -> c ≠ b
 bs : ∀ b o,X.base.get? b = some o -> X.s₀.heap.get? b = some o /\ X.H₀ b = none
 bsz : X.base.objs.size <= X.s₀.heap.objs.size
 noex : ∀ b o,X.base.get? b = some o -> b ∉ X.ex
 exfs : ∀ b ∈ X.ex,b ∉ X.fs
 funs : X.s₀.heap.FunFrames X.base X.outer
 frf : ∀ b ∈ X.fs,X.H₀ b = none
structure Inv (X : Cx) (pins : List (Addr × Obj)) (σ : List (Option V)) (H : Hp) (s : Shared) : Prop where
 ok : X.Ok
 os : s.os = X.s₀.os
 bare : AllBare s.gens
 base : Un X.fs X.ex X.H₀ H X.s₀.heap s.heap
 loc : ∃ m,s.heap.Ns X.env.locals m /\ ∀ (i : Nat) (x : Str) (v : V),X.N[i]? = some x -> σ[i]? = some (some v) -> Vis X.env.scope x -> ∃ u,za5 v u /\ z4z X.env s.heap m x u
 cell : ∀ x c,X.env.cells.lookup x = some c -> ∃ v,s.heap.IsCell c v
 free : H X.env.locals = none
 freeC : ∀ x c,X.env.cells.lookup x = some c -> H c = none
 pin : ∀ p ∈ X.pn ++ pins,s.heap.get? p.1 = some p.2 /\ H p.1 = none /\ p.1 ≠ X.env.locals /\ p.1 ∉ X.fs /\ ∀ v,p.2.data ≠ .cell v
 hok : HOk X.prog X.w H s.heap
 len : σ.length = X.N.length
section
variable {X : Cx} {pins : List (Addr × Obj)} {σ : List (Option V)} {H H' : Hp} {s : Shared} {h' : Heap}
theorem Cx.Ok.nofr (ok : X.Ok) {b : Addr} {o : Obj} (e : X.base.get? b = some o) : b ∉ X.fs:=fun hb=>by
 have:=(ok.funs.mem hb).1
 rw [e] at this; cases this
theorem Inv.bs (I : Inv X pins σ H s) : ∀ b o,X.base.get? b = some o -> s.heap.get? b = some o /\ H b = none:=fun b o e =>
 ⟨I.base.keep b o (I.ok.bs b o e).1 (I.ok.bs b o e).2 (I.ok.nofr e) (I.ok.noex b o e),I.base.free b o (I.ok.bs b o e).1 (I.ok.bs b o e).2 (I.ok.noex b o e)⟩
theorem Inv.bk (I : Inv X pins σ H s) : ∀ b o,X.base.get? b = some o -> s.heap.get? b = some o:=fun b o e=>(I.bs b o e).1
theorem Inv.mod (I : Inv X pins σ H s) : Mod X.K X.mg X.base:=I.ok.mod
theorem Inv.kIn (I : Inv X pins σ H s) : X.K.In s.heap:=I.ok.mod.kin.keeps I.bk
theorem Inv.lt (I : Inv X pins σ H s) : X.env.locals < s.heap.objs.size:=let ⟨_,hn,_⟩:=I.loc; hn.lt
theorem Inv.sz (I : Inv X pins σ H s) : X.s₀.heap.objs.size <= s.heap.objs.size:=Nat.le_trans I.ok.above (Nat.le_of_lt I.lt)
theorem Inv.nofs (I : Inv X pins σ H s) {a : Addr} (h : s.heap.objs.size <= a) : a ∉ X.fs:=fun hb=>by
 obtain ⟨_,o,ho,_⟩:=I.ok.funs.mem hb
 exact absurd (Nat.lt_of_lt_of_le (Heap.lt_size ho) (Nat.le_trans I.sz h)) (Nat.lt_irrefl _)
theorem Inv.cne (I : Inv X pins σ H s) : ∀ x c,X.env.cells.lookup x = some c -> c ≠ X.env.locals:=fun x c e z=>by
 obtain ⟨v,o,ho,hd⟩:=I.cell x c e
 obtain ⟨m,⟨o',es,ep,ho',hd',_⟩,_⟩:=I.loc
 rw [z,ho'] at ho; cases ho; rw [hd'] at hd; cases hd
theorem Inv.funs (I : Inv X pins σ H s) : s.heap.FunFrames X.base X.outer:=by
 have all : ∀ (l : List Env),(∀ b ∈ frs l,b ∈ X.fs) -> X.s₀.heap.FunFrames X.base l -> s.heap.FunFrames X.base l:=by
  intro l
  induction l with
  | nil=>intro _ _; trivial
  | cons env r ih =>
   intro hs hl
   obtain ⟨hk,⟨L,o,hf,hn,ho,hd⟩,hr⟩:=hl
   have hL : L ∈ X.fs:=hs L (by unfold frs; rw [List.filterMap_cons,hf]; exact List.mem_cons_self)
   obtain ⟨sl,e⟩:=I.base.slot L o ho (I.ok.frf L hL) hL fun z=>I.ok.exfs L z hL
   exact ⟨hk,⟨L,_,hf,hn,e,hd⟩,ih (fun b hb=>hs b (by unfold frs; rw [List.filterMap_cons,hf]; exact List.mem_cons_of_mem _ hb)) hr⟩
 exact all X.outer (fun _ hb=>hb) I.ok.funs
theorem Inv.stack (I : Inv X pins σ H s) : s.heap.FunFrames X.base X.stack:=by
 rcases I.ok.stk with e | ⟨e,hf⟩
 ·rw [e]; exact I.funs
 ·rw [e]
  obtain ⟨m,hn,_⟩:=I.loc
  refine .cons (by rw [I.ok.kind]; decide) hf hn ?_ I.funs
  exact Heap.get?_none_of_le (Nat.le_trans I.ok.bsz I.ok.above)
theorem Inv.stkSub (I : Inv X pins σ H s) : ∀ b ∈ frs X.stack,b ∈ X.env.locals :: X.fs:=fun b hb=>by
 rcases I.ok.stk with e | ⟨e,hf⟩
 ·rw [e] at hb; exact List.mem_cons_of_mem _ hb
 ·rw [e] at hb
  unfold frs at hb
  rw [List.filterMap_cons,hf] at hb
  exact hb
theorem Inv.stkFree (I : Inv X pins σ H s) : ∀ b ∈ frs X.stack,H b = none:=fun b hb=>by
 rcases List.mem_cons.mp (I.stkSub b hb) with e | hb
 ·rw [e]; exact I.free
 ·obtain ⟨_,o,ho,_⟩:=I.ok.funs.mem hb
  exact I.base.free b o ho (I.ok.frf b hb) fun z=>I.ok.exfs b z hb
theorem Inv.step {g' : Array GenState} {t' : Nat} {d' : Drawn} {ch : List Addr} (I : Inv X pins σ H s)
  (hch : ∀ b ∈ ch,(b ∈ X.ex \/ X.s₀.heap.objs.size <= b) /\ b ≠ X.env.locals /\ (∀ x c,X.env.cells.lookup x = some c -> c ≠ b) /\ ∀ p ∈ X.pn ++ pins,p.1 ≠ b)
  (keep : ∀ b o,b ≠ X.env.locals -> b ∉ X.fs -> b ∉ ch -> s.heap.get? b = some o -> H b = none -> h'.get? b = some o)
  (slot : ∀ b o,b ≠ X.env.locals -> b ∈ X.fs -> b ∉ ch -> s.heap.get? b = some o -> H b = none -> ∃ sl,h'.get? b = some { o with slots:=sl }) (free : ∀ b o,b ∉ ch -> s.heap.get? b = some o -> H b = none -> H' b = none)
  (there : ∀ b o,b ∉ ch -> s.heap.get? b = some o -> ∃ o',h'.get? b = some o')
  (tups : ∀ b xs,H b = some (.tup xs) -> H' b = some (.tup xs)) (frzs : ∀ b o u,H b = some (.frz o u) -> H' b = some (.frz o u)) (tbls : ∀ b ps,H b = some (.tbl ps) -> ∃ more,H' b = some (.tbl (ps ++ more)))
  (ns : ∀ m,s.heap.Ns X.env.locals m -> h'.Ns X.env.locals m) (hok : HOk X.prog X.w H' h') (hg : AllBare g') :
  Inv X pins σ H' { s with heap:=h',gens:=g',drawn:=d',toks:=t' }:=by
 have neL : ∀ b o,X.s₀.heap.get? b = some o -> b ≠ X.env.locals:=fun b o e=>Nat.ne_of_lt (Nat.lt_of_lt_of_le (Heap.lt_size e) I.ok.above)
 have neC : ∀ b o,X.s₀.heap.get? b = some o -> b ∉ X.ex -> b ∉ ch:=fun b o e hx hb=>by
  rcases (hch b hb).1 with z | z
  ·exact hx z
  ·exact absurd (Nat.lt_of_lt_of_le (Heap.lt_size e) z) (Nat.lt_irrefl _)
 have cellK : ∀ x c,X.env.cells.lookup x = some c -> ∀ v,s.heap.IsCell c v -> h'.IsCell c v:=fun x c e v ⟨o,ho,hd⟩=>by
  have nch : c ∉ ch:=fun z=>(hch c z).2.2.1 x c e rfl
  by_cases hc : c ∈ X.fs
  ·obtain ⟨sl,q⟩:=slot c o (I.cne x c e) hc nch ho (I.freeC x c e)
   exact ⟨_,q,hd⟩
  ·exact ⟨o,keep c o (I.cne x c e) hc nch ho (I.freeC x c e),hd⟩
 refine ⟨I.ok,I.os,hg,⟨fun b o e n hb hx=>?_,fun b o e n hb hx=>?_,fun b o e n hx=>?_,fun b o e hx=>?_,fun b xs e=>tups b xs (I.base.tups b xs e),fun b o xs e=>frzs b o xs (I.base.frzs b o xs e),fun b ps e=>?_⟩,?_,fun x c e=>?_,?_,fun x c e=>?_,fun p hp=>?_,hok,I.len⟩
 ·exact keep b o (neL b o e) hb (neC b o e hx) (I.base.keep b o e n hb hx) (I.base.free b o e n hx)
 ·obtain ⟨sl,e1⟩:=I.base.slot b o e n hb hx
  obtain ⟨sl',e2⟩:=slot b _ (neL b o e) hb (neC b o e hx) e1 (I.base.free b o e n hx)
  exact ⟨sl',e2⟩
 ·obtain ⟨o',e1⟩:=I.base.there b o e hx
  exact free b o' (neC b o e hx) e1 (I.base.free b o e n hx)
 ·obtain ⟨o',e1⟩:=I.base.there b o e hx
  exact there b o' (neC b o e hx) e1
 ·obtain ⟨m1,e1⟩:=I.base.tbls b ps e
  obtain ⟨m2,e2⟩:=tbls b _ e1
  exact ⟨m1 ++ m2,by rw [e2,Array.append_assoc]⟩
 ·obtain ⟨m,hn,hl⟩:=I.loc
  refine ⟨m,ns m hn,fun i x v e1 e2 e3=>?_⟩
  obtain ⟨u,r,l⟩:=hl i x v e1 e2 e3
  refine ⟨u,r,?_⟩
  rcases l with l | ⟨k,c,e,z⟩
  ·exact .inl l
  ·exact .inr ⟨k,c,e,cellK x c e _ z⟩
 ·obtain ⟨v,z⟩:=I.cell x c e
  exact ⟨v,cellK x c e v z⟩
 ·obtain ⟨m,⟨o,_,_,ho,_⟩,_⟩:=I.loc
  exact free _ o (fun z=>(hch _ z).2.1 rfl) ho I.free
 ·obtain ⟨v,o,ho,hd⟩:=I.cell x c e
  exact free c o (fun z=>(hch c z).2.2.1 x c e rfl) ho (I.freeC x c e)
 ·obtain ⟨e,n,ne,nf,d⟩:=I.pin p hp
  have nch : p.1 ∉ ch:=fun z=>(hch p.1 z).2.2.2 p hp rfl
  exact ⟨keep p.1 p.2 ne nf nch e n,free p.1 p.2 nch e n,ne,nf,d⟩
theorem Inv.un {t' : Nat} (I : Inv X pins σ H s) (u : Un X.fs [] H H' s.heap h') (hok : HOk X.prog X.w H' h') : Inv X pins σ H' { s with heap:=h',toks:=t' }:=by
 obtain ⟨m,⟨o,es,ep,ho,r⟩,_⟩:=id I.loc
 obtain ⟨sl,hL⟩:=u.any ho I.free (by simp)
 exact I.step (g':=s.gens) (d':=s.drawn) (ch:=[]) (fun _ z=>nomatch z) (fun b o _ hb _ e n=>u.keep b o e n hb (by simp)) (fun b o _ hb _ e n=>u.slot b o e n hb (by simp)) (fun b o _ e n=>u.free b o e n (by simp)) (fun b o _ e=>u.there b o e (by simp)) u.tups u.frzs u.tbls (fun m' hm=>by
  obtain ⟨o',es',ep',ho',r'⟩:=hm
  rw [ho] at ho'; cases ho'
  exact ⟨_,es',ep',hL,r'⟩) hok I.bare
theorem Inv.call {g' : Array GenState} {t' : Nat} {d' : Drawn} {ch : List Addr} (I : Inv X pins σ H s) (u : Un (frs X.stack) ch H H' s.heap h') (hok : HOk X.prog X.w H' h') (hg : AllBare g')
  (hch : ∀ b ∈ ch,(b ∈ X.ex \/ X.s₀.heap.objs.size <= b) /\ b ≠ X.env.locals /\ (∀ x c,X.env.cells.lookup x = some c -> c ≠ b) /\ ∀ p ∈ X.pn ++ pins,p.1 ≠ b) :
  Inv X pins σ H' { s with heap:=h',gens:=g',drawn:=d',toks:=t' }:=by
 obtain ⟨m,⟨o,es,ep,ho,r⟩,_⟩:=id I.loc
 obtain ⟨sl,hL⟩:=u.any ho I.free fun z=>(hch _ z).2.1 rfl
 exact I.step (ch:=ch) hch (fun b o hL hb hc e n=>u.keep b o e n (fun z=>(List.mem_cons.mp (I.stkSub b z)).elim hL hb) hc) (fun b o _ _ hc e n=>u.any e n hc) (fun b o hc e n=>u.free b o e n hc) (fun b o hc e=>u.there b o e hc) u.tups u.frzs u.tbls (fun m' hm=>by
  obtain ⟨o',es',ep',ho',r'⟩:=hm
  rw [ho] at ho'; cases ho'
  exact ⟨_,es',ep',hL,r'⟩) hok hg
theorem Inv.turned {t' : Nat} {it : Addr} (I : Inv X pins σ H s) (k : ∀ b o,b ≠ it -> s.heap.get? b = some o -> h'.get? b = some o) (hn : H it = none) (hL : it ≠ X.env.locals)
  (h1 : it ∈ X.ex \/ X.s₀.heap.objs.size <= it) (h2 : ∀ x c,X.env.cells.lookup x = some c -> c ≠ it) (h3 : ∀ p ∈ X.pn ++ pins,p.1 ≠ it) : Inv X pins σ H { s with heap:=h',toks:=t' }:=by
 have nit : ∀ b u,H b = some u -> b ≠ it:=fun b u e z=>by rw [z,hn] at e; cases e
 refine I.step (g':=s.gens) (d':=s.drawn) (ch:=[it]) (fun b hb=>?_) (fun b o _ _ hc e _=>k b o (fun z=>hc (by simp [z])) e) (fun b o _ _ hc e _=>⟨o.slots,k b o (fun z=>hc (by simp [z])) e⟩) (fun _ _ _ _ n=>n)
  (fun b o hc e=>⟨o,k b o (fun z=>hc (by simp [z])) e⟩) (fun _ _ e=>e) (fun _ _ _ e=>e) (fun b ps e=>⟨#[],by rw [e]; simp⟩) (fun m hm=>?_) (fun b u e=>?_) I.bare
 ·have e : b = it:=by simpa using hb
  subst e
  exact ⟨h1,hL,h2,h3⟩
 ·obtain ⟨o,es,ep,ho,r⟩:=hm
  exact ⟨o,es,ep,k _ o (Ne.symm hL) ho,r⟩
 ·refine (I.hok b u e).stay (fun c v hc q=>k c v ?_ q) (fun _ q=>q) fun _ _ q=>q
  rcases hc with z | z
  ·rw [z]; exact nit b u e
  ·exact nit c _ z
theorem Inv.tok (I : Inv X pins σ H s) (t : Nat) : Inv X pins σ H { s with toks:=t }:=I.un (h':=s.heap) (t':=t) Un.refl I.hok
theorem Inv.kept {t' : Nat} (I : Inv X pins σ H s) (k : ∀ b u,s.heap.get? b = some u -> h'.get? b = some u) : Inv X pins σ H { s with heap:=h',toks:=t' }:=I.un (Un.kept k) (I.hok.kept k)
theorem Inv.laid {a : Addr} {o : HO} {t' : Nat} (I : Inv X pins σ H s) (k : ∀ b u,s.heap.get? b = some u -> h'.get? b = some u) (hp : s.heap.objs.size <= a) (new : zcw X.prog X.w (upd H a o) h' a o) :
  Inv X pins σ (upd H a o) { s with heap:=h',toks:=t' }:=I.un (Un.laid k hp (I.hok.fresh hp)) (I.hok.laid k hp new)
theorem Inv.write {x e : Addr} {o : HO} {t' : Nat} (I : Inv X pins σ H s) (mu : Mut (H x)) (he : e = x \/ H e = some (.own x)) (k : ∀ b u,b ≠ e -> s.heap.get? b = some u -> h'.get? b = some u) (heo : ∃ u,h'.get? e = some u)
  (new : zcw X.prog X.w (upd H x o) h' x o) : Inv X pins σ (upd H x o) { s with heap:=h',toks:=t' }:=I.un (Un.write mu he k heo) (I.hok.write mu he k heo new)
theorem Inv.pins_of {pins' : List (Addr × Obj)} (I : Inv X pins σ H s) (h : ∀ p ∈ pins',s.heap.get? p.1 = some p.2 /\ H p.1 = none /\ p.1 ≠ X.env.locals /\ p.1 ∉ X.fs /\ ∀ v,p.2.data ≠ .cell v) : Inv X pins' σ H s :=
 ⟨I.ok,I.os,I.bare,I.base,I.loc,I.cell,I.free,I.freeC,fun p hp=>(List.mem_append.mp hp).elim (fun z=>I.pin p (List.mem_append_left _ z)) (h p),I.hok,I.len⟩
theorem zud {N : List Str} (hN : N.Nodup) {i j : Nat} {x : Str} (a : N[i]? = some x) (b : N[j]? = some x) : i = j:=by
 obtain ⟨h1,e1⟩:=List.getElem?_eq_some_iff.mp a
 obtain ⟨h2,e2⟩:=List.getElem?_eq_some_iff.mp b
 exact (List.getElem_inj hN).mp (e1.trans e2.symm)
theorem zus {M : Model} {A : Around} {E : Value -> Shared -> Prop} {i : Nat} {x : Str} {v : V} {u : Value} {Q : Unit -> Shared -> Prop} (I : Inv X pins σ H s) (hN : X.N.Nodup) (hi : X.N[i]? = some x) (hx : Loc X.env.scope x) (r : za5 v u)
  (h : ∀ s',Inv X pins (σ.set i (some v)) H s' -> (∃ a,Heap.SameBut a s.heap s'.heap /\ (a = X.env.locals \/ X.env.cells.lookup x = some a)) -> Q () s') (hf : X.fn x = true \/ X.env.scope.names.lookup x = some .local:=by first | exact .inl rfl | exact .inr rfl | assumption) : wpAny M A (storeName X.env x u) Q E s:=by
 obtain ⟨m,hn,hl⟩:=id I.loc
 have hcls : (X.env.scope.kind == .class || (X.env.scope.kind == .module && X.env.locals != X.env.globals)) = false:=by rw [I.ok.kind]; rfl
 have hiσ : i < σ.length:=by rw [I.len]; exact (List.getElem?_eq_some_iff.mp hi).1
 have cne:=I.cne
 have tracked : ∀ {a : Addr} {h' : Heap},(∃ o,s.heap.get? a = some o /\ H a = none) -> Heap.SameBut a s.heap h' -> HOk X.prog X.w H h':=fun {a h'} ha hs b ob e=>by
  obtain ⟨_,_,hfree⟩:=ha
  refine (I.hok b ob e).stay (fun c w' hc q=>(hs.2 c ?_).trans q) (fun _ q=>q) fun _ _ q=>q
  rintro rfl
  rcases hc with rfl | hc
  ·rw [hfree] at e; cases e
  ·rw [hfree] at hc; cases hc
 rcases hx with hk | hk
 ·refine wpAny_storeName_local hk hn (fun h' hn' hs=>?_) hcls
  obtain ⟨oL,_,_,hoL,_⟩:=id hn
  refine h _ ⟨I.ok,I.os,I.bare,⟨fun b o e n hb hx=>?_,fun b o e n hb hx=>?_,I.base.free,fun b o e hx=>?_,I.base.tups,I.base.frzs,I.base.tbls⟩,⟨_,hn',fun j y v' e1 e2 e3=>?_⟩,fun y c e=>?_,I.free,I.freeC,fun p hp=>?_,tracked ⟨oL,hoL,I.free⟩ hs,by simpa using I.len⟩ ⟨_,hs,.inl rfl⟩
  ·exact (hs.2 b (Nat.ne_of_lt (Nat.lt_of_lt_of_le (Heap.lt_size e) I.ok.above))).trans (I.base.keep b o e n hb hx)
  ·obtain ⟨sl,e1⟩:=I.base.slot b o e n hb hx
   exact ⟨sl,(hs.2 b (Nat.ne_of_lt (Nat.lt_of_lt_of_le (Heap.lt_size e) I.ok.above))).trans e1⟩
  ·obtain ⟨o',e1⟩:=I.base.there b o e hx
   exact ⟨o',(hs.2 b (Nat.ne_of_lt (Nat.lt_of_lt_of_le (Heap.lt_size e) I.ok.above))).trans e1⟩
  ·by_cases hj : j = i
   ·subst hj
    rw [hi] at e1; cases e1
    rw [List.getElem?_set_self hiσ] at e2
    cases e2
    exact ⟨u,r,.inl ⟨hk,by simp⟩⟩
   ·rw [List.getElem?_set_ne (Ne.symm hj)] at e2
    obtain ⟨u',r',q⟩:=hl j y v' e1 e2 e3
    refine ⟨u',r',?_⟩
    rcases q with ⟨k,e⟩ | ⟨k,c,e,z⟩
    ·refine .inl ⟨k,?_⟩
     have : y ≠ x:=fun e=>hj (zud hN e1 (e ▸ hi))
     simp [this,e]
    ·exact .inr ⟨k,c,e,z.sameBut hs (cne y c e)⟩
  ·obtain ⟨w',z⟩:=I.cell y c e
   exact ⟨w',z.sameBut hs (cne y c e)⟩
  ·obtain ⟨e,n,ne,nf,d⟩:=I.pin p hp
   exact ⟨(hs.2 p.1 ne).trans e,n,ne,nf,d⟩
 ·have hfn : X.fn x = true:=by
   rcases hf with z | z
   ·exact z
   ·rw [z] at hk; cases hk
  obtain ⟨c,hc⟩:=I.ok.has x (.inl hk)
  obtain ⟨w',z⟩:=I.cell x c hc
  refine wpAny_storeName_cell I.ok.kind hk hc z (fun h' hc' hs=>?_)
  obtain ⟨oc,hoc,hocd⟩:=id z
  refine h { s with heap:=h' } ⟨I.ok,I.os,I.bare,⟨fun b o e n hb hx=>?_,fun b o e n hb hx=>?_,I.base.free,fun b o e hx=>?_,I.base.tups,I.base.frzs,I.base.tbls⟩,⟨m,hn.sameBut hs (Ne.symm (cne x c hc)),fun j y v' e1 e2 e3=>?_⟩,fun y c' e=>?_,I.free,I.freeC,fun p hp=>?_,tracked ⟨oc,hoc,I.freeC x c hc⟩ hs,by simpa using I.len⟩ ⟨c,hs,.inr hc⟩
  ·exact (hs.2 b (Nat.ne_of_lt (Nat.lt_of_lt_of_le (Heap.lt_size e) (I.ok.cab x c hfn hc)))).trans (I.base.keep b o e n hb hx)
  ·obtain ⟨sl,e1⟩:=I.base.slot b o e n hb hx
   exact ⟨sl,(hs.2 b (Nat.ne_of_lt (Nat.lt_of_lt_of_le (Heap.lt_size e) (I.ok.cab x c hfn hc)))).trans e1⟩
  ·obtain ⟨o',e1⟩:=I.base.there b o e hx
   exact ⟨o',(hs.2 b (Nat.ne_of_lt (Nat.lt_of_lt_of_le (Heap.lt_size e) (I.ok.cab x c hfn hc)))).trans e1⟩
  ·by_cases hj : j = i
   ·subst hj
    rw [hi] at e1; cases e1
    rw [List.getElem?_set_self hiσ] at e2
    cases e2
    exact ⟨u,r,.inr ⟨.inl hk,c,hc,hc'⟩⟩
   ·rw [List.getElem?_set_ne (Ne.symm hj)] at e2
    obtain ⟨u',r',q⟩:=hl j y v' e1 e2 e3
    refine ⟨u',r',?_⟩
    rcases q with q | ⟨k,c',e,z'⟩
    ·exact .inl q
    ·refine .inr ⟨k,c',e,z'.sameBut hs ?_⟩
     rintro rfl
     exact hj (zud hN e1 (I.ok.inj _ _ _ e hc ▸ hi))
  ·by_cases hcc : c' = c
   ·subst hcc; exact ⟨_,hc'⟩
   ·obtain ⟨w2,z2⟩:=I.cell y c' e
    exact ⟨w2,z2.sameBut hs hcc⟩
  ·obtain ⟨e,n,ne,nf,d⟩:=I.pin p hp
   refine ⟨(hs.2 p.1 ?_).trans e,n,ne,nf,d⟩
   intro q
   rw [q,hoc] at e
   have q' : oc = p.2:=Option.some.inj e
   exact d w' (by rw [<- q']; exact hocd)
theorem zvx {M : Model} {A : Around} {E : Value -> Shared -> Prop} {i : Nat} {x : Str} {v : V} {u : Value} {Q : Unit -> Shared -> Prop} (I : Inv X pins σ H s) (hN : X.N.Nodup) (hi : X.N[i]? = some x) (hx : Loc X.env.scope x) (r : za5 v u)
  (h : ∀ s',Inv X pins (σ.set i (some v)) H s' -> Q () s') (hf : X.fn x = true \/ X.env.scope.names.lookup x = some .local:=by first | exact .inl rfl | exact .inr rfl | assumption) : wpAny M A (storeName X.env x u) Q E s :=
 zus I hN hi hx r (fun s' I' _=>h s' I') hf
theorem Inv.call' {s' : Shared} {ch : List Addr} (I : Inv X pins σ H s) (ho : s'.os = s.os) (u : Un (frs X.stack) ch H H' s.heap s'.heap) (hok : HOk X.prog X.w H' s'.heap) (hg : AllBare s'.gens)
  (hch : ∀ b ∈ ch,(b ∈ X.ex \/ X.s₀.heap.objs.size <= b) /\ b ≠ X.env.locals /\ (∀ x c,X.env.cells.lookup x = some c -> c ≠ b) /\ ∀ p ∈ X.pn ++ pins,p.1 ≠ b) : Inv X pins σ H' s':=by
 obtain ⟨h',g',d',t',o'⟩:=s'
 have e : o' = s.os:=ho
 subst e
 exact I.call (g':=g') (t':=t') (d':=d') u hok hg hch
end
noncomputable abbrev XK:=Value -> Option Addr -> Hp -> Prop
noncomputable abbrev St:=List (Option V)
noncomputable abbrev VK:=V -> Hp -> Prop
noncomputable abbrev TE:=St -> Hp -> VK -> Prop
noncomputable abbrev TT:=St -> Hp -> (Bool -> Hp -> Prop) -> Prop
noncomputable abbrev TA:=St -> Hp -> (List V -> Hp -> Prop) -> Prop
structure zho where
 nx : St -> Hp -> Prop
 rt : VK
 bk : St -> Hp -> Prop:=fun _ _=>False
 ct : St -> Hp -> Prop:=fun _ _=>False
noncomputable abbrev TS:=zho -> St -> Hp -> Prop
noncomputable def EP (X : Cx) (pins : List (Addr × Obj)) (σ : St) (Q : VK) (u : Value) (s' : Shared) : Prop:=∃ v H',Inv X pins σ H' s' /\ za5 v u /\ Q v H'
noncomputable def TP (X : Cx) (pins : List (Addr × Obj)) (σ : St) (Q : Bool -> Hp -> Prop) (b : Bool) (s' : Shared) : Prop:=∃ H',Inv X pins σ H' s' /\ Q b H'
noncomputable def AP (X : Cx) (pins : List (Addr × Obj)) (σ : St) (Q : List V -> Hp -> Prop) (us : List Value) (s' : Shared) : Prop:=∃ vs H',Inv X pins σ H' s' /\ za8 vs us /\ Q vs H'
noncomputable def SP (X : Cx) (pins : List (Addr × Obj)) (D : zho) (f : Flow) (s' : Shared) : Prop :=
 match f with
 | .next=>∃ σ' H',Inv X pins σ' H' s' /\ D.nx σ' H'
 | .brk=>∃ σ' H',Inv X pins σ' H' s' /\ D.bk σ' H'
 | .cont=>∃ σ' H',Inv X pins σ' H' s' /\ D.ct σ' H'
 | .ret u=>∃ v σ' H',Inv X pins σ' H' s' /\ za5 v u /\ D.rt v H'
noncomputable def PE (X : Cx) (e : Expr) (t : TE) : Prop :=
 ∀ (pins : List (Addr × Obj)) (s : Shared) (σ : St) (H : Hp) (Q : VK),Inv X pins σ H s -> t σ H Q -> wpAny (model X.prog X.w) X.A (eval e X.env) (EP X pins σ Q) X.xe s
noncomputable def PT (X : Cx) (e : Expr) (t : TT) : Prop :=
 ∀ (pins : List (Addr × Obj)) (s : Shared) (σ : St) (H : Hp) (Q : Bool -> Hp -> Prop),Inv X pins σ H s -> t σ H Q -> wpAny (model X.prog X.w) X.A (isTrue e X.env (eval e X.env)) (TP X pins σ Q) X.xe s
noncomputable def PW (X : Cx) (e : Expr) (t : TT) : Prop :=
 ∀ (whole : Sem Value) (pins : List (Addr × Obj)) (s : Shared) (σ : St) (H : Hp) (Q : Bool -> Hp -> Prop),Inv X pins σ H s -> t σ H Q -> wpAny (model X.prog X.w) X.A (isTrue e X.env whole) (TP X pins σ Q) X.xe s
theorem PW.pt {X : Cx} {e : Expr} {t : TT} (h : PW X e t) : PT X e t:=h _
noncomputable def PA (X : Cx) (es : List Expr) (t : TA) : Prop :=
 ∀ (pos : Pos) (pins : List (Addr × Obj)) (s : Shared) (σ : St) (H : Hp) (Q : List V -> Hp -> Prop),Inv X pins σ H s -> t σ H Q -> wpAny (model X.prog X.w) X.A (spliced (backTo pos (starEach es X.env))) (AP X pins σ Q) X.xe s
noncomputable def PS (X : Cx) (st : Stmt) (t : TS) : Prop :=
 ∀ (pins : List (Addr × Obj)) (s : Shared) (σ : St) (H : Hp) (D : zho),Inv X pins σ H s -> t D σ H -> wpAny (model X.prog X.w) X.A (exec st X.env) (SP X pins D) X.xe s
noncomputable def PSs (X : Cx) (st : List Stmt) (t : TS) : Prop :=
 ∀ (pins : List (Addr × Obj)) (s : Shared) (σ : St) (H : Hp) (D : zho),Inv X pins σ H s -> t D σ H -> wpAny (model X.prog X.w) X.A (execs st X.env) (SP X pins D) X.xe s
theorem thn {α : Type} {t : Sem α} {Q Q' : α -> Shared -> Prop} {M : Model} {A : Around} {E : Value -> Shared -> Prop} {s : Shared} (h : wpAny M A t Q E s) (hQ : ∀ a s,Q a s -> Q' a s) : wpAny M A t Q' E s:=wpAny_mono h hQ fun _ _ x=>x
section
variable {X : Cx}
noncomputable def zeh (i : Nat) : TE:=fun σ H Q=>∃ v,σ[i]? = some (some v) /\ Q v H
noncomputable def tC (v : V) : TE:=fun _ H Q=>Q v H
theorem zg0 {i : Nat} {x : Str} {pos : Pos} (hN : X.N[i]? = some x) (hv : Vis X.env.scope x) (hd : (x == ("__debug__" : Str)) = false:=by decide) (hcd : (x == ("__classdict__" : Str)) = false:=by decide) : PE X (.Name x pos) (zeh i):=by
 intro pins s σ H Q I h
 obtain ⟨v,e,h⟩:=h
 obtain ⟨m,hn,hl⟩:=I.loc
 obtain ⟨u,r,l⟩:=hl i x v hN e hv
 have fin : EP X pins σ Q u s:=⟨v,H,I,r,h⟩
 rcases l with ⟨hk,hm⟩ | ⟨hk,c,hc,hcell⟩
 ·exact wpAny_Name (wpAny_loadName_local I.ok.kind hk hn hm fin) hd
 ·rcases hk with hk | hk
  ·exact wpAny_Name (wpAny_loadName_cell I.ok.kind hk hc hcell fin) hd
  ·exact wpAny_Name (wpAny_loadName_free I.ok.kind hk hc hcell fin hcd) hd
theorem z0z {i j pos} : PE X (.Constant (.int i) j pos) (tC (.int i)):=fun _ _ _ H _ I h=>wpAny_Constant_int ⟨.int i,H,I.tok _,⟨_,rfl⟩,h⟩
theorem z43 {b j pos} : PE X (.Constant (.bool b) j pos) (tC (.bl b)):=fun _ _ _ H _ I h=>Constant_bool ⟨.bl b,H,I,rfl,h⟩
theorem z19 {j pos} : PE X (.Constant .none j pos) (tC .non):=fun _ _ _ H _ I h=>Constant_none ⟨.non,H,I,rfl,h⟩
theorem zn2 {x j pos} : PE X (.Constant (.str x) j pos) (tC (.str x)):=fun _ _ _ H _ I h=>Calls.Constant_str ⟨.str x,H,I.tok _,⟨_,rfl⟩,h⟩
noncomputable def Gl (X : Cx) (x : Str) : Prop:=X.env.kindOf x = some .globalImplicit
theorem zwa {E : Value -> Shared -> Prop} {pins : List (Addr × Obj)} {s : Shared} {σ : St} {H : Hp} {x : Str} {u : Value} {pos : Pos} {Q : Value -> Shared -> Prop} (I : Inv X pins σ H s) (hg : Gl X x) (hm : X.mg x = some u) (h : Q u s)
  (hd : (x == ("__debug__" : Str)) = false:=by decide) : wpAny (model X.prog X.w) X.A (eval (.Name x pos) X.env) Q E s :=
 Calls.Name_function_global I.ok.kind hg (Calls.loadGlobal_global (by rw [I.ok.glob]; exact I.mod.glob.keeps I.bk) hm h) hd
theorem zg9 {E : Value -> Shared -> Prop} {pins : List (Addr × Obj)} {s : Shared} {σ : St} {H : Hp} {x : Str} {u : Value} {pos : Pos} {Q : Value -> Shared -> Prop} (I : Inv X pins σ H s) (hg : Gl X x) (hm : X.mg x = none) (hv : bootBuiltins x = some u) (h : Q u s)
  (hn : x ≠ "__name__":=by decide) (hd : (x == ("__debug__" : Str)) = false:=by decide) : wpAny (model X.prog X.w) X.A (eval (.Name x pos) X.env) Q E s:=by
 obtain ⟨mb,h1,h2⟩:=I.mod.blt
 exact Calls.Name_function_global I.ok.kind hg (Calls.loadGlobal_builtin (by rw [I.ok.glob]; exact I.mod.glob.keeps I.bk) hm (by rw [I.ok.blt]; exact h1.keeps I.bk) ((h2 x hn).trans hv) h) hd
theorem z12 {x : Str} {v : V} {u : Value} {pos : Pos} (hg : Gl X x) (hm : X.mg x = none) (hv : bootBuiltins x = some u) (r : za5 v u) (hn : x ≠ "__name__":=by decide) (hd : (x == ("__debug__" : Str)) = false:=by decide) : PE X (.Name x pos) (tC v) :=
 fun _ _ _ H _ I h=>zg9 I hg hm hv ⟨v,H,I,r,h⟩ hn hd
variable {a b : Expr} {ta tb : TE} {pos : Pos}
noncomputable def PC (X : Cx) (op : CmpOp) (a b : Expr) (t : TE) : Prop :=
 ∀ (pins : List (Addr × Obj)) (s : Shared) (σ : St) (H : Hp) (Q : VK),Inv X pins σ H s -> t σ H Q ->
  wpAny (model X.prog X.w) X.A (eval a X.env) (fun v s₁=>wpAny (model X.prog X.w) X.A (eval b X.env) (fun u s₂=>wpAny (model X.prog X.w) X.A (compareOp op v u) (EP X pins σ Q) X.xe s₂) X.xe s₁) X.xe s
theorem zwx {op : CmpOp} {t : TE} (h : PC X op a b t) (h1 : behindInMarks op b = false:=by first | exact nobehind _ (by decide) (by decide) | rfl) : PE X (.Compare a [op] [b] pos) t:=fun pins s σ H Q I hw=>wpAny_Compare1 (h pins s σ H Q I hw) h1
variable {tA tB' : TT} {zco : List Expr}
noncomputable def z6m (t u : TT) : TT:=fun σ H Q=>t σ H fun c H1=>if c = true then u σ H1 Q else Q false H1
noncomputable def tOr (t u : TT) : TT:=fun σ H Q=>t σ H fun c H1=>if c = true then Q true H1 else u σ H1 Q
noncomputable def zxk (t : TT) : TT:=fun σ H Q=>t σ H fun c H1=>Q (!c) H1
theorem zyk (ha : PT X a tA) : PW X (.BoolOp .And [a] pos) tA:=by
 intro wh pins s σ H Q I h
 refine isTrue_and (thn (ha pins s σ H Q I h) fun c s1 e=>?_)
 cases c with
 | true=>exact isTrue_and_nil e
 | false=>exact e
theorem z0j (ha : PT X a tA) : PW X (.BoolOp .Or [a] pos) tA:=by
 intro wh pins s σ H Q I h
 refine isTrue_or (thn (ha pins s σ H Q I h) fun c s1 e=>?_)
 cases c with
 | false=>exact isTrue_or_nil e
 | true=>exact e
theorem z21 (ha : PT X a tA) (hb : PW X (.BoolOp .And (b :: zco) pos) tB') : PW X (.BoolOp .And (a :: b :: zco) pos) (z6m tA tB'):=by
 intro wh pins s σ H Q I h
 refine isTrue_and (thn (ha pins s σ H _ I h) fun c s1 ⟨H1,I1,q1⟩=>?_)
 cases c with
 | true=>exact hb wh pins s1 σ H1 Q I1 q1
 | false=>exact ⟨H1,I1,q1⟩
theorem z5z (ha : PT X a tA) (hb : PW X (.BoolOp .Or (b :: zco) pos) tB') : PW X (.BoolOp .Or (a :: b :: zco) pos) (tOr tA tB'):=by
 intro wh pins s σ H Q I h
 refine isTrue_or (thn (ha pins s σ H _ I h) fun c s1 ⟨H1,I1,q1⟩=>?_)
 cases c with
 | true=>exact ⟨H1,I1,q1⟩
 | false=>exact hb wh pins s1 σ H1 Q I1 q1
theorem z6d (ha : PT X a tA) : PT X (.UnaryOp .Not a pos) (zxk tA):=by
 intro pins s σ H Q I h
 exact isTrue_not (ha pins s σ H (fun c H1=>Q (!c) H1) I h)
noncomputable def z06 (ta tb : TE) : TE:=fun σ H Q=>ta σ H fun x H1=>∃ c,x = .bl c /\ if c = true then tb σ H1 Q else Q (.bl false) H1
noncomputable def z8p (ta tb : TE) : TE:=fun σ H Q=>ta σ H fun x H1=>∃ c,x = .bl c /\ if c = true then Q (.bl true) H1 else tb σ H1 Q
noncomputable def z4v (ta : TE) : TE:=fun σ H Q=>ta σ H fun x H1=>∃ c,x = .bl c /\ Q (.bl (!c)) H1
theorem z0l {op} {t : TE} (h : PE X a t) : PE X (.BoolOp op [a] pos) t:=fun pins s σ H Q I hw=>BoolOp_one (h pins s σ H Q I hw)
theorem zyw (ha : PE X a ta) (hb : PE X (.BoolOp .And (b :: zco) pos) tb) : PE X (.BoolOp .And (a :: b :: zco) pos) (z06 ta tb):=by
 intro pins s σ H Q I h
 refine BoolOp_and (thn (ha pins s σ H _ I h) fun v s1 ⟨x,H1,I1,r1,q1⟩=>?_)
 obtain ⟨c,rfl,q1⟩:=q1
 cases r1
 refine wpAny_truthy_bool ?_
 cases c with
 | true=>exact hb pins s1 σ H1 Q I1 q1
 | false=>exact ⟨.bl false,H1,I1,rfl,q1⟩
theorem z6c (ha : PE X a ta) (hb : PE X (.BoolOp .Or (b :: zco) pos) tb) : PE X (.BoolOp .Or (a :: b :: zco) pos) (z8p ta tb):=by
 intro pins s σ H Q I h
 refine BoolOp_or (thn (ha pins s σ H _ I h) fun v s1 ⟨x,H1,I1,r1,q1⟩=>?_)
 obtain ⟨c,rfl,q1⟩:=q1
 cases r1
 refine wpAny_truthy_bool ?_
 cases c with
 | false=>exact hb pins s1 σ H1 Q I1 q1
 | true=>exact ⟨.bl true,H1,I1,rfl,q1⟩
theorem z45 (ha : PE X a ta) : PE X (.UnaryOp .Not a pos) (z4v ta):=by
 intro pins s σ H Q I h
 refine UnaryOp_ (thn (ha pins s σ H _ I h) fun v s1 ⟨x,H1,I1,r1,q1⟩=>?_)
 obtain ⟨c,rfl,q1⟩:=q1
 cases r1
 exact not_of (wpAny_truthy_bool ⟨.bl (!c),H1,I1,rfl,q1⟩)
end
noncomputable def SqL (K : PySem.W.Frag) (H : Hp) (a : Addr) (xs : List V) : Prop :=
 Rd H a (.lst xs) \/
  ∃ (o : Obj) (its : Array Value) (n : Nat),K.lookup a = some o /\ o.cls = .type "list" /\ o.dict = none /\ o.data = .seq its n /\ its.size <= sizeLine /\ za8 xs its.toList
noncomputable def SqT (K : PySem.W.Frag) (H : Hp) (a : Addr) (xs : List V) : Prop :=
 Rd H a (.tup xs) \/
  ∃ (o : Obj) (its : Array Value) (n : Nat),K.lookup a = some o /\ o.cls = .type "tuple" /\ o.data = .seq its n /\ its.size <= sizeLine /\ za8 xs its.toList
noncomputable def zx1 : Value -> Option V
 | .none=>some .non
 | .bool b=>some (.bl b)
 | .int i _=>some (.int i)
 | .str x _=>some (.str x)
 | .bytes b _=>some (.byt b)
 | .float b _=>some (.flt b)
 | .ref a=>some (.ref a)
 | .type n=>some (.ty n)
 | _=>none
theorem za5.abs {x : V} {u : Value} (r : za5 x u) : zx1 u = some x:=by
 cases x with
 | non=>cases r; rfl
 | bl _=>cases r; rfl
 | int _=>obtain ⟨t,rfl⟩:=r; rfl
 | str _=>obtain ⟨t,rfl⟩:=r; rfl
 | byt _=>obtain ⟨t,rfl⟩:=r; rfl
 | flt _=>obtain ⟨t,rfl⟩:=r; rfl
 | ref _=>cases r; rfl
 | ty _=>cases r; rfl
theorem za5.inj {x y : V} {u : Value} (r : za5 x u) (q : za5 y u) : x = y:=Option.some.inj (r.abs.symm.trans q.abs)
theorem za8.inj : ∀ {xs ys : List V} {us : List Value},za8 xs us -> za8 ys us -> xs = ys
 | _,_,_,.nil,.nil=>rfl
 | _,_,_,.cons r t,.cons r' t'=>by rw [r.inj r',za8.inj t t']
section
variable {X : Cx} {pins : List (Addr × Obj)} {σ : St} {H : Hp} {s : Shared} {a : Addr} {xs ys : List V}
theorem SqL.of {K : PySem.W.Frag} (h : H a = some (.lst xs)) : SqL K H a xs:=.inl (.inl h)
theorem SqT.of {K : PySem.W.Frag} (h : H a = some (.tup xs)) : SqT K H a xs:=.inl (.inl h)
theorem Inv.list (I : Inv X pins σ H s) (h : SqL X.K H a xs) : ∃ its : List Value,za8 xs its /\ PlainL s.heap a its.toArray /\ xs.length <= sizeLine:=by
 rcases h with h | ⟨o,its,n,hk,hc,hd,hs,hz,r⟩
 ·obtain ⟨z,its,n,r,e⟩:=h.ok I.hok
  exact ⟨its,r,⟨_,n,e,rfl,rfl,rfl⟩,z⟩
 ·refine ⟨its.toList,r,⟨o,n,I.kIn a o hk,hc,hd,by simpa using hs⟩,?_⟩
  have e:=r.length
  simp only [Array.length_toList] at e
  omega
theorem Inv.tuple (I : Inv X pins σ H s) (h : SqT X.K H a xs) : ∃ its : List Value,za8 xs its /\ IsTup s.heap a its.toArray /\ xs.length <= sizeLine:=by
 rcases h with h | ⟨o,its,n,hk,hc,hs,hz,r⟩
 ·obtain ⟨z,its,r,p⟩:=h.ok I.hok
  exact ⟨its,r,p,z⟩
 ·refine ⟨its.toList,r,⟨o,I.kIn a o hk,hc,n,by simpa using hs⟩,?_⟩
  have e:=r.length
  simp only [Array.length_toList] at e
  omega
theorem Inv.list_inj (I : Inv X pins σ H s) (h : SqL X.K H a xs) (h' : SqL X.K H a ys) : xs = ys:=by
 obtain ⟨its,r,⟨o,n,e,_,_,d⟩,_⟩:=I.list h
 obtain ⟨its',r',⟨o',n',e',_,_,d'⟩,_⟩:=I.list h'
 rw [e] at e'; cases e'
 rw [d] at d'
 injection d' with d1 _
 have : its = its':=by simpa using congrArg Array.toList d1
 subst this
 exact r.inj r'
theorem Inv.tuple_inj (I : Inv X pins σ H s) (h : SqT X.K H a xs) (h' : SqT X.K H a ys) : xs = ys:=by
 obtain ⟨its,r,⟨o,e,_,n,d⟩,_⟩:=I.tuple h
 obtain ⟨its',r',⟨o',e',_,n',d'⟩,_⟩:=I.tuple h'
 rw [e] at e'; cases e'
 rw [d] at d'
 injection d' with d1 _
 have : its = its':=by simpa using congrArg Array.toList d1
 subst this
 exact r.inj r'
end
noncomputable abbrev Cx.wish (X : Cx) (E : Value -> Shared -> Prop) : Cx:={ X with xe:=E }
noncomputable abbrev Cx.nox (X : Cx) : Cx:=X.wish fun _ _=>False
theorem Cx.Ok.wish {X : Cx} (ok : X.Ok) (E : Value -> Shared -> Prop) : (X.wish E).Ok :=
 ⟨ok.mod,ok.kind,ok.glob,ok.blt,ok.above,ok.inj,ok.has,ok.cab,ok.hd,ok.frames,ok.stk,ok.exf,ok.bs,ok.bsz,ok.noex,ok.exfs,ok.funs,ok.frf⟩
theorem Cx.Ok.unwish {X : Cx} {E : Value -> Shared -> Prop} (ok : (X.wish E).Ok) : X.Ok :=
 ⟨ok.mod,ok.kind,ok.glob,ok.blt,ok.above,ok.inj,ok.has,ok.cab,ok.hd,ok.frames,ok.stk,ok.exf,ok.bs,ok.bsz,ok.noex,ok.exfs,ok.funs,ok.frf⟩
section
variable {X : Cx} {pins : List (Addr × Obj)} {σ : St} {H : Hp} {s : Shared} {E : Value -> Shared -> Prop}
theorem Inv.wish (I : Inv X pins σ H s) (E : Value -> Shared -> Prop) : Inv (X.wish E) pins σ H s:=⟨I.ok.wish E,I.os,I.bare,I.base,I.loc,I.cell,I.free,I.freeC,I.pin,I.hok,I.len⟩
theorem Inv.unwish (I : Inv (X.wish E) pins σ H s) : Inv X pins σ H s:=⟨I.ok.unwish,I.os,I.bare,I.base,I.loc,I.cell,I.free,I.freeC,I.pin,I.hok,I.len⟩
theorem SP.unwish {D : zho} {f : Flow} {s' : Shared} (h : SP (X.wish E) pins D f s') : SP X pins D f s':=by
 cases f with
 | next=>obtain ⟨σ',H',I,q⟩:=h; exact ⟨σ',H',I.unwish,q⟩
 | brk=>obtain ⟨σ',H',I,q⟩:=h; exact ⟨σ',H',I.unwish,q⟩
 | cont=>obtain ⟨σ',H',I,q⟩:=h; exact ⟨σ',H',I.unwish,q⟩
 | ret u=>obtain ⟨v,σ',H',I,r,q⟩:=h; exact ⟨v,σ',H',I.unwish,r,q⟩
theorem PSs.nox {st : List Stmt} {t : TS} (h : PSs X.nox st t) : PSs X st t:=fun pins s σ H D I hw =>
 wpAny_mono (h pins s σ H D (I.wish _) hw) (fun _ _ q=>q.unwish) fun _ _ z=>False.elim z
end
section
variable {X : Cx} {st : Stmt} {zco : List Stmt} {t u : TS} {e : Expr} {te : TE} {pos : Pos}
noncomputable def z5n : TS:=fun D σ H=>D.nx σ H
noncomputable def zxa (t u : TS) : TS:=fun D σ H=>t { D with nx:=u D } σ H
theorem zvo : PSs X [] z5n:=fun _ _ σ H _ I h=>wpAny_execs_nil ⟨σ,H,I,h⟩
theorem zsy (h1 : PS X st t) (h2 : PSs X zco u) : PSs X (st :: zco) (zxa t u):=by
 intro pins s σ H D I h
 refine wpAny_execs_cons (thn (h1 pins s σ H { D with nx:=u D } I h) fun f s1 q=>?_)
 cases f with
 | next =>
  obtain ⟨σ',H',I',q⟩:=q
  exact h2 pins s1 σ' H' D I' q
 | ret v=>exact q
 | brk=>exact q
 | cont=>exact q
theorem z2f (h1 : PS X st t) : PSs X [st] t:=by
 intro pins s σ H D I h
 refine wpAny_execs_cons (thn (h1 pins s σ H D I h) fun f s1 q=>?_)
 cases f with
 | next=>exact wpAny_execs_nil q
 | ret v=>exact q
 | brk=>exact q
 | cont=>exact q
theorem Inv.quiet {pins : List (Addr × Obj)} {σ : St} {H : Hp} {s : Shared} (I : Inv X pins σ H s) : interactive X.env = false:=by simp [interactive,I.ok.kind]
noncomputable def znf (te : TE) : TS:=fun D σ H=>te σ H fun _ H1=>D.nx σ H1
theorem ze7 (he : PE X e te) (hs : swapsWith e none pos.line X.env = pure false:=by rfl) : PS X (.Expr e pos) (znf te):=by
 intro pins s σ H D I h
 exact wpAny_Expr_any (thn (he pins s σ H _ I h) fun v s1 ⟨x,H1,I1,r1,q1⟩=>⟨σ,H1,I1,q1⟩) I.quiet hs
noncomputable def z0f (te : TE) : TS:=fun D σ H=>te σ H D.rt
theorem zn1 (he : PE X e te) : PS X (.Return (some e) pos) (z0f te):=by
 intro pins s σ H D I h
 exact wpAny_Return_some (thn (he pins s σ H _ I h) fun v s1 ⟨x,H1,I1,r1,q1⟩=>⟨x,σ,H1,I1,r1,q1⟩)
noncomputable def z8l (c : TT) (t u : TS) : TS:=fun D σ H=>c σ H fun b H1=>if b = true then t D σ H1 else u D σ H1
theorem z34 {c : Expr} {a b : List Stmt} {tc : TT} (hc : PT X c tc) (ha : PSs X a t) (hb : PSs X b u) : PS X (.If c a b pos) (z8l tc t u):=by
 intro pins s σ H D I h
 refine wpAny_If (thn (hc pins s σ H _ I h) fun d s1 ⟨H1,I1,q1⟩=>?_)
 cases d with
 | true=>exact ha pins s1 σ H1 D I1 q1
 | false=>exact hb pins s1 σ H1 D I1 q1
end
noncomputable abbrev TG:=V -> St -> Hp -> (St -> Hp -> Prop) -> Prop
noncomputable abbrev TGs:=List V -> St -> Hp -> (St -> Hp -> Prop) -> Prop
noncomputable def PG (X : Cx) (target : Expr) (t : TG) : Prop :=
 ∀ (pins : List (Addr × Obj)) (s : Shared) (σ : St) (H : Hp) (v : V) (u : Value) (Q : St -> Hp -> Prop),Inv X pins σ H s -> za5 v u -> t v σ H Q ->
  wpAny (model X.prog X.w) X.A (assign target X.env u) (fun _ s'=>∃ σ' H',Inv X pins σ' H' s' /\ Q σ' H') X.xe s
noncomputable def PGs (X : Cx) (ts : List Expr) (t : TGs) : Prop :=
 ∀ (pins : List (Addr × Obj)) (s : Shared) (σ : St) (H : Hp) (vs : List V) (us : List Value) (Q : St -> Hp -> Prop),Inv X pins σ H s -> za8 vs us -> t vs σ H Q ->
  wpAny (model X.prog X.w) X.A (assignInOrder ((assignEach ts X.env).map (·.2)) us) (fun _ s'=>∃ σ' H',Inv X pins σ' H' s' /\ Q σ' H') X.xe s
noncomputable abbrev zo3:=V -> V -> V -> Hp -> (Hp -> Prop) -> Prop
noncomputable def zst (X : Cx) (t : zo3) : Prop :=
 ∀ (pins : List (Addr × Obj)) (s : Shared) (σ : St) (H : Hp) (o i v : V) (ov iv u : Value) (Q : Hp -> Prop),Inv X pins σ H s -> za5 o ov -> za5 i iv -> za5 v u -> t o i v H Q ->
  wpAny (model X.prog X.w) X.A (setItem ov iv u) (fun _ s'=>∃ H',Inv X pins σ H' s' /\ Q H') X.xe s
section
variable {X : Cx} {pos : Pos}
noncomputable def zhi (i : Nat) : TG:=fun v σ H Q=>Q (σ.set i (some v)) H
theorem zso {i : Nat} {x : Str} (hN : X.N.Nodup) (hi : X.N[i]? = some x) (hx : Loc X.env.scope x) (hf : X.fn x = true \/ X.env.scope.names.lookup x = some .local:=by first | exact .inl rfl | exact .inr rfl | assumption) : PG X (.Name x pos) (zhi i):=by
 intro pins s σ H v u Q I r h
 exact wpAny_assign_Name (zvx I hN hi hx r (fun s' I'=>⟨_,H,I',h⟩) hf)
noncomputable def zym : TGs:=fun vs σ H Q=>vs = [] /\ Q σ H
noncomputable def z3w (t : TG) (u : TGs) : TGs:=fun vs σ H Q=>∃ v r,vs = v :: r /\ t v σ H fun σ' H'=>u r σ' H' Q
theorem z32 : PGs X [] zym:=by
 intro pins s σ H vs us Q I r h
 obtain ⟨e,h⟩:=h
 subst e
 cases r
 exact assignInOrder_nil ⟨σ,H,I,h⟩
theorem z4i {e : Expr} {es : List Expr} {t : TG} {u : TGs} (h1 : PG X e t) (h2 : PGs X es u)
  (hs : (assignEach (e :: es) X.env).map (·.2) = assign e X.env :: (assignEach es X.env).map (·.2):=by rfl) : PGs X (e :: es) (z3w t u):=by
 intro pins s σ H vs us Q I r h
 obtain ⟨v,vr,e1,h⟩:=h
 subst e1
 cases r with
 | cons r rr =>
  rw [hs]
  refine assignInOrder_cons (thn (h1 pins s σ H _ _ _ I r h) fun _ s1 ⟨σ1,H1,I1,q1⟩=>?_)
  exact h2 pins s1 σ1 H1 _ _ Q I1 rr q1
noncomputable def z0o (K : PySem.W.Frag) (n : Nat) (t : TGs) : TG:=fun v σ H Q=>∃ a xs,v = .ref a /\ SqT K H a xs /\ xs.length = n /\ t xs σ H Q
theorem z64 {es : List Expr} {k : Nat} {t : TGs} {n : Nat} (hc : X.calm = true) (h : PGs X es t)
  (hn : (assignEach es X.env).length = n:=by rfl) (hst : (assignEach es X.env).findIdx? (·.1) = none:=by rfl) : PG X (.Tuple es k pos) (z0o X.K n t):=by
 intro pins s σ H v u Q I r hw
 obtain ⟨a,xs,e1,hq,hl,hw⟩:=hw
 subst e1
 cases r
 obtain ⟨its,rv,ht,hz⟩:=I.tuple hq
 refine assign_Tuple_tuple (I.ok.hd hc) ht (by simp [hn,<- hl,rv.length]) hst fun h' hx=>?_
 have I1 : Inv X pins σ H { s with heap:=h' }:=I.kept (t':=s.toks) fun b o e=>hx b o (Nat.ne_of_lt (Heap.lt_size e)) e
 exact h pins _ σ H xs _ Q I1 (by simpa using rv) hw
noncomputable def zvu (to ti : TE) (t : zo3) : TG:=fun v σ H Q=>to σ H fun o H1=>ti σ H1 fun i H2=>t o i v H2 fun H3=>Q σ H3
theorem z38 {o i : Expr} {to ti : TE} {t : zo3} (ho : PE X o to) (hi : PE X i ti) (hs : zst X t)
  (ha : ∀ v,assign (.Subscript o i pos) X.env v = (do
   let ov <- holding [v] (eval o X.env)
   let iv <- holding [v,ov] (eval i X.env)
   standAt pos
   holding [v,ov,iv] (setItem ov iv v)
   release [v,ov,iv] []):=by intro _; rfl) : PG X (.Subscript o i pos) (zvu to ti t):=by
 intro pins s σ H v u Q I r h
 rw [ha]
 refine wpAny_bind (wpAny_holding (thn (ho pins s σ H _ I h) fun ov s1 ⟨x,H1,I1,r1,q1⟩=>?_))
 refine wpAny_bind (wpAny_holding (thn (hi pins s1 σ H1 _ I1 q1) fun iv s2 ⟨y,H2,I2,r2,q2⟩=>?_))
 refine wpAny_bind (wpAny_standAt (wpAny_bind (wpAny_holding (thn (hs pins s2 σ H2 x y v ov iv u _ I2 r1 r2 r q2) fun _ s3 ⟨H3,I3,q3⟩=>?_))))
 exact wpAny_release ⟨σ,H3,I3,q3⟩
noncomputable def ziu (te : TE) (g : TG) : TS:=fun D σ H=>te σ H fun x H1=>g x σ H1 D.nx
theorem zup {tg e : Expr} {te : TE} {g : TG} (he : PE X e te) (hg : PG X tg g) (hs : swapsWithSole [tg] e pos.line X.env = pure false:=by rfl) (hw : swappedStores [tg] e X.env = pure none:=by rfl)
  (h1 : (assignEach [tg] X.env).map (·.2) = [assign tg X.env]:=by rfl) : PS X (.Assign [tg] e pos) (ziu te g):=by
 intro pins s σ H D I h
 refine wpAny_Assign_stores (thn (he pins s σ H _ I h) fun v s1 ⟨x,H1,I1,r1,q1⟩=>?_) hs hw
 rw [h1]
 exact thn (hg pins s1 σ H1 x v _ I1 r1 q1) fun _ s2 q=>q
theorem zoe {i : Nat} {x : Str} {e : Expr} {te : TE} {pos' : Pos} (hN : X.N.Nodup) (hi : X.N[i]? = some x) (hx : Loc X.env.scope x) (he : PE X e te) (hs : swapsWith e (some (.Name x pos')) pos.line X.env = pure false:=by rfl) (hf : X.fn x = true \/ X.env.scope.names.lookup x = some .local:=by first | exact .inl rfl | exact .inr rfl | assumption) :
  PS X (.Assign [.Name x pos'] e pos) (ziu te (zhi i)):=by
 intro pins s σ H D I h
 refine wpAny_Assign_Name (thn (he pins s σ H _ I h) fun v s1 ⟨y,H1,I1,r1,q1⟩=>?_) hs
 exact zvx I1 hN hi hx r1 (fun s2 I2=>⟨_,H1,I2,q1⟩) hf
end
section
variable {X : Cx} {pos : Pos}
noncomputable def zyf (c : TT) (tb : TS) : TS:=fun D σ H=>∃ W : Nat -> St -> Hp -> Prop,(∃ m,W m σ H) /\ ∀ m σ H,W m σ H ->
 c σ H fun b H1=>if b = true then ∃ N : St -> Hp -> Prop,(∀ σ' H',N σ' H' -> ∃ m',m' < m /\ W m' σ' H') /\ tb { D with nx:=N,ct:=N,bk:=D.nx } σ H1 else D.nx σ H1
theorem z15 {c : Expr} {body : List Stmt} {tc : TT} {tb : TS} (hp : PassesOwn (model X.prog X.w) X.A X.env X.xe) (hc : PT X c tc) (hb : PSs X body tb) : PS X (.While c body [] pos) (zyf tc tb):=by
 intro pins s σ H D I h
 obtain ⟨W,⟨m0,w0⟩,turn⟩:=h
 refine wpAny_While (codeAny_whileLoop (fun n s'=>∃ σ' H',Inv X pins σ' H' s' /\ W n σ' H') ?_ m0 ⟨σ,H,I,w0⟩)
 rintro n s1 ⟨σ1,H1,I1,w1⟩
 refine wpAny_passesOwn hp (thn (hc pins s1 σ1 H1 _ I1 (turn n σ1 H1 w1)) fun b s2 ⟨H2,I2,q2⟩=>?_)
 cases b with
 | true =>
  obtain ⟨N,hN,q2⟩:=q2
  rw [if_pos rfl]
  refine wpAny_passesOwn hp (thn (hb pins s2 σ1 H2 _ I2 q2) fun f s3 q3=>?_)
  cases f with
  | next =>
   obtain ⟨σ3,H3,I3,n3⟩:=q3
   obtain ⟨m',hm,w3⟩:=hN σ3 H3 n3
   exact ⟨m',hm,σ3,H3,I3,w3⟩
  | cont =>
   obtain ⟨σ3,H3,I3,n3⟩:=q3
   obtain ⟨m',hm,w3⟩:=hN σ3 H3 n3
   exact ⟨m',hm,σ3,H3,I3,w3⟩
  | brk=>exact q3
  | ret v=>exact q3
 | false =>
  rw [if_neg Bool.false_ne_true]
  exact wpAny_execs_nil ⟨σ1,H2,I2,q2⟩
end
structure It where
 go : Nat -> Hp -> Prop
 yld : Nat -> Hp -> V -> Hp -> Prop
 stop : Nat -> Hp -> Prop
noncomputable def zfs (X : Cx) (pins : List (Addr × Obj)) (H : Hp) (b : Addr) : Prop :=
 H b = none /\ b ≠ X.env.locals /\ b ∉ X.fs /\ (b ∈ X.ex \/ X.s₀.heap.objs.size <= b) /\ (∀ x c,X.env.cells.lookup x = some c -> c ≠ b) /\ ∀ p ∈ X.pn ++ pins,p.1 ≠ b
theorem Inv.fpOk {X : Cx} {pins : List (Addr × Obj)} {σ : St} {H H' : Hp} {s : Shared} {b : Addr} (I : Inv X pins σ H s) (hb : s.heap.objs.size <= b) (hn : H' b = none) : zfs X pins H' b:=by
 refine ⟨hn,Nat.ne_of_gt (Nat.lt_of_lt_of_le I.lt hb),I.nofs hb,.inr (Nat.le_trans I.sz hb),fun x c e z=>?_,fun p hp z=>?_⟩
 ·obtain ⟨v,q⟩:=I.cell x c e
  exact absurd (Nat.lt_of_lt_of_le q.lt (by rw [z]; exact hb)) (Nat.lt_irrefl _)
 ·exact absurd (Nat.lt_of_lt_of_le (Heap.lt_size (I.pin p hp).1) (by rw [z]; exact hb)) (Nat.lt_irrefl _)
structure zid (P : Program) (w : World) (K : PySem.W.Frag) (tg : Expr) (J : It) (fp : List Addr) (it : Addr) (tn : Nat -> Heap -> Prop) : Prop where
 mem : it ∈ fp
 obj : ∀ i h,tn i h -> ∀ b ∈ fp,∃ o,h.get? b = some o /\ ∀ v,o.data ≠ .cell v
 keep : ∀ i h h',tn i h -> (∀ b ∈ fp,∀ o,h.get? b = some o -> h'.get? b = some o) -> tn i h'
 item : ∀ (X : Cx),X.prog = P -> X.w = w -> X.K = K -> X.calm = true -> ∀ (i : Nat) (pins : List (Addr × Obj)) (s : Shared) (σ : St) (H : Hp) (E : Value -> Shared -> Prop),Inv X pins σ H s -> (∀ b ∈ fp,zfs X pins H b) -> tn i s.heap -> J.go i H ->
  wpAny (model P w) X.A (pyNext (.ref it)) (fun r s1=>∃ u,r = some u /\
   wpAny (model P w) X.A (letOwnedTupleGo tg (.ref it) u) (fun _ s2=>∃ x H',Inv X pins σ H' s2 /\ za5 x u /\ J.yld i H x H' /\ tn (i + 1) s2.heap /\ ∀ b ∈ fp,H' b = none) E s1) E s
 done : ∀ (X : Cx),X.prog = P -> X.w = w -> X.K = K -> X.calm = true -> ∀ (i : Nat) (pins : List (Addr × Obj)) (s : Shared) (σ : St) (H : Hp) (E : Value -> Shared -> Prop),Inv X pins σ H s -> (∀ b ∈ fp,zfs X pins H b) -> tn i s.heap -> J.stop i H ->
  wpAny (model P w) X.A (pyNext (.ref it)) (fun r s1=>r = none /\ Inv X pins σ H s1) E s
 self : ∀ (A : Around) (i : Nat) (s : Shared) (Q : Value -> Shared -> Prop) (E : Value -> Shared -> Prop),tn i s.heap -> Q (.ref it) s -> wpAny (model P w) A (pyIter (.ref it)) Q E s
noncomputable abbrev TI:=St -> Hp -> (It -> Hp -> Prop) -> Prop
noncomputable def PIE (X : Cx) (pins : List (Addr × Obj)) (σ : St) (tg : Expr) (R : It -> Hp -> Prop) (itv : Value) (s2 : Shared) : Prop :=
 ∃ (it : Addr) (fp : List Addr) (tn : Nat -> Heap -> Prop) (J : It) (H' : Hp),itv = .ref it /\ Inv X pins σ H' s2 /\ zid X.prog X.w X.K tg J fp it tn /\ tn 0 s2.heap /\ (∀ b ∈ fp,zfs X pins H' b) /\ R J H'
noncomputable def PI (X : Cx) (tg iter : Expr) (wi : TI) : Prop :=
 ∀ (pins : List (Addr × Obj)) (s : Shared) (σ : St) (H : Hp) (R : It -> Hp -> Prop),Inv X pins σ H s -> wi σ H R ->
  wpAny (model X.prog X.w) X.A (eval iter X.env) (fun v s1=>wpAny (model X.prog X.w) X.A (pyIter v) (PIE X pins σ tg R) X.xe s1) X.xe s
theorem zrs {M : Model} {A : Around} {E : Value -> Shared -> Prop} {s : Shared} {tg : Expr} {it : Addr} {u : Value} {o : Obj} {n : String} {vs : Array Value} {Q : Unit -> Shared -> Prop} (ho : s.heap.get? it = some o) (hc : o.cls = .type n) (hd : o.data = .fields vs)
    (hn : ["enumerate", "zip", "dict_itemiterator", "dict_reverseitemiterator", "odict_iterator", "itertools.zip_longest", "itertools.pairwise"].contains n = false) (hQ : Q () s) : wpAny M A (letOwnedTupleGo tg (.ref it) u) Q E s := by
  unfold letOwnedTupleGo
  cases tg <;> first
    | exact wpAny_pure hQ
    | (cases u <;> first
        | exact wpAny_pure hQ
        | (refine wpAny_bind (wpAny_load ho ?_)
           rw [hc, hd]
           show wpAny M A (if (["enumerate", "zip", "dict_itemiterator", "dict_reverseitemiterator", "odict_iterator", "itertools.zip_longest", "itertools.pairwise"].contains n && vs[0]? == some (rawInt _)) = true then _ else _) Q E s
           rw [if_neg (by intro h; rw [hn, Bool.false_and] at h; cases h)]
           exact wpAny_pure hQ))
noncomputable def Itl (K : PySem.W.Frag) (a : Addr) : It :=
 ⟨fun i H=>∃ xs x,SqL K H a xs /\ xs[i]? = some x,fun i H x H'=>H' = H /\ ∀ xs,SqL K H a xs -> xs[i]? = some x,fun i H=>∃ xs,SqL K H a xs /\ xs.length <= i⟩
noncomputable def Itt (K : PySem.W.Frag) (a : Addr) : It :=
 ⟨fun i H=>∃ xs x,SqT K H a xs /\ xs[i]? = some x,fun i H x H'=>H' = H /\ ∀ xs,SqT K H a xs -> xs[i]? = some x,fun i H=>∃ xs,SqT K H a xs /\ xs.length <= i⟩
noncomputable def Itr (lo : Int) (n : Nat) : It:=⟨fun i _=>i < n,fun i H x H'=>H' = H /\ x = .int (lo + i),fun i _=>n <= i⟩
theorem zwu {P : Program} {w : World} {K : PySem.W.Frag} {tg : Expr} (a it : Addr) : zid P w K tg (Itl K a) [it] it (fun i h=>h.IsListIter it a i) where
 mem:=by simp
 obj:=fun i h st b hb=>by
  have e : b = it:=by simpa using hb
  subst e
  obtain ⟨o,e,c,d⟩:=st
  exact ⟨o,e,fun v z=>by rw [d] at z; cases z⟩
 keep:=fun i h h' st k=>st.at fun o e=>k it (by simp) o e
 item:=by
  intro X hP hw hK hc i pins s σ H E I hf st hg
  subst hP hw hK
  obtain ⟨xs,x,hq,hx⟩:=hg
  obtain ⟨its,rv,p,hz⟩:=I.list hq
  obtain ⟨u,hu,ru⟩:=rv.get hx
  obtain ⟨f0,f1,f2,f3,f4,f5⟩:=hf it (by simp)
  refine wpAny_pyNext_list_item st p.isList (x:=u) (by simpa using hu) fun h' st' sb=>?_
  have I1 : Inv X pins σ H { s with heap:=h' }:=I.turned (t':=s.toks) (fun b o hb e=>(sb.2 b hb).trans e) f0 f1 f3 f4 f5
  obtain ⟨o,e,c,d⟩:=id st'
  exact ⟨u,rfl,zrs (s:={ s with heap:=h' }) e c d (by decide) ⟨x,H,I1,ru,⟨rfl,fun ys hy=>by rw [I.list_inj hy hq]; exact hx⟩,st',fun b hb=>(hf b hb).1⟩⟩
 done:=by
  intro X hP hw hK hc i pins s σ H E I hf st hg
  subst hP hw hK
  obtain ⟨xs,hq,hx⟩:=hg
  obtain ⟨its,rv,p,hz⟩:=I.list hq
  obtain ⟨f0,f1,f2,f3,f4,f5⟩:=hf it (by simp)
  have hl:=rv.length
  exact wpAny_pyNext_list_end (I.ok.hd hc) st p.isList (by simp; omega) fun h' eb=>⟨rfl,I.turned (t':=s.toks) (fun b o hb e=>eb b o hb e) f0 f1 f3 f4 f5⟩
 self:=fun _ _ _ _ _ st h=>wpAny_pyIter_listiter st h
theorem z3p {P : Program} {w : World} {K : PySem.W.Frag} {tg : Expr} (a it : Addr) : zid P w K tg (Itt K a) [it] it (fun i h=>h.IsTupleIter it a i) where
 mem:=by simp
 obj:=fun i h st b hb=>by
  have e : b = it:=by simpa using hb
  subst e
  obtain ⟨o,e,c,d⟩:=st
  exact ⟨o,e,fun v z=>by rw [d] at z; cases z⟩
 keep:=fun i h h' st k=>st.at fun o e=>k it (by simp) o e
 item:=by
  intro X hP hw hK hc i pins s σ H E I hf st hg
  subst hP hw hK
  obtain ⟨xs,x,hq,hx⟩:=hg
  obtain ⟨its,rv,p,hz⟩:=I.tuple hq
  obtain ⟨u,hu,ru⟩:=rv.get hx
  obtain ⟨f0,f1,f2,f3,f4,f5⟩:=hf it (by simp)
  refine wpAny_pyNext_tuple_item st (show s.heap.IsTuple a its.toArray from p) (x:=u) (by simpa using hu) fun h' st' sb=>?_
  have I1 : Inv X pins σ H { s with heap:=h' }:=I.turned (t':=s.toks) (fun b o hb e=>(sb.2 b hb).trans e) f0 f1 f3 f4 f5
  obtain ⟨o,e,c,d⟩:=id st'
  exact ⟨u,rfl,zrs (s:={ s with heap:=h' }) e c d (by decide) ⟨x,H,I1,ru,⟨rfl,fun ys hy=>by rw [I.tuple_inj hy hq]; exact hx⟩,st',fun b hb=>(hf b hb).1⟩⟩
 done:=by
  intro X hP hw hK hc i pins s σ H E I hf st hg
  subst hP hw hK
  obtain ⟨xs,hq,hx⟩:=hg
  obtain ⟨its,rv,p,hz⟩:=I.tuple hq
  obtain ⟨f0,f1,f2,f3,f4,f5⟩:=hf it (by simp)
  have hl:=rv.length
  exact wpAny_pyNext_tuple_end (I.ok.hd hc) st (show s.heap.IsTuple a its.toArray from p) (by simp; omega) fun h' eb=>⟨rfl,I.turned (t':=s.toks) (fun b o hb e=>eb b o hb e) f0 f1 f3 f4 f5⟩
 self:=fun _ _ _ _ _ st h=>wpAny_pyIter_tupleiter st h
theorem zzh {P : Program} {w : World} {K : PySem.W.Frag} {tg : Expr} (it : Addr) (lo : Int) (n : Nat) : zid P w K tg (Itr lo n) [it] it (fun i h=>IsRangeIter h it (lo + (i : Nat) * 1) ((n : Int) - (i : Nat)) 1) where
 mem:=by simp
 obj:=fun i h st b hb=>by
  have e : b = it:=by simpa using hb
  subst e
  exact ⟨_,st,fun v z=>by
   have z' : Data.fields _ = Data.cell v:=z
   cases z'⟩
 keep:=fun i h h' st k=>k it (by simp) _ st
 item:=by
  intro X hP hw hK hc i pins s σ H E I hf st hg
  subst hP hw hK
  obtain ⟨f0,f1,f2,f3,f4,f5⟩:=hf it (by simp)
  have W:=Walks.range (prog:=X.prog) (w:=X.w) (I.ok.hd hc) it lo 1 n
  refine W.item i s _ _ hg st fun v h' tk hv st' kk=>?_
  obtain ⟨t,rfl⟩:=hv
  have I1 : Inv X pins σ H { s with heap:=h',toks:=tk }:=I.turned (fun b o hb e=>kk b o (by simpa using hb) e) f0 f1 f3 f4 f5
  refine ⟨_,rfl,zrs (s:={ s with heap:=h',toks:=tk }) (n:="range_iterator") st' rfl rfl (by decide) ⟨.int (lo + i),H,I1,⟨t,?_⟩,⟨rfl,rfl⟩,st',fun b hb=>(hf b hb).1⟩⟩
  rw [Int.mul_one]
 done:=by
  intro X hP hw hK hc i pins s σ H E I hf st hg
  subst hP hw hK
  obtain ⟨f0,f1,f2,f3,f4,f5⟩:=hf it (by simp)
  exact wpAny_pyNext_range_end (I.ok.hd hc) st (by have : n <= i:=hg; omega) fun h' eb=>⟨rfl,I.turned (t':=s.toks) (fun b o hb e=>eb b o hb e) f0 f1 f3 f4 f5⟩
 self:=fun _ _ _ _ _ st h=>wpAny_pyIter_rangeiter st h
section
variable {X : Cx} {tg : Expr}
noncomputable def z0g (K : PySem.W.Frag) (tl : TE) : TI:=fun σ H R=>tl σ H fun x H1=>∃ a,x = .ref a /\ (∃ xs,SqL K H1 a xs) /\ R (Itl K a) H1
noncomputable def z02 (K : PySem.W.Frag) (tl : TE) : TI:=fun σ H R=>tl σ H fun x H1=>∃ a,x = .ref a /\ (∃ xs,SqT K H1 a xs) /\ R (Itt K a) H1
theorem ztl {l : Expr} {tl : TE} (hl : PE X l tl) : PI X tg l (z0g X.K tl):=by
 intro pins s σ H R I h
 refine thn (hl pins s σ H _ I h) fun v s1 ⟨x,H1,I1,r1,q1⟩=>?_
 obtain ⟨a,e,⟨xs,hq⟩,q⟩:=q1
 subst e
 cases r1
 obtain ⟨its,rv,p,hz⟩:=I1.list hq
 refine wpAny_pyIter_list p.isList ?_
 refine ⟨s1.heap.objs.size,[s1.heap.objs.size],_,_,H1,rfl,I1.kept (t':=s1.toks) fun b o e=>Heap.get?_push_of_some _ e,zwu a _,⟨_,Heap.get?_push_size _ rfl,rfl,rfl⟩,fun b hb=>?_,q⟩
 have e : b = s1.heap.objs.size:=by simpa using hb
 subst e
 exact I1.fpOk (Nat.le_refl _) (I1.hok.fresh (Nat.le_refl _))
theorem z3c {l : Expr} {tl : TE} (hl : PE X l tl) : PI X tg l (z02 X.K tl):=by
 intro pins s σ H R I h
 refine thn (hl pins s σ H _ I h) fun v s1 ⟨x,H1,I1,r1,q1⟩=>?_
 obtain ⟨a,e,⟨xs,hq⟩,q⟩:=q1
 subst e
 cases r1
 obtain ⟨its,rv,p,hz⟩:=I1.tuple hq
 refine wpAny_pyIter_tuple (show s1.heap.IsTuple a its.toArray from p) ?_
 refine ⟨s1.heap.objs.size,[s1.heap.objs.size],_,_,H1,rfl,I1.kept (t':=s1.toks) fun b o e=>Heap.get?_push_of_some _ e,z3p a _,⟨_,Heap.get?_push_size _ rfl,rfl,rfl⟩,fun b hb=>?_,q⟩
 have e : b = s1.heap.objs.size:=by simpa using hb
 subst e
 exact I1.fpOk (Nat.le_refl _) (I1.hok.fresh (Nat.le_refl _))
theorem z3n {pins : List (Addr × Obj)} {σ : St} {H : Hp} {s : Shared} {R : It -> Hp -> Prop} {E : Value -> Shared -> Prop} {lo hi : Int} {t u v : Tok} {tk : Nat} (I : Inv X pins σ H s) (h1 : -(2 ^ 62) <= lo) (h2 : lo < 2 ^ 62) (h3 : -(2 ^ 62) <= hi) (h4 : hi < 2 ^ 62)
  (q : R (Itr lo (hi - lo).toNat) H) : wpAny (model X.prog X.w) X.A (pyIter (.ref s.heap.objs.size)) (PIE X pins σ tg R) E { s with heap:=s.heap.push { cls:=.type "range",data:=.fields #[.int lo t,.int hi u,.int 1 v] },toks:=tk }:=by
 refine wpAny_pyIter_range (IsRange.new ..) (small_one h1 h2 h3 h4) ?_
 have I1 : Inv X pins σ H { s with heap:=s.heap.push { cls:=.type "range",data:=.fields #[.int lo t,.int hi u,.int 1 v] },toks:=tk }:=I.kept fun b o e=>Heap.get?_push_of_some _ e
 refine ⟨(s.heap.push { cls:=.type "range",data:=.fields #[.int lo t,.int hi u,.int 1 v] }).objs.size,[(s.heap.push { cls:=.type "range",data:=.fields #[.int lo t,.int hi u,.int 1 v] }).objs.size],_,_,H,rfl,
  I1.kept (t':=tk) fun b o e=>Heap.get?_push_of_some _ e,zzh _ lo (hi - lo).toNat,?_,fun b hb=>?_,q⟩
 ·have e1 : lo + ((0 : Nat) : Int) * 1 = lo:=by simp
  have e2 : (((hi - lo).toNat : Nat) : Int) - ((0 : Nat) : Int) = Builtin.Range.rangeSize lo hi 1:=by rw [rangeSize_one]; split <;> omega
  show IsRangeIter _ _ (lo + ((0 : Nat) : Int) * 1) ((((hi - lo).toNat : Nat) : Int) - ((0 : Nat) : Int)) 1
  rw [e1,e2]
  exact Heap.get?_push_size _ rfl
 ·have e : b = (s.heap.push { cls:=.type "range",data:=.fields #[.int lo t,.int hi u,.int 1 v] }).objs.size:=by simpa using hb
  subst e
  exact I1.fpOk (Nat.le_refl _) (I1.hok.fresh (Nat.le_refl _))
noncomputable def z8k (ta : TA) : TI:=fun σ H R=>ta σ H fun vs H1=>∃ j : Int,vs = [.int j] /\ -(2 ^ 62) <= j /\ j < 2 ^ 62 /\ R (Itr 0 j.toNat) H1
theorem z0x {a : Expr} {ta : TA} {p pos : Pos} (hg : Gl X "range") (hm : X.mg "range" = none) (ha : PA X [a] ta) (hs : starEach [a] X.env = [(false,eval a X.env)]:=by rfl) : PI X tg (.Call (.Name "range" p) [a] [] pos) (z8k ta):=by
 intro pins s σ H R I h
 refine Call_ (zg9 I hg hm boot_range (PyProof.Rows.callWith_type1 (thn (ha pos pins s σ H _ I h) fun us s1 ⟨vs,H1,I1,r1,q1⟩=>?_) hs rfl))
 obtain ⟨j,e,q1,q2,q⟩:=q1
 subst e
 cases r1 with
 | cons r rr =>
  cases rr
  obtain ⟨t,rfl⟩:=r
  exact call_range_1 (z3n I1 (by omega) (by omega) q1 q2 (by simpa using q))
noncomputable def zy5 (wi : TI) (g : TG) (tb : TS) : TS:=fun D σ H=>wi σ H fun J H1=>∃ W : Nat -> Nat -> St -> Hp -> Prop,(∃ m,W 0 m σ H1) /\ ∀ i m σ H,W i m σ H ->
 (J.stop i H /\ D.nx σ H) \/ (J.go i H /\ ∃ N : St -> Hp -> Prop,(∀ σ' H',N σ' H' -> ∃ m',m' < m /\ W (i + 1) m' σ' H') /\ ∀ x H',J.yld i H x H' -> g x σ H' fun σ2 H2=>tb { D with nx:=N,ct:=N,bk:=D.nx } σ2 H2)
noncomputable def zmh (fp : List Addr) (h : Heap) : List (Addr × Obj):=fp.filterMap fun b=>(h.get? b).map fun o=>(b,o)
theorem zm7 {fp : List Addr} {h : Heap} {b : Addr} {o : Obj} (hb : b ∈ fp) (e : h.get? b = some o) : (b,o) ∈ zmh fp h:=List.mem_filterMap.mpr ⟨b,hb,by rw [e]; rfl⟩
theorem zxr {fp : List Addr} {h : Heap} {p : Addr × Obj} (hp : p ∈ zmh fp h) : p.1 ∈ fp /\ h.get? p.1 = some p.2:=by
 obtain ⟨b,hb,e⟩:=List.mem_filterMap.mp hp
 cases q : h.get? b with
 | none=>rw [q] at e; cases e
 | some o =>
  rw [q] at e
  have e' : (b,o) = p:=Option.some.inj e
  subst e'
  exact ⟨hb,q⟩
theorem Inv.pinned {pins : List (Addr × Obj)} {σ : St} {H : Hp} {s : Shared} {fp : List Addr} (I : Inv X pins σ H s) (hf : ∀ b ∈ fp,zfs X pins H b) (ho : ∀ b ∈ fp,∃ o,s.heap.get? b = some o /\ ∀ v,o.data ≠ .cell v) : Inv X (pins ++ zmh fp s.heap) σ H s :=
 I.pins_of fun p hp=>(List.mem_append.mp hp).elim (fun z=>I.pin p (List.mem_append_right _ z)) fun z=>by
  obtain ⟨hb,e⟩:=zxr z
  obtain ⟨f0,f1,f2,_⟩:=hf p.1 hb
  obtain ⟨o,e',d⟩:=ho p.1 hb
  rw [e] at e'; cases e'
  exact ⟨e,f0,f1,f2,d⟩
theorem Inv.unpinned {pins pl : List (Addr × Obj)} {σ : St} {H : Hp} {s : Shared} (I : Inv X (pins ++ pl) σ H s) : Inv X pins σ H s:=I.pins_of fun p hp=>I.pin p (List.mem_append_right _ (List.mem_append_left _ hp))
theorem z13 {iter : Expr} {body : List Stmt} {wi : TI} {g : TG} {tb : TS} {pos : Pos} (hp : PassesOwn (model X.prog X.w) X.A X.env X.xe) (hc : X.calm = true) (hi : PI X tg iter wi) (hg : PG X tg g) (hb : PSs X body tb)
  (hs : ∀ x,foldedSetIterable iter X.env x = pure x:=by intro _; rfl) : PS X (.For tg iter body [] pos) (zy5 wi g tb):=by
 intro pins s σ H D I h
 refine wpAny_For (thn (hi pins s σ H _ I h) fun v s1 h1=>thn h1 fun itv s2 h2=>?_) hs
 obtain ⟨it,fp,tn,J,H2,e,I2,T,st2,f2,W,⟨m0,w0⟩,turn⟩:=h2
 subst e
 have stat : ∀ {H' : Hp},(∀ b ∈ fp,H' b = none) -> ∀ b ∈ fp,zfs X pins H' b:=fun hn b hb=>⟨hn b hb,(f2 b hb).2⟩
 refine codeAny_forLoop_any (fun n s'=>∃ i σ' H',Inv X pins σ' H' s' /\ tn i s'.heap /\ (∀ b ∈ fp,H' b = none) /\ W i n σ' H') ?_ m0 ⟨0,σ,H2,I2,st2,fun b hb=>(f2 b hb).1,w0⟩
 rintro n s3 ⟨i,σ3,H3,I3,st3,fr3,w3⟩
 rcases turn i n σ3 H3 w3 with ⟨stop,qn⟩ | ⟨go,N,hN,step⟩
 ·refine wpAny_passesOwn hp (thn (T.done X rfl rfl rfl hc i pins s3 σ3 H3 X.xe I3 (stat fr3) st3 stop) fun r s4 ⟨hr,I4⟩=>?_)
  subst hr
  exact wpAny_execs_nil ⟨σ3,H3,I4,qn⟩
 ·refine wpAny_passesOwn hp (thn (T.item X rfl rfl rfl hc i pins s3 σ3 H3 X.xe I3 (stat fr3) st3 go) fun r s4 ⟨u,hr,h4⟩=>?_)
  subst hr
  refine wpAny_passesOwn hp (thn h4 fun _ s5 ⟨x,H5,I5,r5,y5,st5,fr5⟩=>?_)
  have I5':=I5.pinned (stat fr5) (T.obj _ _ st5)
  refine wpAny_passesOwn hp (thn (hg _ s5 σ3 H5 x u _ I5' r5 (step x H5 y5)) fun _ s6 ⟨σ6,H6,I6,q6⟩=>?_)
  refine wpAny_passesOwn hp (thn (hb _ s6 σ6 H6 _ I6 q6) fun f s7 q7=>?_)
  have again : ∀ {σ7 : St} {H7 : Hp},Inv X (pins ++ zmh fp s5.heap) σ7 H7 s7 -> N σ7 H7 -> ∃ m,m < n /\ ∃ i σ' H',Inv X pins σ' H' s7 /\ tn i s7.heap /\ (∀ b ∈ fp,H' b = none) /\ W i m σ' H':=fun {σ7 H7} I7 n7=>by
   obtain ⟨m',hm,w7⟩:=hN σ7 H7 n7
   refine ⟨m',hm,i + 1,σ7,H7,I7.unpinned,T.keep _ _ _ st5 fun b hb o e=>(I7.pin (b,o) (List.mem_append_right _ (List.mem_append_right _ (zm7 hb e)))).1,fun b hb=>?_,w7⟩
   obtain ⟨o,e,d⟩:=T.obj _ _ st5 b hb
   exact (I7.pin (b,o) (List.mem_append_right _ (List.mem_append_right _ (zm7 hb e)))).2.1
  cases f with
  | next=>obtain ⟨σ7,H7,I7,n7⟩:=q7; exact again I7 n7
  | cont=>obtain ⟨σ7,H7,I7,n7⟩:=q7; exact again I7 n7
  | brk=>obtain ⟨σ7,H7,I7,q7⟩:=q7; exact ⟨σ7,H7,I7.unpinned,q7⟩
  | ret v=>obtain ⟨x7,σ7,H7,I7,r7,q7⟩:=q7; exact ⟨x7,σ7,H7,I7.unpinned,r7,q7⟩
end
noncomputable abbrev R2:=V -> V -> Hp -> VK -> Prop
noncomputable def OpR (X : Cx) (f : Value -> Value -> Sem Value) (r : R2) : Prop :=
 ∀ (pins : List (Addr × Obj)) (s : Shared) (σ : St) (H : Hp) (x y : V) (v u : Value) (Q : VK),Inv X pins σ H s -> za5 x v -> za5 y u -> r x y H Q ->
  wpAny (model X.prog X.w) X.A (f v u) (EP X pins σ Q) X.xe s
noncomputable def UnR (X : Cx) (f : Value -> Sem Value) (r : V -> Hp -> VK -> Prop) : Prop :=
 ∀ (pins : List (Addr × Obj)) (s : Shared) (σ : St) (H : Hp) (x : V) (v : Value) (Q : VK),Inv X pins σ H s -> za5 x v -> r x H Q ->
  wpAny (model X.prog X.w) X.A (f v) (EP X pins σ Q) X.xe s
noncomputable def zga (X : Cx) (f : Value) (r : List V -> Hp -> VK -> Prop) : Prop :=
 ∀ (pins : List (Addr × Obj)) (s : Shared) (σ : St) (H : Hp) (xs : List V) (us : List Value) (Q : VK),Inv X pins σ H s -> za8 xs us -> r xs H Q ->
  wpAny (model X.prog X.w) X.A (call f us) (EP X pins σ Q) X.xe s
noncomputable def z5q (X : Cx) (r : V -> Hp -> (Bool -> Hp -> Prop) -> Prop) : Prop :=
 ∀ (pins : List (Addr × Obj)) (s : Shared) (σ : St) (H : Hp) (x : V) (v : Value) (Q : Bool -> Hp -> Prop),Inv X pins σ H s -> za5 x v -> r x H Q ->
  wpAny (model X.prog X.w) X.A (truthy v) (TP X pins σ Q) X.xe s
noncomputable def tOp (r : R2) (ta tb : TE) : TE:=fun σ H Q=>ta σ H fun x H1=>tb σ H1 fun y H2=>r x y H2 Q
noncomputable def tUn (r : V -> Hp -> VK -> Prop) (ta : TE) : TE:=fun σ H Q=>ta σ H fun x H1=>r x H1 Q
noncomputable def rI (C : Int -> Int -> Prop) (g : Int -> Int -> V) : R2:=fun x y H Q=>∃ i j,x = .int i /\ y = .int j /\ C i j /\ Q (g i j) H
noncomputable def rI0 (g : Int -> Int -> V) : R2:=fun x y H Q=>∃ i j,x = .int i /\ y = .int j /\ Q (g i j) H
noncomputable def rU (g : Int -> V) : V -> Hp -> VK -> Prop:=fun x H Q=>∃ i,x = .int i /\ Q (g i) H
section
variable {X : Cx} {a b c : Expr} {ta tb tc : TE} {pos : Pos}
theorem zow (ha : PE X a ta) (hb : PE X b tb) {pins : List (Addr × Obj)} {s : Shared} {σ : St} {H : Hp} {R : V -> V -> Hp -> Prop} (I : Inv X pins σ H s)
  (h : ta σ H fun x H1=>tb σ H1 fun y H2=>R x y H2) {Q : Value -> Shared -> Prop} {f : Value -> Value -> Sem Value}
  (hf : ∀ v u s2 x y H2,Inv X pins σ H2 s2 -> za5 x v -> za5 y u -> R x y H2 -> wpAny (model X.prog X.w) X.A (f v u) Q X.xe s2) :
  wpAny (model X.prog X.w) X.A (eval a X.env) (fun v s₁=>wpAny (model X.prog X.w) X.A (eval b X.env) (fun u s₂=>wpAny (model X.prog X.w) X.A (f v u) Q X.xe s₂) X.xe s₁) X.xe s:=by
 refine thn (ha pins s σ H _ I h) fun v s1 ⟨x,H1,I1,r1,q1⟩=>?_
 refine thn (hb pins s1 σ H1 _ I1 q1) fun u s2 ⟨y,H2,I2,r2,q2⟩=>?_
 exact hf v u s2 x y H2 I2 r1 r2 q2
theorem zvk {op : Operator} {r : R2} (ho : OpR X (binaryOp op) r) (ha : PE X a ta) (hb : PE X b tb) : PE X (.BinOp a op b pos) (tOp r ta tb):=by
 intro pins s σ H Q I h
 exact wpAny_BinOp (zow ha hb I h fun v u s2 x y H2 I2 rx ry q=>ho pins s2 σ H2 x y v u Q I2 rx ry q)
theorem zxq {op : UnaryOp} {r : V -> Hp -> VK -> Prop} (ho : UnR X (unaryOp op) r) (ha : PE X a ta) : PE X (.UnaryOp op a pos) (tUn r ta):=by
 intro pins s σ H Q I h
 exact UnaryOp_ (thn (ha pins s σ H _ I h) fun v s1 ⟨x,H1,I1,r1,q1⟩=>ho pins s1 σ H1 x v Q I1 r1 q1)
theorem opI {f : Value -> Value -> Sem Value} {C : Int -> Int -> Prop} {g : Int -> Int -> Int}
  (rule : ∀ (i j : Int) (t u : Tok) (s : Shared) (Q : Value -> Shared -> Prop) (E : Value -> Shared -> Prop),C i j -> Q (.int (g i j) s.toks) { s with toks:=s.toks + 1 } -> wpAny (model X.prog X.w) X.A (f (.int i t) (.int j u)) Q E s) :
  OpR X f (rI C fun i j=>.int (g i j)):=by
 intro pins s σ H x y v u Q I rx ry h
 obtain ⟨i,j,rfl,rfl,hc,q⟩:=h
 obtain ⟨t,rfl⟩:=rx
 obtain ⟨t',rfl⟩:=ry
 exact rule i j t t' s _ _ hc ⟨.int (g i j),H,I.tok _,⟨_,rfl⟩,q⟩
theorem zu7 {f : Value -> Value -> Sem Value} {g : Int -> Int -> Int}
  (rule : ∀ (i j : Int) (t u : Tok) (s : Shared) (Q : Value -> Shared -> Prop) (E : Value -> Shared -> Prop),Q (.int (g i j) s.toks) { s with toks:=s.toks + 1 } -> wpAny (model X.prog X.w) X.A (f (.int i t) (.int j u)) Q E s) :
  OpR X f (rI0 fun i j=>.int (g i j)):=by
 intro pins s σ H x y v u Q I rx ry h
 obtain ⟨i,j,rfl,rfl,q⟩:=h
 obtain ⟨t,rfl⟩:=rx
 obtain ⟨t',rfl⟩:=ry
 exact rule i j t t' s _ _ ⟨.int (g i j),H,I.tok _,⟨_,rfl⟩,q⟩
theorem znr {f : Value -> Value -> Sem Value} {g : Int -> Int -> Bool}
  (rule : ∀ (i j : Int) (t u : Tok) (s : Shared) (Q : Value -> Shared -> Prop) (E : Value -> Shared -> Prop),Q (.bool (g i j)) s -> wpAny (model X.prog X.w) X.A (f (.int i t) (.int j u)) Q E s) :
  OpR X f (rI0 fun i j=>.bl (g i j)):=by
 intro pins s σ H x y v u Q I rx ry h
 obtain ⟨i,j,rfl,rfl,q⟩:=h
 obtain ⟨t,rfl⟩:=rx
 obtain ⟨t',rfl⟩:=ry
 exact rule i j t t' s _ _ ⟨.bl (g i j),H,I,rfl,q⟩
noncomputable def zlx (i j : Int) : Prop:=0 < j /\ j < 1073741824
noncomputable def zkg (i j : Int) : Prop:=0 <= j /\ j <= 1000000 /\ i.natAbs < 2 ^ 64
noncomputable def zlv (i j : Int) : Prop:=(-(2 ^ 64) < i /\ i < 2 ^ 64) \/ (-(2 ^ 64) < j /\ j < 2 ^ 64)
theorem zlv.ok {i j : Int} (h : zlv i j) : IntMulOk i j:=by
 rcases h with ⟨h1,h2⟩ | ⟨h1,h2⟩
 ·exact .of_left (intBits_le_64 h1 h2)
 ·exact .of_right (intBits_le_64 h1 h2)
theorem z3j : OpR X (binaryOp .Add) (rI0 fun i j=>.int (i + j)):=zu7 fun _ _ _ _ _ _ _ q=>add_int q
theorem z1h : OpR X (binaryOp .Sub) (rI0 fun i j=>.int (i - j)):=zu7 fun _ _ _ _ _ _ _ q=>sub_int q
theorem z08 : OpR X (binaryOp .FloorDiv) (rI zlx fun i j=>.int (i / j)):=opI fun i j _ _ _ _ _ hc q=>by
 have h1 : (0 : Int) < j:=hc.1
 have h2 : j < 1073741824:=hc.2
 exact floordiv_int (by omega) (by rw [Int.fdiv_eq_ediv_of_nonneg i (by omega)]; exact q) (.inl (PyProof.noPylong_small (by omega)))
theorem z7f : OpR X (binaryOp .Mod) (rI (fun _ j=>0 < j) fun i j=>.int (i % j)):=opI fun i j _ _ _ _ _ hc q=>by
 have h1 : (0 : Int) < j:=hc
 exact mod_int' (by omega) (by rw [Int.fmod_eq_emod_of_nonneg i (by omega)]; exact q)
theorem z4w : OpR X (binaryOp .Pow) (rI zkg fun i j=>.int (i ^ j.toNat)):=opI fun _ _ _ _ _ _ _ hc q=>pow_int_small hc.1 hc.2.1 hc.2.2 q
theorem unI {f : Value -> Sem Value} {g : Int -> Int}
  (rule : ∀ (i : Int) (t : Tok) (s : Shared) (Q : Value -> Shared -> Prop) (E : Value -> Shared -> Prop),Q (.int (g i) s.toks) { s with toks:=s.toks + 1 } -> wpAny (model X.prog X.w) X.A (f (.int i t)) Q E s) :
  UnR X f (rU fun i=>.int (g i)):=by
 intro pins s σ H x v Q I rx h
 obtain ⟨i,rfl,q⟩:=h
 obtain ⟨t,rfl⟩:=rx
 exact rule i t s _ _ ⟨.int (g i),H,I.tok _,⟨_,rfl⟩,q⟩
theorem z1f : UnR X (unaryOp .USub) (rU fun i=>.int (-i)):=unI fun _ _ _ _ _ q=>neg_int q
end
noncomputable def zpv : V -> V -> Bool
 | .non,.non=>true | .non,.int _=>true | .int _,.non=>true | .non,.bl _=>true | .bl _,.non=>true | .non,.str _=>true | .str _,.non=>true
 | .int _,.int _=>true | .bl _,.bl _=>true | .str _,.str _=>true | .byt _,.byt _=>true
 | .int _,.str _=>true | .str _,.int _=>true | .bl _,.str _=>true | .str _,.bl _=>true
 | _,_=>false
noncomputable def rEq : R2:=fun x y H Q=>zpv x y = true /\ Q (.bl (decide (x = y))) H
noncomputable def rNe : R2:=fun x y H Q=>zpv x y = true /\ Q (.bl (!decide (x = y))) H
theorem zqk {i j : Int} : decide (V.int i = V.int j) = (i == j):=by
 rw [Bool.eq_iff_iff]
 simp
theorem zl4 {i j : Bool} : decide (V.bl i = V.bl j) = (i == j):=by
 rw [Bool.eq_iff_iff]
 simp
theorem zoq {i j : Str} : decide (V.str i = V.str j) = (i == j):=by
 rw [Bool.eq_iff_iff]
 simp
theorem zsp {i j : Array UInt8} : decide (V.byt i = V.byt j) = (i.toList == j.toList):=by
 rw [Bool.eq_iff_iff]
 cases i
 cases j
 simp
section
variable {X : Cx} {a b c : Expr} {ta tb tc : TE} {pos : Pos}
theorem zch {pins : List (Addr × Obj)} {σ : St} {H : Hp} {s : Shared} {Q : VK} {k k' : Bool} (I : Inv X pins σ H s) (q : Q (.bl k) H) (e : k = k') : EP X pins σ Q (.bool k') s:=by
 subst e
 exact ⟨.bl k,H,I,rfl,q⟩
theorem z09 : OpR X (compareOp .Eq) rEq:=by
 intro pins s σ H x y v u Q I rx ry h
 obtain ⟨hs,q⟩:=h
 cases x with
 | non =>
  cases rx
  cases y with
  | non=>cases ry; exact PySem.EqNone.eq_none_none (zch I q (by simp))
  | bl j=>cases ry; exact PySem.EqNone.eq_none_bool (zch I q (by simp))
  | int j=>obtain ⟨t',rfl⟩:=ry; exact PySem.EqNone.eq_none_int (zch I q (by simp))
  | str j=>obtain ⟨t',rfl⟩:=ry; exact PySem.EqNone.eq_none_str (zch I q (by simp))
  | _=>exact absurd (show false = true from hs) Bool.false_ne_true
 | bl i =>
  cases rx
  cases y with
  | non=>cases ry; exact PySem.EqNone.eq_bool_none (zch I q (by simp))
  | bl j=>cases ry; exact eq_bool (zch I q zl4)
  | str j=>obtain ⟨t',rfl⟩:=ry; exact PySem.EqMixed.eq_bool_str (zch I q (by simp))
  | _=>exact absurd (show false = true from hs) Bool.false_ne_true
 | int i =>
  obtain ⟨t,rfl⟩:=rx
  cases y with
  | non=>cases ry; exact PySem.EqNone.eq_int_none (zch I q (by simp))
  | int j=>obtain ⟨t',rfl⟩:=ry; exact eq_int (zch I q zqk)
  | str j=>obtain ⟨t',rfl⟩:=ry; exact PySem.EqMixed.eq_int_str (zch I q (by simp))
  | _=>exact absurd (show false = true from hs) Bool.false_ne_true
 | str i =>
  obtain ⟨t,rfl⟩:=rx
  cases y with
  | non=>cases ry; exact PySem.EqNone.eq_str_none (zch I q (by simp))
  | bl j=>cases ry; exact PySem.EqMixed.eq_str_bool (zch I q (by simp))
  | int j=>obtain ⟨t',rfl⟩:=ry; exact PySem.EqMixed.eq_str_int (zch I q (by simp))
  | str j=>obtain ⟨t',rfl⟩:=ry; exact eq_str (zch I q zoq)
  | _=>exact absurd (show false = true from hs) Bool.false_ne_true
 | byt i =>
  obtain ⟨t,rfl⟩:=rx
  cases y with
  | byt j=>obtain ⟨t',rfl⟩:=ry; exact PySem.W.eq_bytes (zch I q zsp)
  | _=>exact absurd (show false = true from hs) Bool.false_ne_true
 | _=>cases y <;> exact absurd (show false = true from hs) Bool.false_ne_true
theorem zwl : OpR X (compareOp .NotEq) rNe:=by
 intro pins s σ H x y v u Q I rx ry h
 obtain ⟨hs,q⟩:=h
 cases x with
 | non =>
  cases rx
  cases y with
  | non=>cases ry; exact PySem.EqNone.ne_none_none (zch I q (by simp))
  | bl j=>cases ry; exact PySem.EqNone.ne_none_bool (zch I q (by simp))
  | int j=>obtain ⟨t',rfl⟩:=ry; exact PySem.EqNone.ne_none_int (zch I q (by simp))
  | str j=>obtain ⟨t',rfl⟩:=ry; exact PySem.EqNone.ne_none_str (zch I q (by simp))
  | _=>exact absurd (show false = true from hs) Bool.false_ne_true
 | bl i =>
  cases rx
  cases y with
  | non=>cases ry; exact PySem.EqNone.ne_bool_none (zch I q (by simp))
  | bl j=>cases ry; exact ne_bool (zch I q (congrArg not zl4))
  | str j=>obtain ⟨t',rfl⟩:=ry; exact PySem.EqMixed.ne_bool_str (zch I q (by simp))
  | _=>exact absurd (show false = true from hs) Bool.false_ne_true
 | int i =>
  obtain ⟨t,rfl⟩:=rx
  cases y with
  | non=>cases ry; exact PySem.EqNone.ne_int_none (zch I q (by simp))
  | int j=>obtain ⟨t',rfl⟩:=ry; exact ne_int (zch I q (congrArg not zqk))
  | str j=>obtain ⟨t',rfl⟩:=ry; exact PySem.EqMixed.ne_int_str (zch I q (by simp))
  | _=>exact absurd (show false = true from hs) Bool.false_ne_true
 | str i =>
  obtain ⟨t,rfl⟩:=rx
  cases y with
  | non=>cases ry; exact PySem.EqNone.ne_str_none (zch I q (by simp))
  | bl j=>cases ry; exact PySem.EqMixed.ne_str_bool (zch I q (by simp))
  | int j=>obtain ⟨t',rfl⟩:=ry; exact PySem.EqMixed.ne_str_int (zch I q (by simp))
  | str j=>obtain ⟨t',rfl⟩:=ry; exact ne_str (zch I q (congrArg not zoq))
  | _=>exact absurd (show false = true from hs) Bool.false_ne_true
 | byt i =>
  obtain ⟨t,rfl⟩:=rx
  cases y with
  | byt j=>obtain ⟨t',rfl⟩:=ry; exact PySem.W.ne_bytes (zch I q (congrArg not zsp))
  | _=>exact absurd (show false = true from hs) Bool.false_ne_true
 | _=>cases y <;> exact absurd (show false = true from hs) Bool.false_ne_true
theorem z5v : OpR X (compareOp .Lt) (rI0 fun i j=>.bl (decide (i < j))):=znr fun _ _ _ _ _ _ _ q=>lt_int q
theorem z25 : OpR X (compareOp .LtE) (rI0 fun i j=>.bl (decide (i <= j))):=znr fun _ _ _ _ _ _ _ q=>le_int q
theorem zx3 : OpR X (compareOp .Gt) (rI0 fun i j=>.bl (decide (j < i))):=znr fun _ _ _ _ _ _ _ q=>gt_int q
theorem z88 : OpR X (compareOp .GtE) (rI0 fun i j=>.bl (decide (j <= i))):=znr fun _ _ _ _ _ _ _ q=>ge_int q
theorem zwp : OpR X (compareOp .Is) (fun x y H Q=>y = .non /\ Q (.bl (decide (x = .non))) H):=by
 intro pins s σ H x y v u Q I rx ry h
 obtain ⟨rfl,q⟩:=h
 cases ry
 refine is_none_gen (zch I q ?_)
 cases x <;> first
  | (cases rx; rfl)
  | (obtain ⟨t,rfl⟩:=rx; rfl)
theorem z68 : OpR X (compareOp .IsNot) (fun x y H Q=>y = .non /\ Q (.bl (!decide (x = .non))) H):=by
 intro pins s σ H x y v u Q I rx ry h
 obtain ⟨rfl,q⟩:=h
 cases ry
 refine isnot_none_gen (zch I q ?_)
 cases x <;> first
  | (cases rx; rfl)
  | (obtain ⟨t,rfl⟩:=rx; rfl)
theorem zs3 (b : Expr) {op : CmpOp} (h : op ≠ .In:=by decide) (h2 : op ≠ .NotIn:=by decide) : behindInMarks op b = false:=by
 have e1 : (op == CmpOp.In) = false:=by cases op <;> first | rfl | exact absurd rfl h
 have e2 : (op == CmpOp.NotIn) = false:=by cases op <;> first | rfl | exact absurd rfl h2
 cases b <;> simp [behindInMarks,e1,e2]
theorem zya {op : CmpOp} {r : R2} (ho : OpR X (compareOp op) r) (ha : PE X a ta) (hb : PE X b tb) (hm : behindInMarks op b = false) : PE X (.Compare a [op] [b] pos) (tOp r ta tb):=by
 intro pins s σ H Q I h
 exact wpAny_Compare1 (zow ha hb I h fun v u s2 x y H2 I2 rx ry q=>ho pins s2 σ H2 x y v u Q I2 rx ry q) hm
noncomputable def z05 (t : TE) : TT:=fun σ H Q=>t σ H fun x H'=>∃ k,x = .bl k /\ Q k H'
theorem z5l {op : CmpOp} {r : R2} (ho : OpR X (compareOp op) r) (ha : PE X a ta) (hb : PE X b tb) (hm : behindInMarks op b = false) : PT X (.Compare a [op] [b] pos) (z05 (tOp r ta tb)):=by
 intro pins s σ H Q I h
 refine wpAny_isTrue_Compare1 (thn (ha pins s σ H _ I h) fun v s1 ⟨x,H1,I1,r1,q1⟩=>thn (hb pins s1 σ H1 _ I1 q1) fun u s2 ⟨y,H2,I2,r2,q2⟩ =>
  thn (ho pins s2 σ H2 x y v u _ I2 r1 r2 q2) fun c s3 ⟨z,H3,I3,r3,k,e,q3⟩=>?_) hm
 subst e
 cases r3
 exact wpAny_truthy_bool ⟨H3,I3,q3⟩
noncomputable def z2t (r r' : R2) (ta tb tc : TE) : TE:=fun σ H Q=>ta σ H fun x H1=>tb σ H1 fun y H2=>r x y H2 fun z H3=>∃ k,z = .bl k /\
 (if k = true then tc σ H3 fun w' H4=>r' y w' H4 Q else Q (.bl false) H3)
theorem zyd {op op' : CmpOp} {r r' : R2} (ho : OpR X (compareOp op) r) (ho' : OpR X (compareOp op') r') (ha : PE X a ta) (hb : PE X b tb) (hc : PE X c tc)
  (hm : lastMarks [op,op'] [b,c] = false:=by with_unfolding_all rfl) : PE X (.Compare a [op,op'] [b,c] pos) (z2t r r' ta tb tc):=by
 intro pins s σ H Q I h
 refine Compare_chain (thn (ha pins s σ H _ I h) fun v s1 ⟨x,H1,I1,r1,q1⟩=>chain_link (thn (hb pins s1 σ H1 _ I1 q1) fun u s2 ⟨y,H2,I2,r2,q2⟩ =>
  thn (ho pins s2 σ H2 x y v u _ I2 r1 r2 q2) fun d s3 ⟨z,H3,I3,r3,k,e,q3⟩=>?_)) hm
 subst e
 cases r3
 refine wpAny_truthy_bool ?_
 cases k with
 | false=>exact ite_ff ⟨.bl false,H3,I3,rfl,q3⟩
 | true=>exact ite_tt (chain_last (thn (hc pins s3 σ H3 _ I3 q3) fun w' s4 ⟨z',H4,I4,r4,q4⟩=>ho' pins s4 σ H4 y z' u w' Q I4 r2 r4 q4))
noncomputable def zq1 (K : PySem.W.Frag) (x : V) (H : Hp) (k : Bool) : Prop :=
 match x with
 | .non=>k = false
 | .bl b=>k = b
 | .int i=>k = (i != 0)
 | .str y=>y.length <= sizeLine /\ k = ((y.length : Int) != 0)
 | .byt y=>y.size <= sizeLine /\ k = ((y.size : Int) != 0)
 | .ref p=>(∃ xs,SqL K H p xs /\ k = !xs.isEmpty) \/ (∃ xs,SqT K H p xs /\ k = !xs.isEmpty) \/ ∃ kvs,H p = some (.dK kvs) /\ k = !kvs.isEmpty
 | _=>False
theorem z0v {κ : Type} {kvs : List (κ × V)} {vs : List (κ × Value)} (r : KV kvs vs) : (!vs.isEmpty) = !kvs.isEmpty:=by
 cases r <;> rfl
theorem ztt {xs : List V} {its : List Value} (r : za8 xs its) : (!its.toArray.isEmpty) = !xs.isEmpty:=by
 cases r <;> simp
theorem zk8 : (sizeLine : Nat) < 2 ^ 63:=by rw [sizeLine_eq]; decide
theorem zz6 : z5q X (fun x H Q=>∃ k,zq1 X.K x H k /\ Q k H):=by
 intro pins s σ H x v Q I rx h
 obtain ⟨k,e,q⟩:=h
 have hl:=zk8
 have hs : sizeLine = 16777216:=sizeLine_eq
 cases x with
 | non =>
  cases rx
  have e' : k = false:=e
  subst e'
  exact truthy_none ⟨H,I,q⟩
 | bl b =>
  cases rx
  have e' : k = b:=e
  subst e'
  exact wpAny_truthy_bool ⟨H,I,q⟩
 | int i =>
  obtain ⟨t,rfl⟩:=rx
  have e' : k = (i != 0):=e
  subst e'
  exact PySem.P.truthy_int ⟨H,I,q⟩
 | str y =>
  obtain ⟨t,rfl⟩:=rx
  obtain ⟨hy,e'⟩ : y.length <= sizeLine /\ k = ((y.length : Int) != 0):=e
  subst e'
  exact PySem.P.truthy_str (by omega) ⟨H,I.tok _,q⟩
 | byt y =>
  obtain ⟨t,rfl⟩:=rx
  obtain ⟨hy,e'⟩ : y.size <= sizeLine /\ k = ((y.size : Int) != 0):=e
  subst e'
  exact PySem.W.truthy_bytes (by omega) ⟨H,I.tok _,q⟩
 | ref p =>
  cases rx
  have e' : (∃ xs,SqL X.K H p xs /\ k = !xs.isEmpty) \/ (∃ xs,SqT X.K H p xs /\ k = !xs.isEmpty) \/ ∃ kvs,H p = some (.dK kvs) /\ k = !kvs.isEmpty:=e
  rcases e' with ⟨xs,hx,e'⟩ | ⟨xs,hx,e'⟩ | ⟨kvs,hx,e'⟩
  ·subst e'
   obtain ⟨its,r,pl,hz⟩:=I.list hx
   have hlen:=r.length
   exact wpAny_truthy_list pl.isList (by simp only [List.size_toArray]; omega) ⟨H,I.tok _,by rw [ztt r]; exact q⟩
  ·subst e'
   obtain ⟨its,r,pl,hz⟩:=I.tuple hx
   have hlen:=r.length
   exact truthy_tuple pl (by simp only [List.size_toArray]; omega) ⟨H,I.tok _,by rw [ztt r]; exact q⟩
  ·subst e'
   obtain ⟨hz,hS,vs,r,m⟩ : kvs.length <= sizeLine /\ (p == sysModules) = false /\ ∃ vs,KV kvs vs /\ s.heap.DictOf (zef X.prog X.w) p vs:=I.hok p _ hx
   have hlen : kvs.length = vs.length:=Paired.length r
   exact wpAny_truthy_dict hS m (by omega) ⟨H,I.tok _,by rw [z0v r]; exact q⟩
 | _=>exact (show False from e).elim
theorem zxg (ha : PE X a ta) (he : ∀ whole,isTrue a X.env whole = (do let v <- whole; standAt a.pos; holding [v] (truthy v))) :
  PT X a (fun σ H Q=>ta σ H fun x H'=>∃ k,zq1 X.K x H' k /\ Q k H'):=by
 intro pins s σ H Q I h
 exact isTrue_plain (thn (ha pins s σ H _ I h) fun v s1 ⟨x,H1,I1,r1,q1⟩=>zz6 pins s1 σ H1 x v Q I1 r1 q1) (he _)
theorem z6i : OpR X (binaryOp .Add) (fun x y H Q=>∃ i j,x = .str i /\ y = .str j /\ i.length + j.length <= sizeLine /\ Q (.str (i ++ j)) H):=by
 intro pins s σ H x y v u Q I rx ry h
 obtain ⟨i,j,rfl,rfl,hz,q⟩:=h
 obtain ⟨t,rfl⟩:=rx
 obtain ⟨t',rfl⟩:=ry
 exact add_str (fun t' tk=>⟨.str (i ++ j),H,I.tok _,⟨_,rfl⟩,q⟩) hz
theorem zh0 {x : V} {us : List Value} (r : za8 [x] us) : ∃ u,us = [u] /\ za5 x u:=by
 cases r with
 | cons r1 r2=>cases r2; exact ⟨_,rfl,r1⟩
theorem zzf {x y : V} {us : List Value} (r : za8 [x,y] us) : ∃ u w',us = [u,w'] /\ za5 x u /\ za5 y w':=by
 cases r with
 | cons r1 r2 =>
  cases r2 with
  | cons r3 r4=>cases r4; exact ⟨_,_,rfl,r1,r3⟩
end
structure ziv (h : Heap) (x dx C : Addr) (mA : Str -> Option Value) : Prop where
 obj : h.get? x = some (PySem.W.instObj C dx)
 ns : h.Ns1 dx mA
 ne : dx ≠ x
theorem z78 {h : Heap} {dx : Addr} {mA : Str -> Option Value} (n : h.Ns1 dx mA) : ∃ od,h.get? dx = some od /\ ∀ name,PySem.W.lookIn name od = some (mA name):=by
 obtain ⟨o,es,ep,ho,hd,hk,_,hm⟩:=n
 refine ⟨o,ho,fun name=>?_⟩
 have e:=hm name
 unfold nsFind findBy at e
 rw [<- Array.find?_toList] at e
 unfold PySem.W.lookIn
 rw [hd]
 dsimp only
 split
 ·rename_i y q
  rw [q] at e
  exact congrArg some e
 ·rename_i q
  rw [q] at e
  have a : es.toList.any (·.refKey) = false:=by
   rw [List.any_eq_false]
   intro y hy
   obtain ⟨z,t,hkey⟩:=hk y (Array.mem_toList_iff.mp hy)
   simp [DictEntry.refKey,hkey]
  have a' : ¬ es.toList.any (·.refKey) = true:=by rw [a]; exact Bool.false_ne_true
  rw [if_neg a']
  exact congrArg some e
theorem ziv.look {h : Heap} {x dx C : Addr} {mA : Str -> Option Value} (I : ziv h x dx C mA) : ∃ od,PySem.W.InstAt h x (PySem.W.instObj C dx) C (some od) /\ ∀ name,PySem.W.lookIn name od = some (mA name) :=
 let ⟨od,ho,hl⟩:=z78 I.ns
 ⟨od,⟨I.obj,rfl,rfl,ho⟩,hl⟩
section
variable {prog : Program} {w : World} {A : Around} {E : Value -> Shared -> Prop} {s : Shared} {K : PySem.W.Frag} {x dx C f : Addr} {mA : Str -> Option Value} {name : Str} {v : Value}
theorem zz4 {expr : Bool} {Q : Value -> Shared -> Prop} (X : K.In s.heap) (I : ziv s.heap x dx C mA) (hg : PySem.W.plainGet K C name = true) (hh : PySem.W.hasDictIn K C = true)
  (ha : PySem.W.findIn K (.ref C) name = some none) (hv : mA name = some v) (hv' : PySem.W.handedIn v = true) (h : Q v { s with toks:=s.toks + 1 }) :
  wpAny (model prog w) A (getAttr (.ref x) name expr) Q E s:=by
 obtain ⟨od,J,hl⟩:=I.look
 exact PySem.W.get_value X J (PySem.W.plainGet_of hg).1 (PySem.W.findObj_own hh ha rfl (by rw [hl,hv])) hv' h
theorem z2m {pl : Sem Bool} {Q : Value × List Value -> Shared -> Prop} (X : K.In s.heap) (I : ziv s.heap x dx C mA) (hg : PySem.W.plainGet K C name = true)
  (hf : PySem.W.findIn K (.ref C) name = some (some (.ref f))) (ht : PySem.W.isFn K (.ref f) = true) (hv : mA name = none) (h : Q (.ref f,[.ref x]) s) :
  wpAny (model prog w) A (getMethod (.ref x) name pl) Q E s:=by
 obtain ⟨od,J,hl⟩:=I.look
 exact PySem.W.method_fn X J (PySem.W.plainGet_of hg).1 (PySem.W.plainGet_of hg).2 hf (beq_iff_eq.mp ht) (by show (PySem.W.lookIn name od).map (·.isSome) = some false; rw [hl,hv]; rfl) h
theorem z33 {ns : List Str} {Q : Unit -> Shared -> Prop} (X : K.In s.heap) (I : ziv s.heap x dx C mA)
  (hs : PySem.W.findIn K (.ref C) "__setattr__" = some (some (.builtin "object.__setattr__"))) (hp : PySem.W.plainOver K C = true) (ht : PySem.W.takerIn K C name = some none) (hh : PySem.W.hasDictIn K C = true)
  (hw : PySem.Within mA ns) (hsz : ns.length <= sizeLine)
  (h : ∀ h',ziv h' x dx C (fun y=>if y = name then some v else mA y) -> Heap.SameBut dx s.heap h' -> Q () { s with heap:=h',toks:=s.toks + 2 }) :
  wpAny (model prog w) A (setAttr (.ref x) name v) Q E s:=by
 obtain ⟨od,J,hl⟩:=I.look
 refine PySem.W.set_plain X J hs (PySem.W.osa_open (s:={ s with toks:=s.toks + 1 }) (r:=none) X J hp ht fun b=>?_)
 obtain ⟨cd,hc,hd'⟩:=PySem.W.any_some hh
 have hx : s.heap.get? x = some ⟨.ref C,some dx,.plain,#[]⟩:=I.obj
 refine wpAny_bind (wpAny_pure (wpAny_bind (wpAny_bind (wpAny_loadPart hx (wpAny_bind (PySem.W.Looks.here (s:={ s with toks:=s.toks + 1 }) (PySem.W.looks_clsIn X hc) ?_))))))
 rw [hd']
 refine wpAny_pure (a:=some dx) (wpAny_bind (wpAny_pure (wpAny_bind ?_)))
 refine wpAny_nsSet1 (s:={ s with toks:=s.toks + 1 }) I.ns fun h' hn2 hs2=>?_
 obtain ⟨oD,esD,epD,hoD,hdD,hcD⟩:=hn2.count (PySem.Within.cons name v hw)
 refine wpAny_bind (wpAny_lookBehind hoD (by rw [hdD]; exact pastItsLine_dict (Nat.le_trans hcD (by rw [List.length_cons]; omega))) ?_)
 exact wpAny_pure (h _ ⟨(hs2.2 _ (Ne.symm I.ne)).trans I.obj,hn2,I.ne⟩ hs2)
theorem z2z {R : Result -> Shared -> Prop} {vs : List Value} {kw : List (Str × Value)} (X : K.In s.heap) (hm : PySem.W.makesIn K C = true)
  (hi : PySem.W.findIn K (.ref C) "__init__" = some (some (.ref f))) (hf : PySem.W.typeIn K (.ref f) = some (.type "function"))
  (h : codeAny (model prog w) (A.under (.builtin "type.__call__" ⟨.ref C :: vs,kw⟩)) (.call (.ref f) ⟨.ref (s.heap.objs.size + 1) :: vs,kw⟩) (PySem.W.InitBack (s.heap.objs.size + 1) R)
   { s with heap:=(s.heap.push PySem.W.emptyDict).push (PySem.W.instObj C s.heap.objs.size) }) :
  codeAny (model prog w) A (.call (.ref C) ⟨vs,kw⟩) R s:=by
 obtain ⟨hh,g,d,t,os⟩:=s
 exact PySem.W.make_core (PySem.W.makes_of X hm) (PySem.W.looks_findIn X hi) (fun self=>PySem.W.bind_fn X self hf) (.inl rfl) h
end
noncomputable def zdz (f : Str) (v : V) : List (Str × V) -> List (Str × V)
 | []=>[(f,v)]
 | (g,x) :: r=>if g = f then (g,v) :: r else (g,x) :: zdz f v r
theorem zu0 (f g : Str) (v : V) : ∀ fs : List (Str × V),(zdz f v fs).lookup g = if g = f then some v else fs.lookup g
 | []=>by
  show List.lookup g [(f,v)] = _
  by_cases h : g = f
  ·have hb : (g == f) = true:=beq_iff_eq.mpr h
   simp only [List.lookup,hb,if_pos h]
  ·have hb : (g == f) = false:=beq_eq_false_iff_ne.mpr h
   simp only [List.lookup,hb,if_neg h]
 | (k,x) :: r=>by
  have ih:=zu0 f g v r
  rw [show zdz f v ((k,x) :: r) = (if k = f then (k,v) :: r else (k,x) :: zdz f v r) from rfl]
  by_cases hk : k = f
  ·rw [if_pos hk]
   by_cases h : g = k
   ·have hb : (g == k) = true:=beq_iff_eq.mpr h
    simp only [List.lookup,hb,if_pos (h.trans hk)]
   ·have hb : (g == k) = false:=beq_eq_false_iff_ne.mpr h
    simp only [List.lookup,hb,if_neg (fun e : g = f=>h (e.trans hk.symm))]
  ·rw [if_neg hk]
   by_cases h : g = k
   ·have hb : (g == k) = true:=beq_iff_eq.mpr h
    simp only [List.lookup,hb,if_neg (fun e : g = f=>hk (h.symm.trans e))]
   ·have hb : (g == k) = false:=beq_eq_false_iff_ne.mpr h
    simp only [List.lookup,hb]
    exact ih
theorem zre (f : Str) (v : V) : ∀ fs : List (Str × V),f ∈ (zdz f v fs).map (·.1) /\ ∀ g,g ∈ fs.map (·.1) -> g ∈ (zdz f v fs).map (·.1)
 | []=>⟨by simp [zdz],fun g h=>by simp at h⟩
 | (k,x) :: r=>by
  obtain ⟨i1,i2⟩:=zre f v r
  rw [show zdz f v ((k,x) :: r) = (if k = f then (k,v) :: r else (k,x) :: zdz f v r) from rfl]
  by_cases hk : k = f
  ·rw [if_pos hk]
   subst hk
   exact ⟨by simp,fun g h=>by simpa using h⟩
  ·rw [if_neg hk]
   refine ⟨?_,fun g h=>?_⟩
   ·rw [List.map_cons]
    exact List.mem_cons_of_mem _ i1
   ·rw [List.map_cons] at h ⊢
    rcases List.mem_cons.mp h with e | e
    ·exact List.mem_cons.mpr (.inl e)
    ·exact List.mem_cons_of_mem _ (i2 g e)
theorem zum (f : Str) (v : V) : ∀ fs : List (Str × V),(zdz f v fs).length <= fs.length + 1
 | []=>by simp [zdz]
 | (k,x) :: r=>by
  have ih:=zum f v r
  rw [show zdz f v ((k,x) :: r) = (if k = f then (k,v) :: r else (k,x) :: zdz f v r) from rfl]
  by_cases hk : k = f
  ·rw [if_pos hk,List.length_cons,List.length_cons]; omega
  ·rw [if_neg hk,List.length_cons,List.length_cons]; omega
theorem zei.some_of {v : V} {o : Option Value} (r : zei (some v) o) : ∃ u,o = some u /\ za5 v u:=by
 cases o with
 | none=>exact (show False from r).elim
 | some u=>exact ⟨u,rfl,r⟩
theorem zei.none_of {o : Option Value} (r : zei none o) : o = none:=by
 cases o with
 | none=>rfl
 | some u=>exact (show False from r).elim
theorem z26 {v : V} {u : Value} (r : za5 v u) : PySem.W.handedIn u = true:=by
 cases v with
 | non=>cases (show u = Value.none from r); rfl
 | bl b=>cases (show u = Value.bool b from r); rfl
 | int i=>obtain ⟨t,e⟩:=(show ∃ t,u = Value.int i t from r); cases e; rfl
 | str x=>obtain ⟨t,e⟩:=(show ∃ t,u = Value.str x t from r); cases e; rfl
 | byt b=>obtain ⟨t,e⟩:=(show ∃ t,u = Value.bytes b t from r); cases e; rfl
 | flt b=>obtain ⟨t,e⟩:=(show ∃ t,u = Value.float b t from r); cases e; rfl
 | ref a=>cases (show u = Value.ref a from r); rfl
 | ty n=>cases (show u = Value.type n from r); rfl
section
variable {P : Program} {w : World} {H H' : Hp} {h h' : Heap} {a C dx : Addr} {fs fs' : List (Str × V)}
theorem zm9 (hok : HOk P w H h) (e : H a = some (.ins C dx fs)) : ∃ mA,ziv h a dx C mA /\ (∀ f,zei (fs.lookup f) (mA f)) /\ PySem.Within mA (fs.map (·.1)) /\ fs.length <= 1000 /\ H dx = some (.own a):=by
 obtain ⟨d,z,ne,ob,mA,n,r,q⟩:=(show zcw P w H h a (.ins C dx fs) from hok a _ e)
 exact ⟨mA,⟨ob,n,ne⟩,r,q,z,d⟩
end
structure Cls (K : PySem.W.Frag) (C : Addr) : Prop where
 pg : PySem.W.plainGet K C Str.empty = true
 hd : PySem.W.hasDictIn K C = true
 po : PySem.W.plainOver K C = true
 sa : PySem.W.findIn K (.ref C) "__setattr__" = some (some (.builtin "object.__setattr__"))
theorem Cls.get {K : PySem.W.Frag} {C : Addr} (c : Cls K C) (f : Str) : PySem.W.plainGet K C f = true:=c.pg
noncomputable def zdo (K : PySem.W.Frag) (C : Addr) (f : Str) : Prop:=PySem.W.findIn K (.ref C) f = some none
theorem zdo.taker {K : PySem.W.Frag} {C : Addr} {f : Str} (n : zdo K C f) : PySem.W.takerIn K C f = some none:=by
 unfold PySem.W.takerIn
 rw [show PySem.W.findIn K (.ref C) f = some none from n]
 rfl
structure zd1 (K : PySem.W.Frag) (C : Addr) (m : Str) (f : Addr) : Prop where
 at_ : PySem.W.findIn K (.ref C) m = some (some (.ref f))
 fn : PySem.W.isFn K (.ref f) = true
 kp : PySem.W.keepIn K (.ref f) = true
section
variable {X : Cx} {pins : List (Addr × Obj)} {σ : St} {H : Hp} {s : Shared} {a C dx : Addr} {fs : List (Str × V)} {f : Str} {v : V} {A : Around} {E : Value -> Shared -> Prop}
theorem zze {b : Bool} {Q : Value -> Shared -> Prop} (I : Inv X pins σ H s) (e : H a = some (.ins C dx fs)) (c : Cls X.K C) (n : zdo X.K C f) (l : fs.lookup f = some v)
  (h : ∀ u s',Inv X pins σ H s' -> za5 v u -> Q u s') : wpAny (model X.prog X.w) A (getAttr (.ref a) f b) Q E s:=by
 obtain ⟨mA,O,r,_,_,_⟩:=zm9 I.hok e
 obtain ⟨u,hu,ru⟩:=zei.some_of (v:=v) (o:=mA f) (by rw [<- l]; exact r f)
 exact zz4 I.kIn O (c.get f) c.hd n hu (z26 ru) (h u _ (I.tok _) ru)
theorem zxm {m : Str} {g : Addr} {pl : Sem Bool} {Q : Value × List Value -> Shared -> Prop} (I : Inv X pins σ H s) (e : H a = some (.ins C dx fs)) (c : Cls X.K C) (k : zd1 X.K C m g) (l : fs.lookup m = none)
  (h : Q (.ref g,[.ref a]) s) : wpAny (model X.prog X.w) A (getMethod (.ref a) m pl) Q E s:=by
 obtain ⟨mA,O,r,_,_,_⟩:=zm9 I.hok e
 have hn : mA m = none:=zei.none_of (by rw [<- l]; exact r m)
 exact z2m I.kIn O (c.get m) k.at_ k.fn hn h
theorem z4x {y : V} {u : Value} {Q : Unit -> Shared -> Prop} (I : Inv X pins σ H s) (e : H a = some (.ins C dx fs)) (c : Cls X.K C) (n : zdo X.K C f) (hl : fs.length < 1000) (ry : za5 y u)
  (h : ∀ s',Inv X pins σ (upd H a (.ins C dx (zdz f y fs))) s' -> Q () s') : wpAny (model X.prog X.w) A (setAttr (.ref a) f u) Q E s:=by
 obtain ⟨mA,O,r,wi,_,ho⟩:=zm9 I.hok e
 have hz : (fs.map (·.1)).length <= sizeLine:=by rw [List.length_map,sizeLine_eq]; omega
 refine z33 I.kIn O c.sa c.po n.taker c.hd wi hz fun h' O' sb=>h _ ?_
 have hd : ∃ o,h'.get? dx = some o:=let ⟨o,_,_,e',_⟩:=O'.ns; ⟨o,e'⟩
 refine I.write (x:=a) (e:=dx) (by rw [e]; exact True.intro) (.inr ho) (fun b q hb z=>(sb.2 b hb).trans z) hd ?_
 refine ⟨by rw [zb1 O.ne]; exact ho,?_,O.ne,O'.obj,_,O'.ns,fun g=>?_,fun g hg=>?_⟩
 ·have:=zum f y fs; omega
 ·show zei ((zdz f y fs).lookup g) (if g = f then some u else mA g)
  rw [zu0]
  by_cases q : g = f
  ·rw [if_pos q,if_pos q]; exact ry
  ·rw [if_neg q,if_neg q]; exact r g
 ·by_cases q : g = f
  ·rw [q]; exact (zre f y fs).1
  ·refine (zre f y fs).2 g (wi g fun z=>hg ?_)
   show (if g = f then some u else mA g) = none
   rw [if_neg q]; exact z
theorem Inv.made (I : Inv X pins σ H s) : Inv X pins σ (upd (upd H s.heap.objs.size (.own (s.heap.objs.size + 1))) (s.heap.objs.size + 1) (.ins C s.heap.objs.size []))
  { s with heap:=(s.heap.push PySem.W.emptyDict).push (PySem.W.instObj C s.heap.objs.size) }:=by
 have e1 : (s.heap.push PySem.W.emptyDict).get? s.heap.objs.size = some PySem.W.emptyDict:=Heap.get?_push_size s.heap rfl
 have e2 : ((s.heap.push PySem.W.emptyDict).push (PySem.W.instObj C s.heap.objs.size)).get? (s.heap.objs.size + 1) = some (PySem.W.instObj C s.heap.objs.size):=by
  have:=Heap.get?_push_size (s.heap.push PySem.W.emptyDict) (o:=PySem.W.instObj C s.heap.objs.size) rfl
  rwa [Heap.size_push] at this
 have e3 : (s.heap.push PySem.W.emptyDict).Ns s.heap.objs.size (fun _=>none):=⟨PySem.W.emptyDict,#[],_,e1,rfl,(fun e he=>absurd he (by simp)),fun _=>rfl⟩
 have I1:=I.laid (a:=s.heap.objs.size) (o:=.own (s.heap.objs.size + 1)) (h':=s.heap.push PySem.W.emptyDict) (t':=s.toks) (fun b u q=>Heap.get?_push_of_some _ q) (Nat.le_refl _) ⟨_,e1⟩
 refine I1.laid (a:=s.heap.objs.size + 1) (o:=.ins C s.heap.objs.size []) (t':=s.toks) (fun b u q=>Heap.get?_push_of_some _ q) (Nat.le_of_eq (Heap.size_push _ _)) ?_
 have ne : s.heap.objs.size ≠ s.heap.objs.size + 1:=Nat.ne_of_lt (Nat.lt_succ_self _)
 refine ⟨by rw [zb1 ne,zcg],Nat.zero_le _,ne,e2,fun _=>none,(Heap.Ns1.of_empty e3).at fun o q=>Heap.get?_push_of_some _ q,fun _=>True.intro,fun y hy=>absurd rfl hy⟩
theorem z0e {prog : Program} {w : World} {env : Env} {e : Expr} {f : Str} {pos : Pos} {s : Shared} {Q : Value -> Shared -> Prop} (hb : attributeBase e f env (eval e env) = eval e env)
  (h : wpAny (model prog w) A (eval e env) (fun o s₁=>wpAny (model prog w) A (getAttr o f true) Q E s₁) E s) : wpAny (model prog w) A (eval (.Attribute e f pos) env) Q E s :=
 Attribute_any_ h (by rw [arm_eval_Attribute,hb])
end
noncomputable def z9f (K : PySem.W.Frag) (ta : TE) (f : Str) : TE:=fun σ H Q=>ta σ H fun x H1=>∃ a C dx fs v,x = .ref a /\ H1 a = some (.ins C dx fs) /\ Cls K C /\ zdo K C f /\ fs.lookup f = some v /\ Q v H1
noncomputable def zw8 (K : PySem.W.Frag) (ta tv : TE) (f : Str) : TS:=fun D σ H=>tv σ H fun y H1=>ta σ H1 fun x H2=>∃ a C dx fs,x = .ref a /\ H2 a = some (.ins C dx fs) /\ Cls K C /\ zdo K C f /\ fs.length < 1000 /\
 D.nx σ (upd H2 a (.ins C dx (zdz f y fs)))
section
variable {X : Cx} {o e value : Expr} {f : Str} {pos pos' tpos : Pos} {ta tv : TE}
theorem z5h (he : PE X e ta) (hb : attributeBase e f X.env (eval e X.env) = eval e X.env) : PE X (.Attribute e f pos) (z9f X.K ta f):=by
 intro pins s σ H Q I h
 refine z0e hb (thn (he pins s σ H _ I h) fun u s1 ⟨x,H1,I1,rx,a,C,dx,fs,v,ex,ea,c,n,l,q⟩=>?_)
 subst ex
 obtain rfl : u = Value.ref a:=rx
 exact zze I1 ea c n l fun u' s2 I2 ru=>⟨v,H1,I2,ru,q⟩
theorem z7b (ha : PE X o ta) (hv : PE X value tv) (hs : swapsWith value (some (.Attribute o f pos')) pos.line X.env = pure false) : PS X (.Assign [.Attribute o f pos'] value pos) (zw8 X.K ta tv f):=by
 intro pins s σ H D I h
 refine plainObj_wpAny_Assign_Attribute (thn (hv pins s σ H _ I h) fun u s1 ⟨y,H1,I1,ry,q⟩=>thn (ha pins s1 σ H1 _ I1 q) fun ov s2 ⟨x,H2,I2,rx,a,C,dx,fs,ex,ea,c,n,l,q2⟩=>?_) hs
 subst ex
 obtain rfl : ov = Value.ref a:=rx
 exact z4x I2 ea c n l ry fun s3 I3=>⟨σ,_,I3,q2⟩
end
section
variable {X : Cx} {pins : List (Addr × Obj)} {σ : St} {H : Hp} {s : Shared} {A : Around} {E : Value -> Shared -> Prop} {Q : Value -> Shared -> Prop} {c : Value} {b : Bool}
inductive ze2 (K : PySem.W.Frag) (H : Hp) : V -> Value -> Prop where
 | non : ze2 K H .non (.type "NoneType")
 | bl (x : Bool) : ze2 K H (.bl x) (.type "bool")
 | int (i : Int) : ze2 K H (.int i) (.type "int")
 | str (x : Str) : ze2 K H (.str x) (.type "str")
 | flt (x : UInt64) : ze2 K H (.flt x) (.type "float")
 | lst {a : Addr} {xs : List V} (e : H a = some (.lst xs)) : ze2 K H (.ref a) (.type "list")
 | frz {a : Addr} {o : Obj} {xs : List V} (e : H a = some (.frz o (.lst xs))) : ze2 K H (.ref a) (.type "list")
 | tup {a : Addr} {xs : List V} (e : H a = some (.tup xs)) : ze2 K H (.ref a) (.type "tuple")
 | dK {a : Addr} {kvs : List (Key × V)} (e : H a = some (.dK kvs)) : ze2 K H (.ref a) (.type "dict")
 | dT {a : Addr} {kvs : List (List Key × V)} (e : H a = some (.dT kvs)) : ze2 K H (.ref a) (.type "dict")
 | ins {a C dx : Addr} {fs : List (Str × V)} (e : H a = some (.ins C dx fs)) (cl : Cls K C) (ha : PySem.W.findIn K (.ref C) "__class__" = some (some (.builtin "object.__class__")))
   (hn : PySem.W.specialIn K (.builtin "object.__class__") "__get__" = some (some (.builtin "getset_descriptor.__get__"))) (htk : PySem.W.takesIn K (.builtin "object.__class__") = some true)
   (hm : PySem.W.mroIn K C (.type "object") = some true) : ze2 K H (.ref a) (.ref C)
theorem z2l {x : V} {u t : Value} (I : Inv X pins σ H s) (rx : za5 x u) (ty : ze2 X.K H x t) (e : PySem.W.kitOne X.K t c = some b) (h : ∀ tk,Q (.bool b) { s with toks:=tk }) :
  wpAny (model X.prog X.w) A (call (.builtin "isinstance") [u,c]) Q E s:=by
 cases ty with
 | non=>cases (show u = Value.none from rx); exact PySem.W.kia_one PySem.W.kitx_none I.kIn True.intro e (fun z=>nomatch z) h
 | bl y=>cases (show u = Value.bool y from rx); exact PySem.W.kia_one PySem.W.kitx_bool I.kIn True.intro e (fun z=>nomatch z) h
 | int i=>obtain ⟨t,q⟩:=(show ∃ t,u = Value.int i t from rx); cases q; exact PySem.W.kia_one PySem.W.kitx_int I.kIn True.intro e (fun z=>nomatch z) h
 | str y=>obtain ⟨t,q⟩:=(show ∃ t,u = Value.str y t from rx); cases q; exact PySem.W.kia_one PySem.W.kitx_str I.kIn True.intro e (fun z=>nomatch z) h
 | flt y=>obtain ⟨t,q⟩:=(show ∃ t,u = Value.float y t from rx); cases q; exact PySem.W.kia_one PySem.W.kitx_float I.kIn True.intro e (fun z=>nomatch z) h
 | @lst a xs ea =>
  cases (show u = Value.ref a from rx)
  obtain ⟨_,_,n,_,h1⟩:=(show zcw X.prog X.w H s.heap a (.lst xs) from I.hok a _ ea)
  exact PySem.W.kia_one PySem.W.kitx_list I.kIn ⟨_,h1,rfl⟩ e (fun z=>nomatch z) h
 | @frz a ob xs ea =>
  cases (show u = Value.ref a from rx)
  obtain ⟨_,_,_,n,_,h1⟩:=(show zcw X.prog X.w H s.heap a (.frz ob (.lst xs)) from I.hok a _ ea)
  exact PySem.W.kia_one PySem.W.kitx_list I.kIn ⟨_,h1,rfl⟩ e (fun z=>nomatch z) h
 | @tup a xs ea =>
  cases (show u = Value.ref a from rx)
  obtain ⟨_,_,_,p⟩:=(show zcw X.prog X.w H s.heap a (.tup xs) from I.hok a _ ea)
  obtain ⟨o,h1,h2,_⟩:=p
  exact PySem.W.kia_one PySem.W.kitx_tuple I.kIn ⟨o,h1,h2⟩ e (fun z=>nomatch z) h
 | @dK a kvs ea =>
  cases (show u = Value.ref a from rx)
  obtain ⟨_,_,vs,_,p⟩:=(show zcw X.prog X.w H s.heap a (.dK kvs) from I.hok a _ ea)
  obtain ⟨o,es,ep,h1,h2,_⟩:=p
  exact PySem.W.kia_one PySem.W.kitx_dict I.kIn ⟨o,h1,h2.1⟩ e (fun z=>nomatch z) h
 | @dT a kvs ea =>
  cases (show u = Value.ref a from rx)
  obtain ⟨_,_,xs,_,o,es,ep,h1,h2,_⟩:=(show zcw X.prog X.w H s.heap a (.dT kvs) from I.hok a _ ea)
  exact PySem.W.kia_one PySem.W.kitx_dict I.kIn ⟨o,h1,h2.1⟩ e (fun z=>nomatch z) h
 | @ins a C dx fs ea cl ha hn htk hm =>
  cases (show u = Value.ref a from rx)
  obtain ⟨mA,O,_⟩:=zm9 I.hok ea
  obtain ⟨od,J,_⟩:=O.look
  exact PySem.W.kia_one (PySem.W.kitx_own (cl.get _) cl.hd ha hn htk hm) I.kIn J e (fun z=>nomatch z) h
end
structure zcf (k : Nat) (A : Around) : Prop where
 hd : A.handled = none
 dp : A.depth + 3 * k + 5 < recursionLimit
 un : A.units + 16 * k + 200 < cLine
theorem zcf.mono {j k : Nat} {A : Around} (r : zcf k A) (h : j <= k) : zcf j A:=⟨r.hd,by have:=r.dp; omega,by have:=r.un; omega⟩
theorem zcf.deeper {k : Nat} {A : Around} (r : zcf (k + 1) A) (env : Env) : zcf k (A.deeper env) :=
 ⟨r.hd,by have:=r.dp; show A.depth + 1 + 3 * k + 5 < _; omega,by have:=r.un; show A.units + 3 + 16 * k + 200 < _; omega⟩
theorem z4a {A : Around} {C : Addr} {us : List Value} {kw : List (Str × Value)} : (A.under (.builtin "type.__call__" ⟨.ref C :: us,kw⟩)).depth = A.depth + 1:=by
 first | rfl | simp [Around.under,Code.weight,Code.isCreation,Code.isGuard,Code.isCaller,Code.frames,Code.isFrame,guardIds]
theorem z6h {A : Around} {C : Addr} {us : List Value} {kw : List (Str × Value)} : (A.under (.builtin "type.__call__" ⟨.ref C :: us,kw⟩)).units = A.units + 1:=by
 first | rfl | simp [Around.under,Code.cUnits,Code.frames,Code.isFrame]
theorem zcf.make {k : Nat} {A : Around} (r : zcf (k + 1) A) (C : Addr) (us : List Value) (kw : List (Str × Value)) : zcf k (A.under (.builtin "type.__call__" ⟨.ref C :: us,kw⟩)) :=
 ⟨r.hd,by have:=r.dp; rw [z4a]; omega,by have:=r.un; rw [z6h]; omega⟩
theorem zcf.depth {k : Nat} {A : Around} (r : zcf k A) : A.depth < recursionLimit:=by have:=r.dp; omega
theorem zcf.units {k : Nat} {A : Around} (r : zcf k A) : A.units + 64 < cLine:=by have:=r.un; omega
noncomputable def zm3 : TA:=fun _ H Q=>Q [] H
noncomputable def zms (ta : TE) (tr : TA) : TA:=fun σ H Q=>ta σ H fun x H1=>tr σ H1 fun xs H2=>Q (x :: xs) H2
section
variable {X : Cx} {e : Expr} {es : List Expr} {te : TE} {t : TA} {pos : Pos}
theorem zd8 : PA X [] zm3:=fun _ _ _ _ H Q I h=>Calls.spliced_nil ⟨[],H,I,.nil,h⟩
theorem zdl (ha : PE X e te) (hr : PA X es t) (hs : starEach (e :: es) X.env = (false,eval e X.env) :: starEach es X.env:=by rfl) : PA X (e :: es) (zms te t):=by
 intro pos pins s σ H Q I h
 rw [hs]
 show wpAny _ _ (spliced ((false,eval e X.env) :: backTo pos (starEach es X.env))) _ _ s
 refine Calls.spliced_cons (thn (ha pins s σ H _ I h) fun u s1 ⟨x,H1,I1,r1,q1⟩=>?_)
 exact thn (hr pos pins s1 σ H1 _ I1 q1) fun us s2 ⟨xs,H2,I2,r2,q2⟩=>⟨x :: xs,H2,I2,.cons r1 r2,q2⟩
noncomputable def z51 (t : TA) : TE:=fun σ H Q=>t σ H fun xs H1=>xs.length <= sizeLine /\ ∀ p,H1 p = none -> Q (.ref p) (upd H1 p (.tup xs))
noncomputable def z4s (t : TA) : TE:=fun σ H Q=>t σ H fun xs H1=>xs.length <= sizeLine /\ ∀ p,H1 p = none -> Q (.ref p) (upd H1 p (.lst xs))
theorem zx5 {x1} (h : PA X es t) : PE X (.Tuple es x1 pos) (z51 t):=by
 intro pins s σ H Q I hq
 refine wpAny_Tuple_spliced (thn (h pos pins s σ H _ I hq) fun us s1 ⟨xs,H1,I1,r,z,q⟩=>⟨by rw [<- r.length]; exact z,?_⟩)
 have hf : H1 s1.heap.objs.size = none:=I1.hok.fresh (Nat.le_refl _)
 refine ⟨.ref s1.heap.objs.size,upd H1 s1.heap.objs.size (.tup xs),I1.laid (t':=s1.toks) (fun b u e=>Heap.get?_push_of_some _ e) (Nat.le_refl _) ?_,rfl,q _ hf⟩
 exact ⟨z,us,r,⟨_,Heap.get?_push_size _ rfl,rfl,_,rfl⟩⟩
theorem zvt (h : PA X es t) : PE X (.List es pos) (z4s t):=by
 intro pins s σ H Q I hq
 refine wpAny_List_spliced (thn (h pos pins s σ H _ I hq) fun us s1 ⟨xs,H1,I1,r,z,q⟩=>⟨by rw [<- r.length]; exact z,?_⟩)
 have hf : H1 s1.heap.objs.size = none:=I1.hok.fresh (Nat.le_refl _)
 refine ⟨.ref s1.heap.objs.size,upd H1 s1.heap.objs.size (.lst xs),I1.laid (t':=s1.toks) (fun b u e=>Heap.get?_push_of_some _ e) (Nat.le_refl _) ?_,rfl,q _ hf⟩
 exact ⟨z,us,0,r,Heap.get?_push_size _ rfl⟩
end
noncomputable abbrev Sp:=List V -> Hp -> VK -> XK -> Prop
noncomputable abbrev CXT:=List Env -> Hp -> Shared -> XK -> Value -> Shared -> Prop
structure zib (P : Program) (w : World) (K : PySem.W.Frag) (mg : Str -> Option Value) (base : Heap) (A : Around) (outer : List Env) (s : Shared) (H : Hp) : Prop where
 frames : A.frames = some outer
 mod : Mod K mg base
 bs : ∀ b o,base.get? b = some o -> s.heap.get? b = some o /\ H b = none
 bsz : base.objs.size <= s.heap.objs.size
 funs : s.heap.FunFrames base outer
 frf : ∀ b ∈ frs outer,H b = none
 hok : HOk P w H s.heap
 bare : AllBare s.gens
noncomputable def CE (outer : List Env) (P : Program) (w : World) (H : Hp) (s : Shared) (Q : VK) (u : Value) (s' : Shared) : Prop :=
 ∃ v H',s'.os = s.os /\ AllBare s'.gens /\ Un (frs outer) [] H H' s.heap s'.heap /\ HOk P w H' s'.heap /\ za5 v u /\ Q v H'
noncomputable def CR (CX : CXT) (outer : List Env) (P : Program) (w : World) (H : Hp) (s : Shared) (Q : VK) (E : XK) (r : Result) (s' : Shared) : Prop :=
 match r with
 | .ok (.ret u)=>CE outer P w H s Q u s'
 | .ok _=>False
 | .error e=>CX outer H s E e s'
structure zax (P : Program) (w : World) (K : PySem.W.Frag) (mg : Str -> Option Value) (base : Heap) (CX : CXT) (k : Nat) (f : Addr) (fd : FuncData) (ps : List Str) (sp : Sp) : Prop where
 len : ∀ vs H Q E,sp vs H Q E -> vs.length = ps.length
 run : ∀ (A : Around) (outer : List Env) (s : Shared) (H : Hp) (args : Args) (us : List Value) (vs : List V) (Q : VK) (E : XK),zcf k A -> zib P w K mg base A outer s H -> BindsTo s fd args (ps.zip us) -> za8 vs us -> sp vs H Q E ->
  codeAny (model P w) A (.call (.ref f) args) (CR CX outer P w H s Q E) s
theorem zax.imp {P : Program} {w : World} {K : PySem.W.Frag} {mg : Str -> Option Value} {base : Heap} {CX : CXT} {k : Nat} {f : Addr} {fd : FuncData} {ps : List Str} {sp sp' : Sp} (F : zax P w K mg base CX k f fd ps sp)
  (h : ∀ vs H Q E,sp' vs H Q E -> sp vs H Q E) : zax P w K mg base CX k f fd ps sp' :=
 ⟨fun vs H Q E q=>F.len vs H Q E (h _ _ _ _ q),fun A outer s H args us vs Q E hr he hb hv hs=>F.run A outer s H args us vs Q E hr he hb hv (h _ _ _ _ hs)⟩
theorem zib.make {P : Program} {w : World} {K : PySem.W.Frag} {mg : Str -> Option Value} {base : Heap} {A : Around} {outer : List Env} {s : Shared} {H : Hp} (e : zib P w K mg base A outer s H) (C : Addr) (us : List Value) (kw : List (Str × Value)) :
  zib P w K mg base (A.under (.builtin "type.__call__" ⟨.ref C :: us,kw⟩)) outer s H:=⟨by first | exact e.frames | (simpa [Around.under,Code.envs,Code.isFrame,pushEnvs] using e.frames),e.mod,e.bs,e.bsz,e.funs,e.frf,e.hok,e.bare⟩
section
variable {X : Cx} {pins : List (Addr × Obj)} {σ : St} {H : Hp} {s s' : Shared}
theorem Inv.env0 (I : Inv X pins σ H s) : zib X.prog X.w X.K X.mg X.base X.A X.stack s H :=
 ⟨I.ok.frames,I.ok.mod,I.bs,Nat.le_trans I.ok.bsz I.sz,I.stack,I.stkFree,I.hok,I.bare⟩
theorem Inv.after {Q : VK} {u : Value} (I : Inv X pins σ H s) (h : CE X.stack X.prog X.w H s Q u s') : EP X pins σ Q u s':=by
 obtain ⟨v,H',os,bare,un,hok,r,q⟩:=h
 obtain ⟨hh,g,d,t,os'⟩:=s'
 obtain rfl : os' = s.os:=os
 exact ⟨v,H',I.call (h':=hh) (g':=g) (d':=d) (t':=t) (ch:=[]) un hok bare (fun b z=>absurd z (by simp)),r,q⟩
end
noncomputable def zxz (sp : Sp) (dvs : List V) (E : XK) (t : TA) : TE:=fun σ H Q=>t σ H fun vs H1=>sp (vs ++ dvs) H1 Q E
noncomputable def z1z (C : Addr) (m : Str) (sp : Sp) (dvs : List V) (E : XK) (ta : TE) (t : TA) : TE:=fun σ H Q=>ta σ H fun x H1=>∃ a dx fs,x = .ref a /\ H1 a = some (.ins C dx fs) /\ fs.lookup m = none /\
 t σ H1 fun vs H2=>sp (x :: (vs ++ dvs)) H2 Q E
noncomputable def zys (C : Addr) (sp : Sp) (dvs : List V) (E : XK) (t : TA) : TE:=fun σ H Q=>t σ H fun vs H1=>∀ x dx,H1 x = none -> H1 dx = none -> dx ≠ x ->
 sp (.ref x :: (vs ++ dvs)) (upd (upd H1 dx (.own x)) x (.ins C dx [])) (fun v H2=>v = .non /\ Q (.ref x) H2) E
noncomputable def za2 (K : PySem.W.Frag) (fd : FuncData) (ps : List Str) (ds : List Value) : Prop :=
 ∀ (s : Shared) (us : List Value),K.In s.heap -> (us ++ ds).length = ps.length -> BindsTo s fd ⟨us,[]⟩ (ps.zip (us ++ ds))
theorem za2.all {K : PySem.W.Frag} {fd : FuncData} {ps : List Str} (h : ∀ us : List Value,us.length = ps.length -> bindArgs fd ⟨us,[]⟩ = pure (ps.zip us)) : za2 K fd ps []:=fun s us _ hl=>by
 rw [List.append_nil] at hl ⊢
 exact .of_eq (h us hl)
noncomputable def zj4 (CX : CXT) (X : Cx) (E : XK) : Prop:=∀ (pins : List (Addr × Obj)) (σ : St) (H : Hp) (s : Shared) (e : Value) (s' : Shared),Inv X pins σ H s -> CX X.stack H s E e s' -> X.xe e s'
section
variable {X : Cx} {CX : CXT} {k : Nat} {f C : Addr} {fd : FuncData} {ps : List Str} {sp : Sp} {dvs : List V} {ds : List Value} {E : XK} {x m : Str} {p pos apos : Pos} {e o : Expr} {es : List Expr} {ta : TE} {t : TA}
theorem zta {pins : List (Addr × Obj)} {σ : St} {H : Hp} {s : Shared} {Q : VK} {us : List Value} {vs : List V} (F : zax X.prog X.w X.K X.mg X.base CX k f fd ps sp) (hr : zcf k X.A) (hb : za2 X.K fd ps ds) (hd : za8 dvs ds) (hx : zj4 CX X E)
  (I : Inv X pins σ H s) (r : za8 vs us) (h : sp (vs ++ dvs) H Q E) : wpAny (model X.prog X.w) X.A (call (.ref f) us) (EP X pins σ Q) X.xe s:=by
 have r2 : za8 (vs ++ dvs) (us ++ ds):=r.append hd
 have hl : (us ++ ds).length = ps.length:=by rw [<- r2.length]; exact F.len _ _ _ _ h
 refine wpAny_call (codeAny_mono (F.run X.A X.stack s H ⟨us,[]⟩ (us ++ ds) (vs ++ dvs) Q E hr I.env0 (hb s us I.kIn hl) r2 h) fun r s' hq=>?_)
 cases r with
 | error e=>exact hx pins σ H s e s' I hq
 | ok fl =>
  cases fl with
  | ret u=>exact I.after hq
  | next=>exact False.elim hq
  | brk=>exact False.elim hq
  | cont=>exact False.elim hq
theorem zih (F : zax X.prog X.w X.K X.mg X.base CX k f fd ps sp) (hr : zcf k X.A) (hg : Gl X x) (hm : X.mg x = some (.ref f)) (hk : PySem.W.keepIn X.K (.ref f) = true) (hb : za2 X.K fd ps ds) (hd : za8 dvs ds) (hx : zj4 CX X E)
  (ha : PA X (e :: es) t) (hdb : (x == ("__debug__" : Str)) = false:=by decide) (he : starEach (e :: es) X.env = (false,eval e X.env) :: starEach es X.env:=by rfl) (hpl : (backTo pos (starEach es X.env)).any (·.1) = false:=by rfl) :
  PE X (.Call (.Name x p) (e :: es) [] pos) (zxz sp dvs E t):=by
 intro pins s σ H Q I h
 refine wpAny_Call_Name_kw (zwa I hg hm ?_ hdb)
 refine PySem.W.callWith_K (h₀:=X.base) I.ok.mod.kin hk (thn (ha pos pins s σ H _ I h) fun us s1 ⟨vs,H1,I1,r,q⟩=>⟨I1.kIn,?_⟩) he hpl
 exact zta F hr hb hd hx I1 r q
theorem z2h {pl : Sem Bool} (he : PE X o ta) (c : Cls X.K C) (hm : zd1 X.K C m f) (F : zax X.prog X.w X.K X.mg X.base CX k f fd ps sp) (hr : zcf k X.A) (hb : za2 X.K fd ps ds) (hd : za8 dvs ds) (hx : zj4 CX X E) (ha : PA X (e :: es) t)
  (hst : starEach (e :: es) X.env = (false,eval e X.env) :: starEach es X.env:=by rfl) (hpl : (backTo pos (starEach es X.env)).any (·.1) = false:=by rfl)
  (ht : eval (.Call (.Attribute o m apos) (e :: es) [] pos) X.env = (do
   let ov <- eval o X.env
   standAt apos.atName
   let (f,first) <- holding [ov] (getMethod ov m pl)
   callWith pos f first (backTo pos (starEach (e :: es) X.env)) (backToKw pos (keywordEach [] X.env))):=by rfl) :
  PE X (.Call (.Attribute o m apos) (e :: es) [] pos) (z1z C m sp dvs E ta t):=by
 intro pins s σ H Q I h
 refine PySem.W.methodCall_KW (pl:=pl) (thn (he pins s σ H _ I h) fun u s1 ⟨x,H1,I1,rx,a,dx,fs,ex,ea,l,q⟩=>?_) ht
 subst ex
 obtain rfl : u = Value.ref a:=rx
 refine zxm I1 ea c hm l ?_
 refine PySem.W.callWith_K (first:=[.ref a]) (h₀:=X.base) I.ok.mod.kin hm.kp (thn (ha pos pins s1 σ H1 _ I1 q) fun us s2 ⟨vs,H2,I2,r,q2⟩=>⟨I2.kIn,?_⟩) hst hpl
 exact zta (us:=.ref a :: us) (vs:=.ref a :: vs) F hr hb hd hx I2 (.cons rfl r) q2
structure Mk (K : PySem.W.Frag) (C f : Addr) : Prop where
 makes : PySem.W.makesIn K C = true
 init : PySem.W.findIn K (.ref C) "__init__" = some (some (.ref f))
 fn : PySem.W.isFn K (.ref f) = true
 kp : PySem.W.keepIn K (.ref C) = true
theorem z8s {pins : List (Addr × Obj)} {σ : St} {H : Hp} {s : Shared} {Q : VK} {us : List Value} {vs : List V} (M : Mk X.K C f) (F : zax X.prog X.w X.K X.mg X.base CX k f fd ps sp) (hr : zcf (k + 1) X.A) (hb : za2 X.K fd ps ds) (hd : za8 dvs ds)
  (hx : zj4 CX X E) (I : Inv X pins σ H s) (r : za8 vs us)
  (h : ∀ x dx,H x = none -> H dx = none -> dx ≠ x -> sp (.ref x :: (vs ++ dvs)) (upd (upd H dx (.own x)) x (.ins C dx [])) (fun v H2=>v = .non /\ Q (.ref x) H2) E) :
  wpAny (model X.prog X.w) X.A (call (.ref C) us) (EP X pins σ Q) X.xe s:=by
 have hq:=h (s.heap.objs.size + 1) s.heap.objs.size (I.hok.fresh (Nat.le_succ _)) (I.hok.fresh (Nat.le_refl _)) (Nat.ne_of_lt (Nat.lt_succ_self _))
 have I2:=Inv.made (C:=C) I
 have r2 : za8 (V.ref (s.heap.objs.size + 1) :: (vs ++ dvs)) (Value.ref (s.heap.objs.size + 1) :: (us ++ ds)):=.cons rfl (r.append hd)
 have hl : (Value.ref (s.heap.objs.size + 1) :: us ++ ds).length = ps.length:=by
  have e:=r2.length
  rw [F.len _ _ _ _ hq] at e
  exact e.symm
 refine wpAny_call (z2z (f:=f) I.kIn M.makes M.init (beq_iff_eq.mp M.fn) (codeAny_mono (F.run _ X.stack _ _ ⟨Value.ref (s.heap.objs.size + 1) :: us,[]⟩ (Value.ref (s.heap.objs.size + 1) :: (us ++ ds)) _ _ E (hr.make C us [])
  (I2.env0.make C us []) (hb _ (Value.ref (s.heap.objs.size + 1) :: us) I2.kIn hl) r2 hq) fun r s' hq'=>?_))
 cases r with
 | error e=>exact hx pins σ _ _ e s' I2 hq'
 | ok fl =>
  cases fl with
  | ret u =>
   obtain ⟨v,H',I3,rv,ev,q3⟩:=I2.after hq'
   subst ev
   exact ⟨rv,⟨V.ref (s.heap.objs.size + 1),H',I3,rfl,q3⟩⟩
  | next=>exact False.elim hq'
  | brk=>exact False.elim hq'
  | cont=>exact False.elim hq'
theorem z2q (M : Mk X.K C f) (F : zax X.prog X.w X.K X.mg X.base CX k f fd ps sp) (hr : zcf (k + 1) X.A) (hg : Gl X x) (hm : X.mg x = some (.ref C)) (hb : za2 X.K fd ps ds) (hd : za8 dvs ds) (hx : zj4 CX X E)
  (ha : PA X (e :: es) t) (hdb : (x == ("__debug__" : Str)) = false:=by decide) (he : starEach (e :: es) X.env = (false,eval e X.env) :: starEach es X.env:=by rfl) (hpl : (backTo pos (starEach es X.env)).any (·.1) = false:=by rfl) :
  PE X (.Call (.Name x p) (e :: es) [] pos) (zys C sp dvs E t):=by
 intro pins s σ H Q I h
 refine wpAny_Call_Name_kw (zwa I hg hm ?_ hdb)
 refine PySem.W.callWith_K (h₀:=X.base) I.ok.mod.kin M.kp (thn (ha pos pins s σ H _ I h) fun us s1 ⟨vs,H1,I1,r,q⟩=>⟨I1.kIn,?_⟩) he hpl
 exact z8s M F hr hb hd hx I1 r q
end
section
variable {X : Cx} {CX : CXT} {k : Nat} {f C : Addr} {fd : FuncData} {ps ks : List Str} {sp : Sp} {E : XK} {x m : Str} {p pos apos kpos : Pos} {e o : Expr} {es : List Expr} {kws : List Keyword} {te ta : TE} {t tk : TA} {nm : Option Str}
variable {g : List Value -> List Value -> List Value} {gV : List V -> List V -> List V}
end
structure zba (N P : List Str) (sc : Scope) : Prop where
 kind : sc.kind = .function
 co : sc.isCoroutine = false
 gen : sc.isGenerator = false
 nd : N.Nodup
 pre : N.take P.length = P
 par : ∀ x ∈ P,sc.names.lookup x = some .local \/ sc.names.lookup x = some .cell
 nofree : ∀ y ∈ sc.names,y.2 ≠ .free
theorem zvn {kindOf : Str -> Option NameKind} {x : Str} : ∀ {binds : List (Str × Value)} {m : Str -> Option Value},(∀ v,(x,v) ∉ binds) -> bindL kindOf binds m x = m x
 | [],_,_=>rfl
 | (n,v) :: r,m,h=>by
  unfold bindL
  rw [zvn fun w hw=>h w (List.mem_cons_of_mem _ hw)]
  split
  ·have : x ≠ n:=by rintro rfl; exact h v List.mem_cons_self
   simp [this]
  ·rfl
theorem zts {kindOf : Str -> Option NameKind} {x : Str} : ∀ {binds : List (Str × Value)} {m : Str -> Option Value},(∀ v,(x,v) ∉ binds) -> bindC kindOf binds m x = m x
 | [],_,_=>rfl
 | (n,v) :: r,m,h=>by
  unfold bindC
  rw [zts fun w hw=>h w (List.mem_cons_of_mem _ hw)]
  split
  ·rfl
  ·have : x ≠ n:=by rintro rfl; exact h v List.mem_cons_self
   simp [this]
theorem zsc {kindOf : Str -> Option NameKind} {x : Str} {v : Value} : ∀ {P : List Str} {vs : List Value} {i : Nat} {m : Str -> Option Value},P.Nodup -> P[i]? = some x -> vs[i]? = some v -> kindOf x = some .local ->
  bindL kindOf (P.zip vs) m x = some v
 | [],_,_,_,_,h,_,_=>by simp at h
 | _ :: _,[],_,_,_,_,h,_=>by simp at h
 | p :: P,w :: vs,0,m,nd,h1,h2,hk=>by
  simp at h1 h2; subst h1; subst h2
  show bindL kindOf ((p,w) :: P.zip vs) m p = _
  unfold bindL
  rw [zvn fun v hv=>(List.nodup_cons.mp nd).1 (List.of_mem_zip hv).1,if_pos hk]
  simp
 | p :: P,w :: vs,i + 1,m,nd,h1,h2,hk=>by
  show bindL kindOf ((p,w) :: P.zip vs) m x = _
  unfold bindL
  exact zsc (i:=i) (List.nodup_cons.mp nd).2 (by simpa using h1) (by simpa using h2) hk
theorem zsi {kindOf : Str -> Option NameKind} {x : Str} {v : Value} : ∀ {P : List Str} {vs : List Value} {i : Nat} {m : Str -> Option Value},P.Nodup -> P[i]? = some x -> vs[i]? = some v -> kindOf x ≠ some .local ->
  bindC kindOf (P.zip vs) m x = some v
 | [],_,_,_,_,h,_,_=>by simp at h
 | _ :: _,[],_,_,_,_,h,_=>by simp at h
 | p :: P,w :: vs,0,m,nd,h1,h2,hk=>by
  simp at h1 h2; subst h1; subst h2
  show bindC kindOf ((p,w) :: P.zip vs) m p = _
  unfold bindC
  rw [zts fun v hv=>(List.nodup_cons.mp nd).1 (List.of_mem_zip hv).1,if_neg hk]
  simp
 | p :: P,w :: vs,i + 1,m,nd,h1,h2,hk=>by
  show bindC kindOf ((p,w) :: P.zip vs) m x = _
  unfold bindC
  exact zsi (i:=i) (List.nodup_cons.mp nd).2 (by simpa using h1) (by simpa using h2) hk
noncomputable def start (N : List Str) (vs : List V) : St:=vs.map some ++ List.replicate (N.length - vs.length) none
noncomputable def zgf (CX : CXT) (P : Program) (w : World) (K : PySem.W.Frag) (mg : Str -> Option Value) (base : Heap) (N : List Str) (qual : Str) (scope : Scope) (f : Addr) (cd : Value) (A : Around) (outer : List Env) (s : Shared) (H : Hp) (E : XK) : Cx where
 prog:=P
 w:=w
 K:=K
 mg:=mg
 base:=base
 A:=A.deeper (envOfC qual scope s.heap.objs.size f cd)
 N:=N
 s₀:=s
 H₀:=H
 env:=envOfC qual scope s.heap.objs.size f cd
 outer:=outer
 stack:=envOfC qual scope s.heap.objs.size f cd :: outer
 ex:=[]
 calm:=true
 fn:=fun _=>true
 pn:=[]
 xe:=fun e s'=>wpAny (model P w) (A.deeper (envOfC qual scope s.heap.objs.size f cd)) (leaving (envOfC qual scope s.heap.objs.size f cd) e) (fun _ s''=>CX outer H s E e s'') (fun e' s''=>CX outer H s E e' s'') s'
theorem zvj {sc : Scope} {n : Nat} {x : Str} (h : sc.names.lookup x = some .cell) : ∃ c,(cellsFrom n sc.names []).lookup x = some c:=by
 have q:=PySem.W.cellsFrom_some sc.names n [] (.inl h)
 exact Option.isSome_iff_exists.mp q
theorem z82 {CX : CXT} {P : Program} {w : World} {K : PySem.W.Frag} {mg : Str -> Option Value} {base : Heap} {N ps : List Str} {qual : Str} {scope : Scope} {f : Addr} {cd : Value} {A : Around} {outer : List Env} {s s1 : Shared} {H : Hp} {E : XK} {us : List Value} {vs : List V}
  (S : zba N ps scope) (hd : A.handled = none) (e0 : zib P w K mg base A outer s H) (hl : vs.length = ps.length) (r : za8 vs us)
  (x : InCallC s s.heap.objs.size (bindL (envOfC qual scope s.heap.objs.size f cd).kindOf (ps.zip us) fun _=>none) (cellsFrom (s.heap.objs.size + 1) scope.names []) (bindC (envOfC qual scope s.heap.objs.size f cd).kindOf (ps.zip us) fun _=>none) s1) :
  Inv (zgf CX P w K mg base N qual scope f cd A outer s H E) [] (start N vs) H s1:=by
 have hpl : ps.length <= N.length:=by have:=congrArg List.length S.pre; rw [List.length_take] at this; omega
 obtain ⟨h1,tk,rfl,hk⟩:=x.done
 have noA : ∀ b : Addr,b ∉ (zgf CX P w K mg base N qual scope f cd A outer s H E).ex:=fun b z=>absurd (show b ∈ ([] : List Addr) from z) (by simp)
 refine ⟨⟨e0.mod,S.kind,rfl,rfl,Nat.le_refl _,fun y z c h1 h2=>?_,fun y hy=>?_,fun y c _ h=>?_,fun _=>hd,Around.frames_deeper e0.frames,.inr ⟨rfl,rfl⟩,fun b z=>absurd z (noA b),e0.bs,e0.bsz,fun b _ _=>noA b,fun b z=>absurd z (noA b),e0.funs,e0.frf⟩,
  rfl,e0.bare,Un.kept hk,⟨_,x.toInCall.ns,fun i y v h1 h2 h3=>?_⟩,fun y c h=>⟨_,x.cell y c h⟩,e0.hok.fresh (Nat.le_refl _),fun y c h=>?_,fun p hp=>absurd (show p ∈ ([] : List (Addr × Obj)) from hp) (by simp),e0.hok.kept hk,?_⟩
 ·exact name_of_addr x.apart (PySem.mem_of_lookup h1) (PySem.mem_of_lookup h2)
 ·have hy : scope.names.lookup y = some .cell \/ scope.names.lookup y = some .free:=hy
  rcases hy with hy | hy
  ·exact zvj hy
  ·exact absurd rfl (S.nofree _ (PySem.mem_of_lookup hy))
 ·exact Nat.le_of_lt (x.above y c (PySem.mem_of_lookup h))
 ·have hi : i < vs.length:=by
   unfold start at h2
   by_cases hi : i < vs.length
   ·exact hi
   ·rw [List.getElem?_append_right (by simpa using hi)] at h2
    rw [List.getElem?_replicate] at h2
    split at h2 <;> cases h2
  have ha : vs[i]? = some v:=by
   unfold start at h2
   rw [List.getElem?_append_left (by simpa using hi),List.getElem?_map] at h2
   cases e : vs[i]? with
   | none=>rw [e] at h2; cases h2
   | some a=>rw [e] at h2; cases h2; rfl
  obtain ⟨u,hu,rv⟩:=r.get ha
  have hp : ps[i]? = some y:=by
   rw [<- S.pre,List.getElem?_take_of_lt (by omega)]; exact h1
  have ndP : ps.Nodup:=by rw [<- S.pre]; exact S.nd.sublist (List.take_sublist _ _)
  refine ⟨u,rv,?_⟩
  rcases S.par y (List.mem_of_getElem? hp) with k | k
  ·exact .inl ⟨k,zsc ndP hp hu k⟩
  ·obtain ⟨c,e⟩:=zvj (n:=s.heap.objs.size + 1) k
   refine .inr ⟨.inl k,c,e,?_⟩
   have q:=x.cell y c e
   rw [zsi ndP hp hu (by show scope.names.lookup y ≠ _; rw [k]; decide)] at q
   exact q
 ·exact e0.hok.fresh (Nat.le_of_lt (x.above y c (PySem.mem_of_lookup h)))
 ·unfold start
  show _ = N.length
  rw [List.length_append,List.length_map,List.length_replicate]
  omega
theorem z30 {CX : CXT} {P : Program} {w : World} {K : PySem.W.Frag} {mg : Str -> Option Value} {base : Heap} {k : Nat} {f : Addr} {name qual : Str} {params : Arguments} {body : List Stmt} {scope : Scope} {dV kV doc pm cdv ct oc : Value} {an od : Option Addr}
  {osl : Array (Option Value)} {N ps : List Str} {sp : Sp} (lk : K.lookup f = some ⟨oc,od,.func (PySem.W.fnOf name qual params body scope dV kV doc pm an cdv ct),osl⟩) (hcd : PySem.W.codeIn K cdv qual = true) (S : zba N ps scope)
  (len : ∀ vs H Q E,sp vs H Q E -> vs.length = ps.length)
  (hbody : ∀ (A : Around) (outer : List Env) (s : Shared) (H : Hp) (vs : List V) (Q : VK) (E : XK),zcf k (A.deeper (envOfC qual scope s.heap.objs.size f cdv)) -> sp vs H Q E ->
   ∃ t,PSs (zgf CX P w K mg base N qual scope f cdv A outer s H E) body t /\ t { nx:=fun _ H'=>Q .non H',rt:=Q } (start N vs) H) :
  zax P w K mg base CX (k + 1) f (PySem.W.fnOf name qual params body scope dV kV doc pm an cdv ct) ps sp:=by
 refine ⟨len,fun A outer s H args us vs Q E hr e0 hb r hsp=>?_⟩
 have hl:=len _ _ _ _ hsp
 have KX : K.In s.heap:=e0.mod.kin.keeps fun b o e=>(e0.bs b o e).1
 have lim : s.heap.NoLimit:=e0.mod.nolimit.keeps fun b o e=>(e0.bs b o e).1
 have hkind : ∀ y ∈ ps.zip us,scope.names.lookup y.1 = some .local \/ (scope.names.lookup y.1 = some .cell /\ ((cellsFrom (s.heap.objs.size + 1) scope.names []).lookup y.1).isSome = true):=fun ⟨n,v⟩ hy=>by
  rcases S.par n (List.of_mem_zip hy).1 with q | q
  ·exact .inl q
  ·exact .inr ⟨q,PySem.W.cellsFrom_some _ _ _ (.inl q)⟩
 refine codeAny_call_function hr.depth (KX _ _ lk) rfl S.co S.gen rfl (PySem.W.codeRec_of KX hcd) (hb _ _ _ _ ?_)
 refine wpAny_newFunctionEnv_cells S.kind hkind fun env he s1 x=>?_
 subst he
 refine ⟨lim.keeps x.toInCall.keep,codeAny_func ?_⟩
 obtain ⟨t,ht,hq⟩:=hbody A outer s H vs Q E (hr.deeper _) hsp
 have I : Inv (zgf CX P w K mg base N qual scope f cdv A outer s H E) [] (start N vs) H s1:=z82 S hr.hd e0 hl r x
 refine wpAny_mono (ht [] s1 (start N vs) H _ I hq) (fun fl s' hs=>?_) fun e s' hs=>hs
 have fin : ∀ {σ' : St} {H' : Hp} {v : V} {u : Value},Inv (zgf CX P w K mg base N qual scope f cdv A outer s H E) [] σ' H' s' -> za5 v u -> Q v H' -> CE outer P w H s Q u s' :=
  fun {σ' H' v u} J rv q=>⟨v,H',J.os,J.bare,J.base,J.hok,rv,q⟩
 cases fl with
 | ret u =>
  obtain ⟨v,σ',H',J,rv,q⟩:=hs
  exact fin J rv q
 | next =>
  obtain ⟨σ',H',J,q⟩:=hs
  exact fin (v:=V.non) (u:=Value.none) J rfl q
 | brk =>
  obtain ⟨_,_,_,q⟩:=hs
  exact False.elim q
 | cont =>
  obtain ⟨_,_,_,q⟩:=hs
  exact False.elim q
section
variable {X : Cx} {x : Str} {p pos : Pos} {e : Expr} {es : List Expr} {t : TA} {id T : String} {r : List V -> Hp -> VK -> Prop}
noncomputable def tCB (r : List V -> Hp -> VK -> Prop) (t : TA) : TE:=fun σ H Q=>t σ H fun vs H1=>r vs H1 Q
theorem zvh (hc : zga X (.builtin id) r) (hg : Gl X x) (hm : X.mg x = none) (hv : bootBuiltins x = some (.builtin id)) (ha : PA X (e :: es) t) (hn : x ≠ "__name__":=by decide) (hdb : (x == ("__debug__" : Str)) = false:=by decide)
  (he : starEach (e :: es) X.env = (false,eval e X.env) :: starEach es X.env:=by rfl) (hpl : (backTo pos (starEach es X.env)).any (·.1) = false:=by rfl) : PE X (.Call (.Name x p) (e :: es) [] pos) (tCB r t):=by
 intro pins s σ H Q I h
 refine wpAny_Call_Name_kw (zg9 I hg hm hv ?_ hn hdb)
 exact PyProof.Rows.callWith_builtin1 (thn (ha pos pins s σ H _ I h) fun us s1 ⟨vs,H1,I1,r1,q1⟩=>hc pins s1 σ H1 vs us Q I1 r1 q1) he hpl
theorem zw2 (hc : zga X (.type T) r) (hg : Gl X x) (hm : X.mg x = none) (hv : bootBuiltins x = some (.type T)) (ha : PA X (e :: es) t) (hn : x ≠ "__name__":=by decide) (hdb : (x == ("__debug__" : Str)) = false:=by decide)
  (he : starEach (e :: es) X.env = (false,eval e X.env) :: starEach es X.env:=by rfl) (hpl : (backTo pos (starEach es X.env)).any (·.1) = false:=by rfl) : PE X (.Call (.Name x p) (e :: es) [] pos) (tCB r t):=by
 intro pins s σ H Q I h
 refine wpAny_Call_Name_kw (zg9 I hg hm hv ?_ hn hdb)
 exact PyProof.Rows.callWith_type1 (thn (ha pos pins s σ H _ I h) fun us s1 ⟨vs,H1,I1,r1,q1⟩=>hc pins s1 σ H1 vs us Q I1 r1 q1) he hpl
end
end L2
namespace HT
open PySem PyProof.Rows
section
open PySem.SeqAt
open PySem.AutoSeq1 (wpAny_loadPart')
open PySem.MeetsSeq PySem.MeetsSeq2 PySem.MeetsSeq3
end
section
variable {prog : Program} {w : World} {A : Around} {E : Value -> Shared -> Prop} {s : Shared}
noncomputable def sIx (n d : Nat) : Option Int -> Nat
 | none=>d
 | some v=>if v < 0 then (v + (n : Int)).toNat else min v.toNat n
theorem sIx_nat (n d k : Nat) : sIx n d (some (k : Int)) = min k n:=by
 show (if (k : Int) < 0 then ((k : Int) + (n : Int)).toNat else min (k : Int).toNat n) = min k n
 rw [if_neg (by omega),Int.toNat_natCast]
end
end HT
namespace L2
open PySem PySem.Spec PyProof.Rows
noncomputable abbrev TO:=St -> Hp -> (Option Int -> Hp -> Prop) -> Prop
noncomputable def PO (X : Cx) (e : Option Expr) (t : TO) : Prop :=
 ∀ (pins : List (Addr × Obj)) (s : Shared) (σ : St) (H : Hp) (Q : Option Int -> Hp -> Prop),Inv X pins σ H s -> t σ H Q ->
  wpAny (model X.prog X.w) X.A (evalPart e X.env) (fun u s'=>∃ o H',Inv X pins σ H' s' /\ IsPart u o /\ Q o H') X.xe s
noncomputable def z73 : TO:=fun _ H Q=>Q none H
noncomputable def z1v (t : TE) : TO:=fun σ H Q=>t σ H fun x H1=>∃ i,x = .int i /\ Q (some i) H1
theorem zxh {ns : List Int} : ∀ {us : List Value},za8 (ns.map V.int) us -> IntsAre us ns:=by
 induction ns with
 | nil=>intro us r; rw [List.map_nil] at r; cases r; exact .nil
 | cons n ns ih =>
  intro us r
  rw [List.map_cons] at r
  cases r with
  | cons r1 r2 =>
   obtain ⟨t,e⟩:=r1
   subst e
   exact .cons n t (ih r2)
section
variable {X : Cx} {e : Expr} {te : TE} {lo hi : Option Expr} {tl th : TO} {pos p2 : Pos}
theorem z7i : PO X none z73:=by
 intro pins s σ H Q I h
 rw [evalPart_none]
 exact wpAny_pure ⟨none,H,I,.none,h⟩
theorem z5t (h : PE X e te) : PO X (some e) (z1v te):=by
 intro pins s σ H Q I hw
 rw [evalPart_some]
 refine thn (h pins s σ H _ I hw) fun u s1 ⟨x,H1,I1,r1,q1⟩=>?_
 obtain ⟨i,rfl,q⟩:=q1
 obtain ⟨t,rfl⟩:=r1
 exact ⟨some i,H1,I1,.int i t,q⟩
noncomputable def SlR (X : Cx) (r : V -> Option Int -> Option Int -> Hp -> VK -> Prop) : Prop :=
 ∀ (pins : List (Addr × Obj)) (s : Shared) (σ : St) (H : Hp) (x : V) (v vl vu : Value) (lo hi : Option Int) (sl : Addr) (Q : VK),Inv X pins σ H s -> za5 x v -> s.heap.IsSliceOf sl vl vu .none -> IsPart vl lo -> IsPart vu hi -> r x lo hi H Q ->
  ∃ T id,typeLookup (.type T) "__getitem__" = pure (some (.builtin id)) /\ s.TypeIs v T /\ wpAny (model X.prog X.w) X.A (getItem v (.ref sl)) (EP X pins σ Q) X.xe s
noncomputable def tSl (r : V -> Option Int -> Option Int -> Hp -> VK -> Prop) (te : TE) (tl th : TO) : TE:=fun σ H Q=>te σ H fun x H1=>tl σ H1 fun l H2=>th σ H2 fun u H3=>r x l u H3 Q
theorem z7q {r : V -> Option Int -> Option Int -> Hp -> VK -> Prop} (hr : SlR X r) (he : PE X e te) (hl : PO X lo tl) (hu : PO X hi th) : PE X (.Subscript e (.Slice lo hi none p2) pos) (tSl r te tl th):=by
 intro pins s σ H Q I h
 refine Subscript_ (thn (he pins s σ H _ I h) fun v s1 ⟨x,H1,I1,r1,q1⟩=>?_)
 refine wpAny_Slice (thn (hl pins s1 σ H1 _ I1 q1) fun vl s2 ⟨l,H2,I2,pl,q2⟩=>thn (hu pins s2 σ H2 _ I2 q2) fun vu s3 ⟨u,H3,I3,pu,q3⟩=>?_)
 rw [evalPart_none]
 refine wpAny_pure ?_
 have I4 : Inv X pins σ H3 { s3 with heap:=s3.heap.push { cls:=.type "slice",data:=.fields #[vl,vu,.none] } }:=I3.kept (t':=s3.toks) fun b ob q=>Heap.get?_push_of_some _ q
 obtain ⟨T,id,hT,ht,hg⟩:=hr pins { s3 with heap:=s3.heap.push { cls:=.type "slice",data:=.fields #[vl,vu,.none] } } σ H3 x v vl vu l u s3.heap.objs.size Q I4 r1 (Heap.IsSliceOf.new ..) pl pu q3
 show wpAny (model X.prog X.w) X.A (subscriptTail e (.Slice lo hi none p2) v (.ref s3.heap.objs.size)) (EP X pins σ Q) X.xe { s3 with heap:=s3.heap.push { cls:=.type "slice",data:=.fields #[vl,vu,.none] } }
 exact tail_any (ops:=[.ref s3.heap.objs.size,v]) ht hT hg (by with_unfolding_all rfl)
noncomputable def zhn (xs : List V) (lo hi : Option Int) : List V:=(xs.drop (HT.sIx xs.length 0 lo)).take (HT.sIx xs.length xs.length hi - HT.sIx xs.length 0 lo)
theorem zzx (xs : List V) (lo hi : Option Int) : (zhn xs lo hi).length <= xs.length:=by
 unfold zhn
 rw [List.length_take,List.length_drop]
 omega
end
noncomputable def ixN (n : Nat) (i : Int) : Option Nat:=if 0 <= i then (if i < n then some i.toNat else none) else if -(n : Int) <= i then some (i + n).toNat else none
noncomputable def atI {α : Type} (xs : List α) (i : Int) : Option α:=(ixN xs.length i).bind fun j=>xs[j]?
theorem zv3 {n : Nat} {i : Int} {j : Nat} (h : ixN n i = some j) : seqIndex? i n = some j /\ j < n /\ -(n : Int) <= i /\ i < n:=by
 unfold ixN at h
 by_cases h0 : 0 <= i
 ·rw [if_pos h0] at h
  by_cases h1 : i < n
  ·rw [if_pos h1] at h
   have e : i.toNat = j:=Option.some.inj h
   exact ⟨by rw [seqIndex_of h0 h1,e],by omega,by omega,h1⟩
  ·rw [if_neg h1] at h; cases h
 ·rw [if_neg h0] at h
  by_cases h1 : -(n : Int) <= i
  ·rw [if_pos h1] at h
   have e : (i + n).toNat = j:=Option.some.inj h
   exact ⟨by rw [seqIndex_neg (by omega) h1,e],by omega,h1,by omega⟩
  ·rw [if_neg h1] at h; cases h
theorem ztr {α : Type} {xs : List α} {i : Int} {v : α} (h : atI xs i = some v) : ∃ j,seqIndex? i xs.length = some j /\ xs[j]? = some v /\ j < xs.length /\ -(xs.length : Int) <= i /\ i < xs.length:=by
 unfold atI at h
 cases e : ixN xs.length i with
 | none=>rw [e] at h; cases h
 | some j =>
  rw [e] at h
  obtain ⟨h1,h2,h3,h4⟩:=zv3 e
  exact ⟨j,h1,h,h2,h3,h4⟩
theorem zxt {α : Type} {xs : List α} {j : Nat} {v : α} (h : xs[j]? = some v) : atI xs (j : Int) = some v:=by
 have hj : j < xs.length:=(List.getElem?_eq_some_iff.mp h).1
 have e : ixN xs.length (j : Int) = some j:=by
  unfold ixN
  rw [if_pos (by omega),if_pos (by omega)]; simp
 unfold atI; rw [e]; exact h
noncomputable def zv4 (b : Expr) : Prop:=∀ o i,subscripted b false o i = operate [o,i] (getItem o i)
noncomputable def IxR (X : Cx) (r : R2) : Prop :=
 ∀ (value slice : Expr) (pins : List (Addr × Obj)) (s : Shared) (σ : St) (H : Hp) (x y : V) (v u : Value) (Q : VK),Inv X pins σ H s -> za5 x v -> za5 y u -> r x y H Q ->
  subscripted slice false v u = operate [v,u] (getItem v u) -> wpAny (model X.prog X.w) X.A (subscriptTail value slice v u) (EP X pins σ Q) X.xe s
noncomputable def MtR (X : Cx) (id : String) (r : V -> List V -> Hp -> VK -> Prop) : Prop :=
 ∀ (pins : List (Addr × Obj)) (s : Shared) (σ : St) (H : Hp) (x : V) (xs : List V) (v : Value) (us : List Value) (Q : VK),Inv X pins σ H s -> za5 x v -> za8 xs us -> r x xs H Q ->
  wpAny (model X.prog X.w) X.A (call (.builtin id) (v :: us)) (EP X pins σ Q) X.xe s
section
variable {X : Cx} {a b : Expr} {ta tb : TE} {pos : Pos}
theorem IxR.or {r r' : R2} (h : IxR X r) (h' : IxR X r') : IxR X (fun x y H Q=>r x y H Q \/ r' x y H Q):=by
 intro value slice pins s σ H x y v u Q I rx ry q hs
 rcases q with q | q
 ·exact h value slice pins s σ H x y v u Q I rx ry q hs
 ·exact h' value slice pins s σ H x y v u Q I rx ry q hs
theorem z6o {r : R2} (hr : IxR X r) (ha : PE X a ta) (hb : PE X b tb) (hs : zv4 b) : PE X (.Subscript a b pos) (tOp r ta tb):=by
 intro pins s σ H Q I h
 exact Subscript_ (zow ha hb I h fun v u s2 x y H2 I2 rx ry q=>hr a b pins s2 σ H2 x y v u Q I2 rx ry q (hs _ _))
noncomputable def z8d (K : PySem.W.Frag) : R2:=fun x y H Q=>∃ p xs i v,x = .ref p /\ y = .int i /\ SqL K H p xs /\ atI xs i = some v /\ Q v H
noncomputable def zwy (K : PySem.W.Frag) : R2:=fun x y H Q=>∃ p xs i v,x = .ref p /\ y = .int i /\ SqT K H p xs /\ atI xs i = some v /\ Q v H
theorem z54 : IxR X (z8d X.K):=by
 intro value slice pins s σ H x y v u Q I rx ry h hs
 obtain ⟨p,xs,i,z,rfl,rfl,hq,he,q⟩:=h
 cases rx
 obtain ⟨t,rfl⟩:=ry
 obtain ⟨its,r,pl,hz⟩:=I.list hq
 obtain ⟨j,h1,h2,h3,h4,h5⟩:=ztr he
 obtain ⟨w,ew,rw'⟩:=r.get h2
 have hl:=r.length
 have hn:=zk8
 have fin : EP X pins σ Q w s:=⟨z,H,I,rw',q⟩
 by_cases h0 : 0 <= i
 ·have hj : i.toNat = j:=by
   rw [seqIndex_of h0 h5] at h1
   exact Option.some.inj h1
  exact item_listR pl.isList h0 (by omega) (by rw [hj]; simpa using ew) fin hs
 ·have hj : (i + (its.toArray.size : Int)).toNat = j:=by
   rw [seqIndex_neg (by omega) h4] at h1
   rw [List.size_toArray,<- hl]
   exact Option.some.inj h1
  exact subscriptTail_builtinR (x:=w) pl.isList.typeIs slot_list_getitem.lookup
   (wpAny_getItem_list_neg (Q:=fun r s'=>r = w /\ EP X pins σ Q r s') pl.isList (by omega) (by rw [List.size_toArray] <;> omega) (by omega) (by rw [hj]; simpa using ew) ⟨rfl,fin⟩) hs
theorem z07 : IxR X (zwy X.K):=by
 intro value slice pins s σ H x y v u Q I rx ry h hs
 obtain ⟨p,xs,i,z,rfl,rfl,hq,he,q⟩:=h
 cases rx
 obtain ⟨t,rfl⟩:=ry
 obtain ⟨its,r,pl,hz⟩:=I.tuple hq
 obtain ⟨j,h1,h2,h3,h4,h5⟩:=ztr he
 obtain ⟨w,ew,rw'⟩:=r.get h2
 have hl:=r.length
 have hn:=zk8
 have fin : EP X pins σ Q w s:=⟨z,H,I,rw',q⟩
 exact subscriptTail_builtinR (x:=w) pl.typeIs slot_tuple_getitem.lookup
  (getItem_tuple (j:=j) (Q:=fun r s'=>r = w /\ EP X pins σ Q r s') pl (by omega) (by omega) (by rw [List.size_toArray,<- hl]; exact h1) (by simpa using ew) ⟨rfl,fin⟩) hs
theorem z6p (its : List Value) (n j : Nat) (u : Value) : Obj.mapSeq (·.setIfInBounds j u) { cls:=.type "list",data:=.seq its.toArray n } = { cls:=.type "list",data:=.seq (its.set j u).toArray n }:=by
 simp [Obj.mapSeq]
theorem Inv.lst {pins : List (Addr × Obj)} {σ : St} {H : Hp} {s : Shared} {p : Addr} {xs : List V} (I : Inv X pins σ H s) (h : H p = some (.lst xs)) :
  ∃ (its : List Value) (n : Nat),za8 xs its /\ s.heap.get? p = some { cls:=.type "list",data:=.seq its.toArray n } /\ xs.length <= sizeLine:=by
 obtain ⟨z,its,n,r,e⟩:=I.hok p _ h
 exact ⟨its,n,r,e,z⟩
theorem Inv.lstUpd {pins : List (Addr × Obj)} {σ : St} {H : Hp} {s : Shared} {p : Addr} {xs ys : List V} {its its' : List Value} {n n' : Nat} {f : Obj -> Obj} (I : Inv X pins σ H s) (h : H p = some (.lst xs))
  (ho : s.heap.get? p = some { cls:=.type "list",data:=.seq its.toArray n }) (hf : f { cls:=.type "list",data:=.seq its.toArray n } = { cls:=.type "list",data:=.seq its'.toArray n' }) (r : za8 ys its') (hz : ys.length <= sizeLine) (t : Nat) :
  Inv X pins σ (upd H p (.lst ys)) { s with heap:=s.heap.update p f,toks:=t }:=by
 have e : (s.heap.update p f).get? p = some { cls:=.type "list",data:=.seq its'.toArray n' }:=by
  rw [Heap.get?_update_self f ho (by rw [hf] <;> rfl),hf]
 refine I.write (x:=p) (e:=p) (by rw [h]; trivial) (.inl rfl) (fun b u hb q=>(Heap.get?_update_other _ _ (Ne.symm hb)).trans q) ⟨_,e⟩ ?_
 exact ⟨hz,its',n',r,e⟩
noncomputable def ztz : V -> V -> V -> Hp -> (Hp -> Prop) -> Prop:=fun o i v H Q=>∃ p xs k j,o = .ref p /\ i = .int k /\ H p = some (.lst xs) /\ ixN xs.length k = some j /\ Q (upd H p (.lst (xs.set j v)))
theorem z5s : zst X ztz:=by
 intro pins s σ H o i v ov iv u Q I ro ri rv h
 obtain ⟨p,xs,k,j,rfl,rfl,hp,hj,q⟩:=h
 cases ro
 obtain ⟨t,rfl⟩:=ri
 obtain ⟨its,n,r,ho,hz⟩:=I.lst hp
 obtain ⟨h1,h2,h3,h4⟩:=zv3 hj
 have hl:=r.length
 have hn:=zk8
 have I' : Inv X pins σ (upd H p (.lst (xs.set j v))) { s with heap:=s.heap.update p (Obj.mapSeq (·.setIfInBounds j u)) } :=
  I.lstUpd hp ho (z6p its n j u) (r.set rv j) (by rw [List.length_set]; exact hz) s.toks
 by_cases h0 : 0 <= k
 ·have hk : k.toNat = j:=by
   rw [seqIndex_of h0 h4] at h1
   exact Option.some.inj h1
  exact PySem.W.ki_setAt ho h0 (by omega) (by rw [List.size_toArray,<- hl]; exact h4) (by rw [hk]; exact ⟨_,I',q⟩)
 ·have hk : (k + (its.toArray.size : Int)).toNat = j:=by
   rw [seqIndex_neg (by omega) h3] at h1
   rw [List.size_toArray,<- hl]
   exact Option.some.inj h1
  exact PySem.W.ki_setBack ho (by omega) (by rw [List.size_toArray,<- hl]; exact h3) (by omega) (by rw [hk]; exact ⟨_,I',q⟩)
theorem z6x (lo hi : Option Int) (n : Nat) : (sliceBounds lo hi none n).1 = ((HT.sIx n 0 lo : Nat) : Int) /\ (sliceBounds lo hi none n).2.1 = ((HT.sIx n n hi : Nat) : Int) /\ (sliceBounds lo hi none n).2.2 = 1:=by
 refine ⟨?_,?_,rfl⟩
 ·cases lo with
  | none=>simp [sliceBounds,HT.sIx]
  | some i =>
   simp only [sliceBounds,HT.sIx,Option.getD_none,show (1 : Int) > 0 by decide,if_true]
   by_cases h : i < 0
   ·simp only [h,if_true] <;> omega
   ·simp only [h,if_false] <;> omega
 ·cases hi with
  | none=>simp [sliceBounds,HT.sIx]
  | some i =>
   simp only [sliceBounds,HT.sIx,Option.getD_none,show (1 : Int) > 0 by decide,if_true]
   by_cases h : i < 0
   ·simp only [h,if_true] <;> omega
   ·simp only [h,if_false] <;> omega
theorem z4k (its : List Value) (lo hi : Option Int) : slicePick its.toArray lo hi none = ((its.drop (HT.sIx its.length 0 lo)).take (HT.sIx its.length its.length hi - HT.sIx its.length 0 lo)).toArray:=by
 obtain ⟨h1,h2,h3⟩:=z6x lo hi its.toArray.size
 unfold slicePick
 rw [h1,h2,h3]
 simp only [sliceRange_one,pick_run,List.size_toArray] <;> rfl
noncomputable def z03 (K : PySem.W.Frag) : V -> Option Int -> Option Int -> Hp -> VK -> Prop:=fun x lo hi H Q=>∃ a xs,x = .ref a /\ SqL K H a xs /\ ∀ p,H p = none -> Q (.ref p) (upd H p (.lst (zhn xs lo hi)))
theorem z29 : SlR X (z03 X.K):=by
 intro pins s σ H x v vl vu lo hi sl Q I rx hs pl pu h
 obtain ⟨a,xs,rfl,hx,q⟩:=h
 cases rx
 obtain ⟨its,r,ht,hz⟩:=I.list hx
 have hlen:=r.length
 refine ⟨"list",_,slot_list_getitem.lookup,ht.isList.typeIs,?_⟩
 refine wpAny_getItem_list_slice ht.isList hs pl pu .none (by simp) ?_ (by rw [List.size_toArray] <;> omega)
 rw [z4k,<- hlen]
 refine ⟨.ref s.heap.objs.size,_,I.laid (t':=s.toks) (o:=.lst (zhn xs lo hi)) (fun b ob q=>Heap.get?_push_of_some _ q) (Nat.le_refl _) ?_,rfl,q _ (I.hok.fresh (Nat.le_refl _))⟩
 exact ⟨Nat.le_trans (zzx xs lo hi) hz,_,0,(r.drop (HT.sIx xs.length 0 lo)).take (HT.sIx xs.length xs.length hi - HT.sIx xs.length 0 lo),Heap.get?_push_size _ rfl⟩
noncomputable def zej : V -> Bool
 | .non=>true
 | .bl _=>true
 | .int _=>true
 | .str _=>true
 | _=>false
noncomputable def eqV : V -> V -> Bool
 | .non,.non=>true
 | .bl a,.bl b=>a == b
 | .bl a,.int b=>(if a then 1 else 0) == b
 | .int a,.bl b=>a == (if b then 1 else 0)
 | .int a,.int b=>a == b
 | .str a,.str b=>a == b
 | _,_=>false
theorem zve {A : Around} {s : Shared} {y x : V} {u v : Value} (ry : za5 y u) (rx : za5 x v) (fy : zej y = true) (fx : zej x = true) : SeqAt.EqAt A s u v (eqV y x):=by
 cases y with
 | non =>
  cases ry
  cases x with
  | non=>cases rx; exact SeqAt.EqAt.same _
  | bl b=>cases rx; exact SeqAt.EqAt.none_bool b
  | int b=>obtain ⟨t,rfl⟩:=rx; exact SeqAt.EqAt.none_int b t
  | str b=>obtain ⟨t,rfl⟩:=rx; exact SeqAt.EqAt.none_str b t
  | _=>exact absurd (show false = true from fx) Bool.false_ne_true
 | bl a =>
  cases ry
  cases x with
  | non=>cases rx; exact SeqAt.EqAt.bool_none a
  | bl b=>cases rx; exact SeqAt.EqAt.bool_bool a b
  | int b=>obtain ⟨t,rfl⟩:=rx; exact SeqAt.EqAt.bool_int a b t
  | str b=>obtain ⟨t,rfl⟩:=rx; exact SeqAt.EqAt.bool_str a b t
  | _=>exact absurd (show false = true from fx) Bool.false_ne_true
 | int a =>
  obtain ⟨t',rfl⟩:=ry
  cases x with
  | non=>cases rx; exact SeqAt.EqAt.int_none a t'
  | bl b=>cases rx; exact SeqAt.EqAt.int_bool a t' b
  | int b=>obtain ⟨t,rfl⟩:=rx; exact SeqAt.EqAt.int_int a t' b t
  | str b=>obtain ⟨t,rfl⟩:=rx; exact SeqAt.EqAt.int_str a t' b t
  | _=>exact absurd (show false = true from fx) Bool.false_ne_true
 | str a =>
  obtain ⟨t',rfl⟩:=ry
  cases x with
  | non=>cases rx; exact SeqAt.EqAt.str_none a t'
  | bl b=>cases rx; exact SeqAt.EqAt.str_bool a t' b
  | int b=>obtain ⟨t,rfl⟩:=rx; exact SeqAt.EqAt.str_int a t' b t
  | str b=>obtain ⟨t,rfl⟩:=rx; exact SeqAt.EqAt.str_str a t' b t
  | _=>exact absurd (show false = true from fx) Bool.false_ne_true
 | _=>exact absurd (show false = true from fy) Bool.false_ne_true
noncomputable def eqU (x : V) (u : Value) : Bool:=match u with
 | .none=>eqV .non x
 | .bool b=>eqV (.bl b) x
 | .int i _=>eqV (.int i) x
 | .str z _=>eqV (.str z) x
 | _=>false
theorem zvr {x y : V} {u : Value} (r : za5 y u) (f : zej y = true) : eqU x u = eqV y x:=by
 cases y with
 | non=>cases r; rfl
 | bl b=>cases r; rfl
 | int i=>obtain ⟨t,rfl⟩:=r; rfl
 | str z=>obtain ⟨t,rfl⟩:=r; rfl
 | _=>exact absurd (show false = true from f) Bool.false_ne_true
theorem zo5 {x : V} : ∀ {xs : List V} {us : List Value},za8 xs us -> xs.all zej = true -> us.any (eqU x) = xs.any fun y=>eqV y x
 | _,_,.nil,_=>rfl
 | y :: xs,u :: us,.cons r t,f=>by
  rw [List.all_cons,Bool.and_eq_true] at f
  rw [List.any_cons,List.any_cons,zvr r f.1,zo5 t f.2]
theorem zoi {A : Around} {s : Shared} {x : V} {v : Value} (rx : za5 x v) (fx : zej x = true) : ∀ {xs : List V} {us : List Value},za8 xs us -> xs.all zej = true -> ∀ u ∈ us,SeqAt.EqAt A s u v (eqU x u)
 | _,_,.nil,_=>fun u hu=>by cases hu
 | y :: xs,u :: us,.cons r t,f=>fun u' hu=>by
  rw [List.all_cons,Bool.and_eq_true] at f
  rcases List.mem_cons.mp hu with rfl | hu
  ·rw [zvr r f.1]; exact zve r rx f.1 fx
  ·exact zoi rx fx t f.2 u' hu
noncomputable def inV (x : V) (xs : List V) : Bool:=xs.any fun y=>eqV y x
noncomputable def rIn (K : PySem.W.Frag) (neg : Bool) : R2:=fun x y H Q=>∃ p xs,y = .ref p /\ (SqL K H p xs \/ SqT K H p xs) /\ zej x = true /\ xs.all zej = true /\ Q (.bl (if neg then !inV x xs else inV x xs)) H
theorem z1a : OpR X (compareOp .In) (rIn X.K false):=by
 intro pins s σ H x y v u Q I rx ry h
 obtain ⟨p,xs,rfl,hq,fx,fs,q⟩:=h
 cases ry
 rcases hq with hq | hq
 ·obtain ⟨its,r,pl,hz⟩:=I.list hq
  refine SeqAt.in_listAt (eqU x) pl.isList (fun w hw=>zoi rx fx r fs w (by simpa using hw)) ⟨.bl _,H,I,rfl,?_⟩
  rw [show its.toArray.any (eqU x) = its.any (eqU x) by simp,zo5 r fs]
  exact q
 ·obtain ⟨its,r,pl,hz⟩:=I.tuple hq
  refine SeqAt.in_tupleAt (eqU x) pl (fun w hw=>zoi rx fx r fs w (by simpa using hw)) ⟨.bl _,H,I,rfl,?_⟩
  rw [show its.toArray.any (eqU x) = its.any (eqU x) by simp,zo5 r fs]
  exact q
theorem z2k : zga X (.builtin "len") (fun xs H Q=>∃ p ys,xs = [.ref p] /\ (SqL X.K H p ys \/ SqT X.K H p ys) /\ Q (.int ys.length) H):=by
 intro pins s σ H xs us Q I r h
 obtain ⟨p,ys,rfl,hq,q⟩:=h
 obtain ⟨u,rfl,rx⟩:=zh0 r
 cases rx
 have hn:=zk8
 rcases hq with hq | hq
 ·obtain ⟨its,r',pl,hz⟩:=I.list hq
  have hlen:=r'.length
  exact Calls.call_len_list pl.isList (by simp only [List.size_toArray] <;> omega) ⟨.int ys.length,H,I.tok _,⟨s.toks + 1,by rw [List.size_toArray,hlen]⟩,q⟩
 ·obtain ⟨its,r',pl,hz⟩:=I.tuple hq
  have hlen:=r'.length
  exact len_tuple pl (by simp only [List.size_toArray] <;> omega) ⟨.int ys.length,H,I.tok _,⟨s.toks + 1,by rw [List.size_toArray,hlen]⟩,q⟩
theorem z1b : zga X (.builtin "len") (fun xs H Q=>∃ z,xs = [.str z] /\ z.length <= sizeLine /\ Q (.int z.length) H):=by
 intro pins s σ H xs us Q I r h
 obtain ⟨z,rfl,hz,q⟩:=h
 obtain ⟨u,rfl,t,rfl⟩:=zh0 r
 have hn:=zk8
 exact len_str (by omega) ⟨.int z.length,H,I.tok _,⟨_,rfl⟩,q⟩
theorem z5y : zga X (.type "list") (fun xs H Q=>∃ p ys,xs = [.ref p] /\ (SqL X.K H p ys \/ SqT X.K H p ys) /\ ∀ l,H l = none -> Q (.ref l) (upd H l (.lst ys))):=by
 intro pins s σ H xs us Q I r h
 obtain ⟨p,ys,rfl,hq,q⟩:=h
 obtain ⟨u,rfl,rx⟩:=zh0 r
 cases rx
 have fin : ∀ (its : List Value),za8 ys its -> ys.length <= sizeLine -> ∀ (h' : Heap) (c' : Nat),(∀ b o',s.heap.get? b = some o' -> h'.get? b = some o') ->
   h'.get? s.heap.objs.size = some { cls:=.type "list",dict:=none,data:=.seq its.toArray c',slots:=#[] } -> EP X pins σ Q (.ref s.heap.objs.size) { s with heap:=h' }:=fun its r' hz h' c' kp e =>
  ⟨.ref s.heap.objs.size,_,I.laid (t':=s.toks) kp (Nat.le_refl _) (show zcw X.prog X.w _ h' _ (.lst ys) from ⟨hz,its,c',r',e⟩),rfl,q _ (I.hok.fresh (Nat.le_refl _))⟩
 rcases hq with hq | hq
 ·obtain ⟨its,r',pl,hz⟩:=I.list hq
  have hlen:=r'.length
  obtain ⟨o,ho,hc,n,hd⟩:=pl.isList
  exact call_list_seq p (.inl rfl) ho hc hd (fun h' c' kp e=>fin its r' hz h' c' kp e) (by simp only [List.size_toArray] <;> omega)
 ·obtain ⟨its,r',pl,hz⟩:=I.tuple hq
  have hlen:=r'.length
  obtain ⟨o,ho,hc,n,hd⟩:=pl
  exact call_list_seq p (.inr rfl) ho hc hd (fun h' c' kp e=>fin its r' hz h' c' kp e) (by simp only [List.size_toArray] <;> omega)
noncomputable def tyV (K : PySem.W.Frag) (T : String) (x : V) (H : Hp) : Prop:=match x with
 | .str _=>T = "str"
 | .int _=>T = "int"
 | .ref p=>(T = "list" /\ ∃ xs,SqL K H p xs) \/ (T = "tuple" /\ ∃ o,K.lookup p = some o /\ o.cls = .type "tuple" /\ o.dict = none) \/
   (T = "dict" /\ ((∃ kvs,H p = some (.dK kvs)) \/ ∃ kvs,H p = some (.dT kvs))) \/ (T = "set" /\ ∃ S n,H p = some (.set S n))
 | _=>False
theorem z18 {pins : List (Addr × Obj)} {σ : St} {H : Hp} {s : Shared} {T : String} {x : V} {v : Value} (I : Inv X pins σ H s) (r : za5 x v) (ty : tyV X.K T x H) :
  s.TypeIs v T /\ ∀ a,v = .ref a -> ∃ ob,s.heap.get? a = some ob /\ ob.dict = none:=by
 cases x with
 | str z =>
  obtain ⟨t,rfl⟩:=r
  cases (show T = "str" from ty)
  exact ⟨typeIs_str s z t,fun _ e=>nomatch e⟩
 | int i =>
  obtain ⟨t,rfl⟩:=r
  cases (show T = "int" from ty)
  exact ⟨typeIs_int s i t,fun _ e=>nomatch e⟩
 | ref p =>
  cases r
  rcases ty with ⟨rfl,xs,hq⟩ | ⟨rfl,o,hk,hc,hd⟩ | ⟨rfl,hk⟩ | ⟨rfl,S,n,hk⟩
  ·obtain ⟨its,_,pl,_⟩:=I.list hq
   refine ⟨pl.isList.typeIs,fun a e=>?_⟩
   cases e
   obtain ⟨o,n,e,c,hd,_⟩:=pl
   exact ⟨o,e,hd⟩
  ·refine ⟨⟨o,I.kIn p o hk,hc⟩,fun a e=>?_⟩
   cases e
   exact ⟨o,I.kIn _ o hk,hd⟩
  ·have z : ∃ o,s.heap.get? p = some o /\ o.ExactDict:=by
    rcases hk with ⟨kvs,hk⟩ | ⟨kvs,hk⟩
    ·obtain ⟨_,_,_,_,o,_,_,e,ex,_⟩:=I.hok p _ hk
     exact ⟨o,e,ex⟩
    ·obtain ⟨_,_,_,_,o,_,_,e,ex,_⟩:=I.hok p _ hk
     exact ⟨o,e,ex⟩
   obtain ⟨o,e,ex⟩:=z
   refine ⟨⟨o,e,ex.1⟩,fun a e2=>?_⟩
   cases e2
   exact ⟨o,e,ex.2.1⟩
  ·obtain ⟨o,_,_,_,e,ex,_⟩:=I.hok p _ hk
   refine ⟨⟨o,e,ex.1⟩,fun a e2=>?_⟩
   cases e2
   exact ⟨o,e,ex.2.1⟩
 | _=>exact False.elim ty
noncomputable def tBM (K : PySem.W.Frag) (T : String) (r : V -> List V -> Hp -> VK -> Prop) (to : TE) (t : TA) : TE:=fun σ H Q=>to σ H fun x H1=>tyV K T x H1 /\ t σ H1 fun xs H2=>r x xs H2 Q
variable {o e : Expr} {es : List Expr} {to : TE} {t : TA} {name : Str} {apos cpos : Pos} {T id : String} {r : V -> List V -> Hp -> VK -> Prop}
theorem zfk (pa : PlainAttrs T) (slot : Slot T name id) (hty : typeOf (.builtin id) = pure (.type "method_descriptor")) (hm : MtR X id r) (ho : PE X o to) (ha : PA X (e :: es) t)
  (hbase : attributeBase o name X.env (eval o X.env) = eval o X.env:=by rfl)
  (hfew : ((backTo cpos (starEach (e :: es) X.env)).all (fun x=>!x.1) && (backToKw cpos (keywordEach [] X.env)).all (fun x=>x.1.isSome)
   && decide ((e :: es).length + ([] : List Keyword).length + (if ([] : List Keyword).isEmpty then 0 else 1) < 30)) = true:=by rfl)
  (hline : (apos.endLine == cpos.line) = true:=by rfl) (hs : starEach (e :: es) X.env = (false,eval e X.env) :: starEach es X.env:=by rfl) (hplain : (backTo cpos (starEach es X.env)).any (·.1) = false:=by rfl) :
  PE X (.Call (.Attribute o name apos) (e :: es) [] cpos) (tBM X.K T r to t):=by
 intro pins s σ H Q I h
 refine wpAny_Call_method_late hbase hfew hline rfl (thn (ho pins s σ H _ I h) fun v s1 ⟨x,H1,I1,r1,ty,q1⟩=>?_)
 obtain ⟨h1,h2⟩:=z18 I1 r1 ty
 refine ⟨T,id,pa,slot,hty,h1,h2,?_⟩
 have hA:=ha cpos pins s1 σ H1 _ I1 q1
 rw [hs] at hA ⊢
 refine Calls.callWith_builtin (by show (false || (backTo cpos (starEach es X.env)).any (·.1)) = false; rw [hplain] <;> rfl) (Calls.evalArgs_plain ?_)
 exact thn hA fun us s2 ⟨vs,H2,I2,r2,q2⟩=>hm pins s2 σ H2 x vs v us Q I2 r1 r2 q2
end
noncomputable def MtM (X : Cx) (id : String) (r : V -> List V -> Hp -> VK -> Prop) : Prop :=
 ∀ (pins : List (Addr × Obj)) (s : Shared) (σ : St) (H : Hp) (x : V) (xs : List V) (v : Value) (us : List Value) (Q : VK),Inv X pins σ H s -> za5 x v -> za8 xs us -> r x xs H Q ->
  wpAny (model X.prog X.w) X.A (call (.builtin id) (v :: us)) (EP X pins σ Q) X.xe s
theorem za8.one : ∀ {x : V} {us : List Value},za8 [x] us -> ∃ u,us = [u] /\ za5 x u
 | _,_,.cons r .nil=>⟨_,rfl,r⟩
section
variable {X : Cx} {pins : List (Addr × Obj)} {σ : St} {H : Hp} {s : Shared} {l b : Addr} {xs ys zs : List V}
theorem Inv.lset {its its' : List Value} {n : Nat} {f : Array Value -> Array Value} {t' : Nat} (I : Inv X pins σ H s) (hH : H l = some (.lst xs))
  (e : s.heap.get? l = some { cls:=.type "list",data:=.seq its.toArray n }) (hf : f its.toArray = its'.toArray) (hv : za8 ys its') (hz : ys.length <= sizeLine) :
  Inv X pins σ (upd H l (.lst ys)) { s with heap:=s.heap.update l (Obj.mapSeq f),toks:=t' }:=by
 have q:=PySem.IsL.update e f
 rw [hf] at q
 refine I.write (x:=l) (e:=l) (by rw [hH]; exact trivial) (.inl rfl) (fun b' u hb hu=>(Heap.get?_update_other s.heap (Obj.mapSeq f) (Ne.symm hb)).trans hu) ⟨_,q⟩ ?_
 exact ⟨hz,its',_,hv,q⟩
theorem Inv.lnew {its : List Value} {t' : Nat} (I : Inv X pins σ H s) (hv : za8 ys its) (hz : ys.length <= sizeLine) :
  Inv X pins σ (upd H s.heap.objs.size (.lst ys)) { s with heap:=s.heap.push { cls:=.type "list",data:=.seq its.toArray },toks:=t' } :=
 I.laid (fun _ _ q=>Heap.get?_push_of_some _ q) (Nat.le_refl _) ⟨hz,its,0,hv,Heap.get?_push_size _ rfl⟩
theorem Inv.fresh (I : Inv X pins σ H s) : H s.heap.objs.size = none:=I.hok.fresh (Nat.le_refl _)
theorem Inv.lstM (I : Inv X pins σ H s) (hH : H l = some (.lst xs)) : xs.length <= sizeLine /\ ∃ (its : List Value) (n : Nat),za8 xs its /\ xs.length = its.length /\ s.heap.get? l = some { cls:=.type "list",data:=.seq its.toArray n }:=by
 obtain ⟨z,its,n,r,e⟩:=I.hok l _ hH
 exact ⟨z,its,n,r,r.length,e⟩
theorem zz5 {n : Nat} (h : n <= sizeLine) : Builtin.List.listTooLong n = false:=by
 unfold Builtin.List.listTooLong
 exact decide_eq_false (by omega)
end
section
variable {X : Cx}
noncomputable def zp3 : V -> List V -> Hp -> VK -> Prop:=fun x vs H Q=>∃ l xs y,x = .ref l /\ vs = [y] /\ H l = some (.lst xs) /\ xs.length < sizeLine /\ Q .non (upd H l (.lst (xs ++ [y])))
theorem zgl : MtM X "list.append" zp3:=by
 intro pins s σ H x vs v us Q I rx rv h
 obtain ⟨l,xs,y,rfl,rfl,hH,hz,q⟩:=h
 cases rx
 obtain ⟨u,rfl,ru⟩:=rv.one
 obtain ⟨z,its,n,r,hl,e⟩:=I.lstM hH
 refine call_meets F.slot_list_append ⟨_,e,rfl⟩ F.entry_list_append (F.args_list_append_2 _ _) (PySem.list_append l its.toArray n u (by rw [List.size_toArray]; omega)) ⟨e,?_⟩
 refine ⟨.non,_,I.lset (its':=its ++ [u]) hH e (by simp) (r.append (.cons ru .nil)) ?_,rfl,q⟩
 rw [List.length_append,List.length_singleton]
 omega
noncomputable def zwk : V -> List V -> Hp -> VK -> Prop:=fun x vs H Q=>∃ l b xs zs,x = .ref l /\ vs = [.ref b] /\ H l = some (.lst xs) /\ H b = some (.lst zs) /\ xs.length + zs.length <= sizeLine /\ Q .non (upd H l (.lst (xs ++ zs)))
theorem zun : MtM X "list.extend" zwk:=by
 intro pins s σ H x vs v us Q I rx rv h
 obtain ⟨l,b,xs,zs,rfl,rfl,hH,hB,hz,q⟩:=h
 cases rx
 obtain ⟨u,rfl,ru⟩:=rv.one
 cases ru
 obtain ⟨z,its,n,r,hl,e⟩:=I.lstM hH
 obtain ⟨z2,its2,n2,r2,hl2,e2⟩:=I.lstM hB
 have hsz : its.toArray.size + its2.toArray.size <= sizeLine:=by rw [List.size_toArray,List.size_toArray]; omega
 have hlong : ¬ (!its.toArray.isEmpty && Builtin.List.listTooLong (its.toArray.size + its2.toArray.size)) = true:=by
  rw [zz5 hsz,Bool.and_false]
  exact Bool.false_ne_true
 refine call_meets F.slot_list_extend ⟨_,e,rfl⟩ F.entry_list_extend (F.args_list_extend_2 _ _)
  (AutoSeq1.list_extend_list_list_0 l its.toArray n b its2.toArray n2 hlong (by rw [List.size_toArray]; omega) (by omega)) ⟨e,e2,?_⟩
 refine ⟨.non,_,I.lset (its':=its ++ its2) hH e (by simp) (r.append r2) ?_,rfl,q⟩
 rw [List.length_append]
 omega
noncomputable def zx2 : R2:=fun x y H Q=>∃ l b xs zs,x = .ref l /\ y = .ref b /\ H l = some (.lst xs) /\ H b = some (.lst zs) /\ xs.length + zs.length <= sizeLine /\ ∀ p,H p = none -> Q (.ref p) (upd H p (.lst (xs ++ zs)))
theorem zsz : OpR X (binaryOp .Add) zx2:=by
 intro pins s σ H x y v u Q I rx ry h
 obtain ⟨l,b,xs,zs,rfl,rfl,hH,hB,hz,q⟩:=h
 cases rx
 cases ry
 obtain ⟨z,its,n,r,hl,e⟩:=I.lstM hH
 obtain ⟨z2,its2,n2,r2,hl2,e2⟩:=I.lstM hB
 refine PySem.P.add_list e e2 ?_ (by rw [List.size_toArray,List.size_toArray]; omega)
 have ea : its.toArray ++ its2.toArray = (its ++ its2).toArray:=by simp
 rw [ea]
 exact ⟨.ref _,_,I.lnew (t':=s.toks) (r.append r2) (by rw [List.length_append]; omega),rfl,q _ I.fresh⟩
end
section
variable {prog : Program} {w : World} {A : Around} {E : Value -> Shared -> Prop} {s : Shared}
set_option maxRecDepth 100000 in
end
section
variable {X : Cx}
end
end L2
namespace Att
open PySem PySem.W PySem.Calls PyProof.Rows
theorem z10 {P : Params} {h : Heap} : ∀ (ns : List Int) (vs : List Value),WellAll P h vs (ns.map WData.int) -> IntsAre vs ns:=by
 intro ns
 induction ns with
 | nil =>
  intro vs w
  rw [List.map_nil] at w
  cases w
  exact .nil
 | cons n ns ih =>
  intro vs w
  rw [List.map_cons] at w
  cases w with
  | cons a b =>
   cases a
   exact .cons _ _ (ih _ b)
theorem z9a {l : OpenLaw} {n : Nat} (hn : l.most = some n) {P : Params} {h : Heap} {args : List WData} {vals : List Value}
  (hpre : l.row.toRowW.claim.pre args = true) (hwl : WellAll P h vals args) :
  ∃ a vs ns,vals = [Value.ref a] /\ args = [WData.list (ns.map WData.int)] /\ h.get? a = some { cls:=.type "list",data:=.seq vs.toArray } /\ IntsAre vs ns /\ ns.length <= n:=by
 have hsh : WShape.hasAll [] args [.list .int] = true:=(pre_splitW hpre).1
 have hc : l.pre.holds [] { args:=args } = true:=(pre_splitW hpre).2
 obtain ⟨d,r,rfl,h1,h2⟩:=hasAllW_cons hsh
 obtain rfl:=hasAllW_nil h2
 obtain ⟨xs,rfl,h3⟩:=hasW_list h1
 obtain ⟨ns,rfl⟩:=items_int h3
 have hlen : ns.length <= n:=by
  unfold OpenLaw.pre at hc
  have h4 : (WTm.not (.lt (.lit (.int (n : Int))) (.len (.arg 0)))).holds [] { args:=[.list (ns.map .int)] } = true:=by
   have h4:=(holds_andW hc).1
   rw [hn] at h4
   exact h4
  have h5:=condW_of h4 (w_not (w_lt w_lit (w_len_list (w_arg rfl))))
  rw [List.length_map] at h5
  refine Nat.le_of_not_lt fun q=>?_
  have q' : (n : Int) < ((ns.length : Nat) : Int):=by omega
  first
   | (rw [decide_eq_true q'] at h5; exact absurd h5 (by decide))
   | (simp at h5; omega)
 cases hwl with
 | cons w1 w2 =>
  cases w2
  cases w1 with
  | list ho hall=>exact ⟨_,_,ns,rfl,rfl,ho,z10 ns _ hall,hlen⟩
theorem z28 (l : OpenLaw) (args : List WData) : l.row.toRowW.claim.post args (.bool true) args = true :=
 postW_of (r:=l.row.toRowW) (X:=(true == true))
  (show WShape.has [] (.bool true) .bool = true by first | rfl | decide | simp [WShape.has,WShape.arms,WShape.armsAll])
  (show (WTm.eq .res (.lit (.bool true))).value [] { args:=args,res:=some (.bool true),after:=args } = some (.bool (true == true)) from w_eq_bool (w_res rfl) w_lit) rfl
theorem attach_call {l : OpenLaw} {n : Nat} {q : Program} {loose : List Str} {XP : (Str -> Option Value) -> Heap -> Prop} {YP : World -> Heap -> Prop} {d : DefRec}
  (hn : l.most = some n) (hdf : d.params.defaults = [])
  (call : ∀ (w : World) (s₀ s₁ : Shared) (mg mb : Str -> Option Value) (fa : Addr) (o : Obj) (pm cd doc : Value) (a : Addr) (vs : List Value) (ns : List Int),
   Ground q loose [] XP w s₀ mg mb s₁.heap -> YP w s₁.heap ->
   s₁.heap.get? fa = some o -> o.data = .func (docDef d.name d.params d.body d.scope pm cd doc) -> s₁.heap.CodeRec cd d.name -> mg d.name = some (.ref fa) ->
   s₁.heap.get? a = some { cls:=.type "list",data:=.seq vs.toArray } -> IntsAre vs ns -> ns.length <= n -> s₁.gens = #[] ->
   codeAny (model l.prog w) callerA (.call (.ref fa) ⟨[.ref a],[]⟩) (fun r s'=>r = .ok (.ret (.bool true)) /\ OldK s₁.heap s'.heap /\ s'.os = s₁.os /\ AllBare s'.gens) s₁) :
  WalkO q loose XP YP l.row.toRowW d [] (fun f vs=>PySem.call f vs):=by
 intro w s₀ s₁ mg mb G Y fa o pm cd doc dV kV ho hd hcd hD hmg hg args vals as hpre hlay hrd hwl hlo
 obtain rfl : dV = .none:=Dflts.none hD hdf
 obtain rfl : kV = .none:=Dflts.noKw hD
 obtain ⟨a,vs,ns,rfl,rfl,hobj,hints,hlen⟩:=z9a hn hpre hwl
 refine enter_call (codeAny_mono (call w s₀ s₁ mg mb fa o pm cd doc a vs ns G Y ho (fd_plain hd) hcd hmg hobj hints hlen hg) fun r s' hq=>?_)
 obtain ⟨rfl,h2,h3,h4⟩:=hq
 exact ⟨.inl ⟨.bool true,.bool true,[],rfl,fun _=>rfl,.bool true,z28 l _,fun _=>⟨List.Pairwise.nil,fun _ hm=>(nomatch hm)⟩⟩,h2,h3,h4⟩
section
variable {prog : Program} {w : World} {A : Around} {E : Value -> Shared -> Prop} {s : Shared} {K : Frag}
end
end Att
namespace L2
open PySem PySem.Spec PyProof.Rows
theorem zsa : ∀ {vs : List Value} {ns : List Int},IntsAre vs ns -> za8 (ns.map V.int) vs
 | _,_,.nil=>.nil
 | _,_,.cons n t h=>.cons ⟨t,rfl⟩ (zsa h)
noncomputable def zoa (H : Hp) : Prop:=∀ b,H b = none \/ ∃ o xs,H b = some (.frz o (.lst xs))
theorem z24 {P : Program} {w : World} {K : PySem.W.Frag} {mg mb : Str -> Option Value} {CX : CXT} {k : Nat} {fa a : Addr} {fd : FuncData} {x : Str} {sp : Sp} {s₁ : Shared} {vs : List Value} {ns : List Int}
  (KX : K.In s₁.heap) (hns : s₁.heap.Ns mainGlobals mg) (hb : s₁.heap.Ns builtinsNs mb) (hbb : ∀ x : Str,x ≠ "__name__" -> mb x = bootBuiltins x) (hlim : s₁.heap.NoLimit) (hg : s₁.gens = #[])
  (ha : s₁.heap.get? a = some { cls:=.type "list",data:=.seq vs.toArray }) (hi : IntsAre vs ns) (hl : ns.length <= sizeLine) (hr : zcf k callerA)
  (F : ∀ base : Heap,K.In base -> base.Ns mainGlobals mg -> zax P w K mg base CX k fa fd [x] sp) (hbind : ∀ (s : Shared) (u : Value),BindsTo s fd ⟨[u],[]⟩ [(x,u)])
  (hsp : ∀ H : Hp,zoa H -> SqL K H a (ns.map V.int) -> sp [.ref a] H (fun v _=>v = .bl true) fun _ _ _=>False)
  (hCX : ∀ H e s',CX [] H s₁ (fun _ _ _=>False) e s' -> False) :
  codeAny (model P w) callerA (.call (.ref fa) ⟨[.ref a],[]⟩) (fun r s'=>r = .ok (.ret (.bool true)) /\ OldK s₁.heap s'.heap /\ s'.os = s₁.os /\ AllBare s'.gens) s₁:=by
 have rv:=zsa hi
 have lenV:=hi.length
 have core : ∀ H : Hp,zoa H -> SqL K H a (ns.map V.int) -> HOk P w H s₁.heap -> (∀ b,H b ≠ none -> b = a) -> (H a ≠ none -> K.lookup a = none) ->
   codeAny (model P w) callerA (.call (.ref fa) ⟨[.ref a],[]⟩) (fun r s'=>r = .ok (.ret (.bool true)) /\ OldK s₁.heap s'.heap /\ s'.os = s₁.os /\ AllBare s'.gens) s₁:=by
  intro H hO hS hok hA hK
  have base_of : ∀ {b : Addr} {o : Obj},s₁.heap.get? b = some o -> H b = none -> (zgz s₁.heap H).get? b = some o:=fun e n=>zyt e n
  have noA : ∀ {b : Addr} {o : Obj} {es : Array DictEntry} {ep : Nat},s₁.heap.get? b = some o -> o.data = .dict es ep -> H b = none:=fun {b o es ep} e d=>by
   cases q : H b with
   | none=>rfl
   | some u =>
    have e' : b = a:=hA b (by rw [q]; simp)
    subst e'
    rw [ha] at e; cases e
    have d' : Data.seq vs.toArray _ = Data.dict es ep:=d
    cases d'
  have nsK : ∀ {b : Addr} {m : Str -> Option Value},s₁.heap.Ns b m -> (zgz s₁.heap H).Ns b m:=fun {b m} ⟨o,es,ep,e,d,r⟩=>⟨o,es,ep,base_of e (noA e d),d,r⟩
  have hKb : K.In (zgz s₁.heap H):=fun b o e=>base_of (KX b o e) (by
   cases q : H b with
   | none=>rfl
   | some u =>
    have e' : b = a:=hA b (by rw [q]; simp)
    subst e'
    rw [hK (by rw [q]; simp)] at e; cases e)
  have hM : Mod K mg (zgz s₁.heap H):=⟨hKb,nsK hns,⟨mb,nsK hb,hbb⟩,let ⟨mc,h1,h2⟩:=hlim; ⟨mc,nsK h1,h2⟩⟩
  have e0 : zib P w K mg (zgz s₁.heap H) callerA [] s₁ H:=⟨rfl,hM,fun b o e=>z3e e,Nat.le_of_eq (z5r _ _),trivial,fun b hb=>absurd (show b ∈ ([] : List Addr) from hb) (by simp),hok,.of_eq hg⟩
  refine codeAny_mono ((F _ hKb (nsK hns)).run callerA [] s₁ H ⟨[.ref a],[]⟩ [.ref a] [.ref a] _ _ hr e0 (hbind s₁ (.ref a)) (.cons rfl .nil) (hsp H hO hS)) fun r s' h=>?_
  cases r with
  | error e=>exact (hCX H e s' h).elim
  | ok fl =>
   cases fl with
   | next=>exact False.elim h
   | brk=>exact False.elim h
   | cont=>exact False.elim h
   | ret u =>
    obtain ⟨v,H',os,bare,un,hok',r',q⟩:=h
    have q' : v = .bl true:=q
    subst q'
    obtain rfl : u = Value.bool true:=r'
    refine ⟨rfl,OldK.of_keep fun b o e=>?_,os,bare⟩
    cases q : H b with
    | none=>exact un.keep b o e q (by intro z; exact absurd (show b ∈ ([] : List Addr) from z) (by simp)) (by simp)
    | some u =>
     rcases hO b with z | ⟨ob,xs,z⟩
     ·rw [q] at z; cases z
     ·have z2:=un.frzs b ob _ z
      obtain ⟨e1,_⟩:=hok b _ z
      obtain ⟨e2,_⟩:=hok' b _ z2
      rw [e] at e1; cases e1
      exact e2
 cases hk : K.lookup a with
 | some o =>
  have e:=KX a o hk
  rw [ha] at e
  cases e
  refine core (fun _=>none) (fun _=>.inl rfl) (.inr ⟨_,vs.toArray,_,hk,rfl,rfl,rfl,by rw [List.size_toArray,lenV]; exact hl,by simpa using rv⟩) (fun b u z=>by have z' : (none : Option HO) = some u:=z; cases z') (fun b z=>absurd rfl z) fun z=>absurd rfl z
 | none =>
  refine core (fun b=>if b = a then some (.frz { cls:=.type "list",data:=.seq vs.toArray } (.lst (ns.map V.int))) else none) (fun b=>?_) (.inl (.inr ⟨{ cls:=.type "list",data:=.seq vs.toArray },if_pos rfl⟩)) (fun b u z=>?_) (fun b z=>?_) fun _=>hk
  ·by_cases hb : b = a
   ·exact .inr ⟨_,_,if_pos hb⟩
   ·exact .inl (if_neg hb)
  ·by_cases hb : b = a
   ·have z':=(if_pos hb).symm.trans z
    cases z'
    subst hb
    exact ⟨ha,by rw [List.length_map]; exact hl,vs,_,rv,ha⟩
   ·have z':=(if_neg hb).symm.trans z
    cases z'
  ·by_cases hb : b = a
   ·exact hb
   ·exact absurd (if_neg hb) z
noncomputable abbrev KOf {K : PySem.W.Frag} {h : Heap} (_ : K.In h) : PySem.W.Frag:=K
theorem z1y {l : PySem.W.OpenLaw} {n k : Nat} {q : Program} {loose : List Str} {XP : (Str -> Option Value) -> Heap -> Prop} {YP : World -> Heap -> Prop} {d : DefRec} {K : Params -> PySem.W.Frag} {CX : World -> CXT} {sp : World -> Sp} {x : Str}
  (hn : l.most = some n) (hn2 : n <= sizeLine) (hdf : d.params.defaults = []) (hr : zcf k callerA)
  (hY : ∀ (w : World) (h : Heap),YP w h -> (K w.params).In h)
  (F : ∀ (w : World) (mg : Str -> Option Value) (fa : Addr) (h : Heap),(K w.params).In h -> h.Ns mainGlobals mg -> mg d.name = some (.ref fa) ->
   ∃ fd : FuncData,(∀ (s : Shared) (u : Value),BindsTo s fd ⟨[u],[]⟩ [(x,u)]) /\
    ∀ base : Heap,(K w.params).In base -> base.Ns mainGlobals mg -> zax l.prog w (K w.params) mg base (CX w) k fa fd [x] (sp w))
  (hsp : ∀ (w : World) (H : Hp) (a : Addr) (ns : List Int),ns.length <= n -> zoa H -> SqL (K w.params) H a (ns.map V.int) -> sp w [.ref a] H (fun v _=>v = .bl true) fun _ _ _=>False)
  (hCX : ∀ (w : World) (H : Hp) (s : Shared) (e : Value) (s' : Shared),CX w [] H s (fun _ _ _=>False) e s' -> False) :
  PySem.W.WalkO q loose XP YP l.row.toRowW d [] (fun f vs=>PySem.call f vs):=by
 refine Att.attach_call hn hdf fun w s₀ s₁ mg mb fa o pm cd doc a vs ns G Y ho hd hcd hmg hobj hints hlen hg=>?_
 have KX:=hY w _ Y
 obtain ⟨fd,hb,hF⟩:=F w mg fa _ KX G.T.g hmg
 exact z24 KX G.T.g G.T.b G.T.builtins G.T.nolimit hg hobj hints (Nat.le_trans hlen hn2) hr hF hb (fun H hO hS=>hsp w H a ns hlen hO hS) fun H e s'=>hCX w H s₁ e s'
theorem walk_ofK {l : PySem.W.OpenLaw} {n k : Nat} {q : Program} {loose : List Str} {XP : (Str -> Option Value) -> Heap -> Prop} {YP : World -> Heap -> Prop} {d : DefRec} {K : Params -> PySem.W.Frag} {CX : CXT} {sp : PySem.W.Frag -> Sp} {x : Str}
  (hn : l.most = some n) (hn2 : n <= sizeLine) (hdf : d.params.defaults = []) (hr : zcf k callerA)
  (hY : ∀ (w : World) (h : Heap),YP w h -> (K w.params).In h)
  (F : ∀ (w : World) (mg : Str -> Option Value) (fa : Addr) (h : Heap),(K w.params).In h -> h.Ns mainGlobals mg -> mg d.name = some (.ref fa) ->
   ∃ fd : FuncData,(∀ (s : Shared) (u : Value),BindsTo s fd ⟨[u],[]⟩ [(x,u)]) /\
    ∀ base : Heap,(K w.params).In base -> base.Ns mainGlobals mg -> zax l.prog w (K w.params) mg base CX k fa fd [x] (sp (K w.params)))
  (hsp : ∀ (K : PySem.W.Frag) (H : Hp) (a : Addr) (ns : List Int),ns.length <= n -> zoa H -> SqL K H a (ns.map V.int) -> sp K [.ref a] H (fun v _=>v = .bl true) fun _ _ _=>False)
  (hCX : ∀ (H : Hp) (s : Shared) (e : Value) (s' : Shared),CX [] H s (fun _ _ _=>False) e s' -> False) :
  PySem.W.WalkO q loose XP YP l.row.toRowW d [] (fun f vs=>PySem.call f vs) :=
 z1y (K:=K) (CX:=fun _=>CX) (sp:=fun w=>sp (K w.params)) hn hn2 hdf hr hY F (fun w H a ns h1 h2 h3=>hsp (K w.params) H a ns h1 h2 h3) fun _ H s e s'=>hCX H s e s'
noncomputable def zfq (s : Stmt) (j : Nat) : Stmt:=match s with
 | .ClassDef _ _ _ body _ _ _ _ _ _ _=>body.getD j (.Pass ⟨0,0,0,0⟩)
 | _=>.Pass ⟨0,0,0,0⟩
noncomputable def zbd (s : Stmt) : Arguments:=match s with
 | .FunctionDef _ a _ _ _ _ _ _ _ _=>a
 | _=>{ posonlyargs:=[],args:=[],vararg:=none,kwonlyargs:=[],kw_defaults:=[],kwarg:=none,defaults:=[] }
noncomputable def za9 (s : Stmt) : List Stmt:=match s with
 | .FunctionDef _ _ b _ _ _ _ _ _ _=>b
 | _=>[]
noncomputable def zao (s : Stmt) : Scope:=match s with
 | .FunctionDef _ _ _ _ _ _ sc _ _ _=>sc
 | _=>{ kind:=.function,names:=[],isGenerator:=false,isCoroutine:=false }
noncomputable abbrev CX0 : CXT:=fun _ _ _ _ _ _=>False
noncomputable abbrev E0 : XK:=fun _ _ _=>False
theorem zgo {X : Cx} : zj4 CX0 X E0:=fun _ _ _ _ _ _ _ h=>h.elim
structure Fun (K : PySem.W.Frag) (x qual : Str) (st : Stmt) (f : Addr) (fd : FuncData) : Prop where
 ex : ∃ (oc : Value) (od : Option Addr) (kV doc pm : Value) (an : Option Addr) (cdv ct : Value) (osl : Array (Option Value)),
  fd = PySem.W.fnOf x qual (zbd st) (za9 st) (zao st) .none kV doc pm an cdv ct /\ K.lookup f = some ⟨oc,od,.func fd,osl⟩ /\ PySem.W.codeIn K cdv qual = true
 kp : PySem.W.keepIn K (.ref f) = true
section
variable {P : Program} {w : World} {K : PySem.W.Frag} {mg : Str -> Option Value} {base : Heap}
theorem Fun.ok {x qual : Str} {st : Stmt} {f : Addr} {fd : FuncData} {N ps : List Str} {k : Nat} {sp : Sp} (F : Fun K x qual st f fd) (S : zba N ps (zao st)) (len : ∀ vs H Q E,sp vs H Q E -> vs.length = ps.length)
  (hbody : ∀ (cdv : Value) (A : Around) (outer : List Env) (s : Shared) (H : Hp) (vs : List V) (Q : VK) (E : XK),zcf k (A.deeper (envOfC qual (zao st) s.heap.objs.size f cdv)) -> sp vs H Q E ->
   ∃ t,PSs (zgf CX0 P w K mg base N qual (zao st) f cdv A outer s H E).nox (za9 st) t /\ t { nx:=fun _ H'=>Q .non H',rt:=Q } (start N vs) H) : zax P w K mg base CX0 (k + 1) f fd ps sp:=by
 obtain ⟨oc,od,kV,doc,pm,an,cdv,ct,osl,rfl,lk,hcd⟩:=F.ex
 refine z30 lk hcd S len fun A outer s H vs Q E hr hsp=>?_
 obtain ⟨t,h,q⟩:=hbody cdv A outer s H vs Q E hr hsp
 exact ⟨t,h.nox,q⟩
theorem Fun.binds {x qual : Str} {st : Stmt} {f : Addr} {fd : FuncData} {ps : List Str} (F : Fun K x qual st f fd)
  (h : ∀ (kV doc pm : Value) (an : Option Addr) (cdv ct : Value) (us : List Value),us.length = ps.length -> bindArgs (PySem.W.fnOf x qual (zbd st) (za9 st) (zao st) .none kV doc pm an cdv ct) ⟨us,[]⟩ = pure (ps.zip us)) : za2 K fd ps []:=by
 obtain ⟨oc,od,kV,doc,pm,an,cdv,ct,osl,rfl,lk,hcd⟩:=F.ex
 exact .all (h kV doc pm an cdv ct)
theorem zbm {x qual : Str} {st : Stmt} {f : Addr} {oc : Value} {od an : Option Addr} {osl : Array (Option Value)} {kV doc pm cdv ct : Value} (l : K.lookup f = some ⟨oc,od,.func (PySem.W.fnOf x qual (zbd st) (za9 st) (zao st) .none kV doc pm an cdv ct),osl⟩)
  (c : PySem.W.codeIn K cdv qual = true) (k : PySem.W.keepIn K (.ref f) = true) : Fun K x qual st f (PySem.W.fnOf x qual (zbd st) (za9 st) (zao st) .none kV doc pm an cdv ct):=⟨⟨oc,od,kV,doc,pm,an,cdv,ct,osl,rfl,l,c⟩,k⟩
end
theorem ztu {n : Nat} (h : n <= 1000) : n < sizeLine:=Nat.lt_of_le_of_lt h (by decide)
section
variable {X : Cx}
theorem pv (i : Nat) {x : Str} {pos : Pos} (hN : X.N[i]? = some x:=by rfl) (hv : Vis X.env.scope x:=by first | exact Or.inl rfl | exact Or.inr (Or.inl rfl) | exact Or.inr (Or.inr rfl)) (hd : (x == ("__debug__" : Str)) = false:=by decide)
  (hcd : (x == ("__classdict__" : Str)) = false:=by decide) : PE X (.Name x pos) (zeh i):=zg0 hN hv hd hcd
end
theorem ztd {A B : Prop} (h : B) : if false = true then A else B:=by
 rw [if_neg Bool.false_ne_true]
 exact h
theorem zvf {A B : Prop} (h : A) : if true = true then A else B:=by
 rw [if_pos rfl]
 exact h
noncomputable def za7 (H H' : Hp) : Prop:=∀ b o,H b = some o -> H' b = some o
theorem za7.refl (H : Hp) : za7 H H:=fun _ _ h=>h
theorem za7.trans {H H1 H2 : Hp} (a : za7 H H1) (b : za7 H1 H2) : za7 H H2:=fun c o h=>b c o (a c o h)
theorem za7.free {H H' : Hp} (e : za7 H H') {l : Addr} (h : H' l = Option.none) : H l = Option.none:=by
 cases q : H l with
 | none=>rfl
 | some o =>
  rw [e l o q] at h
  cases h
theorem za7.seq {K : PySem.W.Frag} {H H' : Hp} {a : Addr} {xs : List V} (e : za7 H H') (h : SqL K H a xs) : SqL K H' a xs:=by
 rcases h with (h | ⟨o,h⟩) | h
 ·exact .inl (.inl (e _ _ h))
 ·exact .inl (.inr ⟨o,e _ _ h⟩)
 ·exact .inr h
section
variable {κ : Type} [DecidableEq κ]
noncomputable def zek (kvs : List (κ × V)) (k : κ) : Option V:=(kvs.find? fun kv=>decide (kv.1 = k)).map (·.2)
noncomputable def zd9 (kvs : List (κ × V)) (k : κ) (v : V) : List (κ × V) :=
 if (kvs.any fun kv=>decide (kv.1 = k)) = true then kvs.map (fun kv=>if kv.1 = k then (kv.1,v) else kv) else kvs ++ [(k,v)]
theorem zrk {p : κ × V} {r : List (κ × V)} {k : κ} (e : p.1 = k) : zek (p :: r) k = some p.2:=by simp [zek,List.find?_cons,e]
theorem zpt {p : κ × V} {r : List (κ × V)} {k : κ} (e : ¬ p.1 = k) : zek (p :: r) k = zek r k:=by simp [zek,List.find?_cons,e]
theorem zpr (k : κ) : ∀ kvs : List (κ × V),(kvs.any fun kv=>decide (kv.1 = k)) = (zek kvs k).isSome
 | []=>rfl
 | p :: r=>by
  rw [List.any_cons]
  by_cases e : p.1 = k
  ·simp only [zrk e,decide_eq_true e,Bool.true_or,Option.isSome_some]
  ·rw [zpt e,decide_eq_false e,Bool.false_or]; exact zpr k r
theorem zq2 (kvs : List (κ × V)) (k : κ) (v : V) : (zd9 kvs k v).length <= kvs.length + 1:=by
 unfold zd9
 split
 ·rw [List.length_map]; omega
 ·rw [List.length_append,List.length_cons,List.length_nil]; omega
theorem zei.isSome_eq {o : Option V} {u : Option Value} (r : zei o u) : o.isSome = u.isSome:=by
 cases o with
 | none=>cases u with
  | none=>rfl
  | some _=>exact (show False from r).elim
 | some _=>cases u with
  | none=>exact (show False from r).elim
  | some _=>rfl
theorem KV.val {kvs : List (κ × V)} {vs : List (κ × Value)} (r : KV kvs vs) (k : κ) : zei (zek kvs k) (valueAt vs k):=by
 unfold KV at r
 induction r with
 | nil=>exact True.intro
 | @cons p q ps qs h t ih =>
  obtain ⟨h1,h2⟩:=h
  by_cases e : p.1 = k
  ·have e' : q.1 = k:=h1.symm.trans e
   have b : valueAt (q :: qs) k = some q.2:=by simp [valueAt,List.find?_cons,e']
   rw [zrk e,b]; exact h2
  ·have e' : ¬ q.1 = k:=fun z=>e (h1.trans z)
   have b : valueAt (q :: qs) k = valueAt qs k:=by simp [valueAt,List.find?_cons,e']
   rw [zpt e,b]; exact ih
theorem KV.any {kvs : List (κ × V)} {vs : List (κ × Value)} (r : KV kvs vs) (k : κ) : (kvs.any fun kv=>decide (kv.1 = k)) = vs.any fun kv=>decide (kv.1 = k):=by
 unfold KV at r
 induction r with
 | nil=>rfl
 | cons h t ih=>rw [List.any_cons,List.any_cons,ih,h.1]
theorem KV.repl {kvs : List (κ × V)} {vs : List (κ × Value)} (r : KV kvs vs) (k : κ) {y : V} {u : Value} (ry : za5 y u) :
  KV (kvs.map fun kv=>if kv.1 = k then (kv.1,y) else kv) (vs.map fun kv=>if kv.1 = k then (kv.1,u) else kv):=by
 unfold KV at r ⊢
 induction r with
 | nil=>exact .nil
 | @cons p q ps qs h t ih =>
  rw [List.map_cons,List.map_cons]
  refine .cons ?_ ih
  obtain ⟨h1,h2⟩:=h
  by_cases e : p.1 = k
  ·rw [if_pos e,if_pos (h1.symm.trans e)]; exact ⟨h1,ry⟩
  ·rw [if_neg e,if_neg (fun z=>e (h1.trans z))]; exact ⟨h1,h2⟩
theorem KV.put {kvs : List (κ × V)} {vs : List (κ × Value)} (r : KV kvs vs) (k : κ) {y : V} {u : Value} (ry : za5 y u) : KV (zd9 kvs k y) (stored vs k u):=by
 unfold zd9 stored
 rw [r.any k]
 by_cases e : (vs.any fun kv=>decide (kv.1 = k)) = true
 ·rw [if_pos e,if_pos e]; exact r.repl k ry
 ·rw [if_neg e,if_neg e]; exact Paired.snoc r ⟨rfl,ry⟩
theorem KV.length {kvs : List (κ × V)} {vs : List (κ × Value)} (r : KV kvs vs) : kvs.length = vs.length:=Paired.length r
end
theorem zlk {P : Program} {w : World} {k : Key} {u : Value} (r : za5 (kV k) u) : (zef P w).is k u = true:=by
 cases k with
 | inl i=>obtain ⟨t,e⟩:=(show ∃ t,u = Value.int i t from r); subst e; exact z3a P w i t
 | inr x=>obtain ⟨t,e⟩:=(show ∃ t,u = Value.str x t from r); subst e; exact z2c P w x t
theorem zu8 {P : Program} {w : World} : ∀ {ks : List Key} {us : List Value},za8 (ks.map kV) us -> ItemsAre (zef P w) ks us
 | [],_,r=>by rw [List.map_nil] at r; cases r; exact .nil
 | k :: ks,_,r=>by
  rw [List.map_cons] at r
  cases r with
  | cons h t=>exact .cons (zlk h) (zu8 t)
noncomputable abbrev KT (H : Hp) : List (List Key × V) -> List (List Key × Addr × Value) -> Prop:=Paired fun p q=>p.1 = q.1 /\ H q.2.1 = some (.tup (p.1.map kV)) /\ za5 p.2 q.2.2
theorem KT.val {H : Hp} {kvs : List (List Key × V)} {xs : List (List Key × Addr × Value)} (r : KT H kvs xs) (k : List Key) : zei (zek kvs k) ((atKey xs k).map (·.2)):=by
 induction r with
 | nil=>exact True.intro
 | @cons p q ps qs h t ih =>
  obtain ⟨h1,_,h2⟩:=h
  by_cases e : p.1 = k
  ·have e' : q.1 = k:=h1.symm.trans e
   have b : atKey (q :: qs) k = some q.2:=by simp [atKey,List.find?_cons,e']
   rw [zrk e,b]; exact h2
  ·have e' : ¬ q.1 = k:=fun z=>e (h1.trans z)
   have b : atKey (q :: qs) k = atKey qs k:=by simp [atKey,List.find?_cons,e']
   rw [zpt e,b]; exact ih
theorem KT.repl {H : Hp} {kvs : List (List Key × V)} {xs : List (List Key × Addr × Value)} (r : KT H kvs xs) (k : List Key) {y : V} {u : Value} (ry : za5 y u) :
  KT H (kvs.map fun kv=>if kv.1 = k then (kv.1,y) else kv) (xs.map (putAt k u)):=by
 induction r with
 | nil=>exact .nil
 | @cons p q ps qs h t ih =>
  rw [List.map_cons,List.map_cons]
  refine .cons ?_ ih
  obtain ⟨h1,h2,h3⟩:=h
  unfold putAt
  by_cases e : p.1 = k
  ·rw [if_pos e,if_pos (h1.symm.trans e)]; exact ⟨h1,h2,ry⟩
  ·rw [if_neg e,if_neg (fun z=>e (h1.trans z))]; exact ⟨h1,h2,h3⟩
theorem KT.put {H : Hp} {kvs : List (List Key × V)} {xs : List (List Key × Addr × Value)} (r : KT H kvs xs) (k : List Key) {b : Addr} {y : V} {u : Value} (hb : H b = some (.tup (k.map kV))) (ry : za5 y u) :
  KT H (zd9 kvs k y) (storedH xs k b u):=by
 have e : (kvs.any fun kv=>decide (kv.1 = k)) = (atKey xs k).isSome:=by
  rw [zpr,(r.val k).isSome_eq,Option.isSome_map]
 unfold zd9 storedH
 rw [e]
 by_cases q : (atKey xs k).isSome = true
 ·rw [if_pos q,if_pos q]; exact r.repl k ry
 ·rw [if_neg q,if_neg q]; exact Paired.snoc r ⟨rfl,hb,ry⟩
theorem KT.keeps {H H' : Hp} {kvs : List (List Key × V)} {xs : List (List Key × Addr × Value)} (r : KT H kvs xs) (ht : ∀ b ys,H b = some (.tup ys) -> H' b = some (.tup ys)) : KT H' kvs xs :=
 Paired.mapP r fun _ _ z=>⟨z.1,ht _ _ z.2.1,z.2.2⟩
section
variable {P : Program} {w : World} {H : Hp} {h : Heap} {a : Addr}
theorem ztm {u : HO} (ok : HOk P w H h) (e : Rd H a u) : zcw P w H h a u:=e.ok ok
theorem zod {kvs : List (Key × V)} (ok : HOk P w H h) (e : Rd H a (.dK kvs)) : kvs.length <= sizeLine /\ (a == sysModules) = false /\ ∃ vs,KV kvs vs /\ h.DictOf (zef P w) a vs :=
 show zcw P w H h a (.dK kvs) from ztm ok e
theorem zuv {kvs : List (Key × V)} (ok : HOk P w H h) (e : H a = some (.dK kvs)) : kvs.length <= sizeLine /\ (a == sysModules) = false /\ ∃ vs,KV kvs vs /\ h.DictOf (zef P w) a vs:=zod ok (.inl e)
theorem zn3 {ks : List Key} (ok : HOk P w H h) (e : H a = some (.tup (ks.map kV))) : (tupleKind (zef P w)).is h ks a:=by
 obtain ⟨_,its,r,o,h1,h2,n,h3⟩:=(show zcw P w H h a (.tup (ks.map kV)) from ok a _ e)
 exact ⟨o,its.toArray,n,h1,h2,h3,by simpa using zu8 r⟩
theorem znl {kvs : List (List Key × V)} (ok : HOk P w H h) (e : Rd H a (.dT kvs)) : kvs.length <= sizeLine /\ (a == sysModules) = false /\
  ∃ xs,KT H kvs xs /\ h.DictOfH (tupleKind (zef P w)) a xs:=by
 obtain ⟨z,y,xs,r,o,es,ep,h1,h2,h3,h4,h5⟩:=(show zcw P w H h a (.dT kvs) from ztm ok e)
 refine ⟨z,y,xs,r,o,es,ep,h1,h2,h3,h4,fun x hx=>?_,h5⟩
 have all : ∀ {l : List (List Key × V)} {m : List (List Key × Addr × Value)},KT H l m -> ∀ x ∈ m,(tupleKind (zef P w)).is h x.1 x.2.1:=by
  intro l m q
  induction q with
  | nil=>intro x hx; exact nomatch hx
  | @cons p q ps qs hq t ih =>
   intro x hx
   rcases List.mem_cons.mp hx with e | hx
   ·subst e
    exact zn3 ok (by rw [<- hq.1]; exact hq.2.1)
   ·exact ih x hx
 exact all r x hx
theorem zyc {kvs : List (List Key × V)} (ok : HOk P w H h) (e : H a = some (.dT kvs)) : kvs.length <= sizeLine /\ (a == sysModules) = false /\
  ∃ xs,KT H kvs xs /\ h.DictOfH (tupleKind (zef P w)) a xs:=znl ok (.inl e)
end
noncomputable def zfu (H : Hp) (a : Addr) (y : V) (r : Option V) : Prop :=
 (∃ kvs k,Rd H a (.dK kvs) /\ y = kV k /\ r = zek kvs k) \/ ∃ kvs k b,Rd H a (.dT kvs) /\ y = .ref b /\ H b = some (.tup (k.map kV)) /\ r = zek kvs k
noncomputable def zlf (H : Hp) (a : Addr) (y v : V) (H' : Hp) : Prop :=
 (∃ kvs k,H a = some (.dK kvs) /\ y = kV k /\ kvs.length < sizeLine /\ H' = upd H a (.dK (zd9 kvs k v))) \/
 ∃ kvs k b,H a = some (.dT kvs) /\ y = .ref b /\ H b = some (.tup (k.map kV)) /\ kvs.length < sizeLine /\ H' = upd H a (.dT (zd9 kvs k v))
theorem zfu.k {H : Hp} {a : Addr} {kvs : List (Key × V)} {k : Key} (e : H a = some (.dK kvs)) : zfu H a (kV k) (zek kvs k):=.inl ⟨kvs,k,.inl e,rfl,rfl⟩
theorem zlf.k {H : Hp} {a : Addr} {kvs : List (Key × V)} {k : Key} {v : V} (e : H a = some (.dK kvs)) (hl : kvs.length < sizeLine) : zlf H a (kV k) v (upd H a (.dK (zd9 kvs k v))):=.inl ⟨kvs,k,e,rfl,hl,rfl⟩
section
variable {X : Cx} {pins : List (Addr × Obj)} {σ : St} {H : Hp} {s : Shared} {a : Addr} {y v : V} {u r : Value} {o : Option V} {A : Around} {E : Value -> Shared -> Prop}
theorem Inv.big (I : Inv X pins σ H s) : sysModules < s.heap.objs.size:=by
 have h : mainGlobals < s.heap.objs.size:=(I.mod.glob.keeps I.bk).lt
 exact Nat.lt_trans (by decide) h
theorem z2a {Q : Value -> Shared -> Prop} (hu : A.units + 1 < cLine) (I : Inv X pins σ H s) (g : zfu H a y (some v)) (ry : za5 y u) (h : ∀ w' s',Inv X pins σ H s' -> za5 v w' -> Q w' s') :
  wpAny (model X.prog X.w) A (getItem (.ref a) u) Q E s:=by
 rcases g with ⟨kvs,k,e,ey,l⟩ | ⟨kvs,k,b,e,ey,eb,l⟩
 ·subst ey
  obtain ⟨z,hd,vs,rel,dd⟩:=zod I.hok e
  obtain ⟨w',hw,rw'⟩:=zei.some_of (v:=v) (o:=valueAt vs k) (by rw [l]; exact rel.val k)
  exact wpAny_getItem_of (zlk ry) dd.mapOf hw (h w' _ (I.tok _) rw')
 ·subst ey
  cases (show u = Value.ref b from ry)
  obtain ⟨z,hd,xs,rel,dd⟩:=znl I.hok e
  obtain ⟨w',hw,rw'⟩:=zei.some_of (v:=v) (o:=(atKey xs k).map (·.2)) (by rw [l]; exact rel.val k)
  obtain ⟨p,hp,hp2⟩:=Option.map_eq_some_iff.mp hw
  refine wpAny_getItem_heap (tupleKind_room_in1 hu) (zn3 I.hok eb) dd hp ?_
  rw [hp2]
  exact h w' _ (I.tok _) rw'
theorem z6u {Q : Value -> Shared -> Prop} (hu : A.units + 1 < cLine) (I : Inv X pins σ H s) (g : zfu H a y o) (ry : za5 y u) (h : ∀ s',Inv X pins σ H s' -> Q (.bool o.isSome) s') :
  wpAny (model X.prog X.w) A (compareOp .In u (.ref a)) Q E s:=by
 rcases g with ⟨kvs,k,e,ey,l⟩ | ⟨kvs,k,b,e,ey,eb,l⟩
 ·subst ey
  obtain ⟨z,hd,vs,rel,dd⟩:=zod I.hok e
  refine wpAny_in_of (zlk ry) hd dd.mapOf ?_
  rw [<- (rel.val k).isSome_eq,<- l]
  exact h _ (I.tok _)
 ·subst ey
  cases (show u = Value.ref b from ry)
  obtain ⟨z,hd,xs,rel,dd⟩:=znl I.hok e
  refine wpAny_in_heap (tupleKind_room_in1 hu) (zn3 I.hok eb) hd dd ?_
  have q:=(rel.val k).isSome_eq
  rw [Option.isSome_map] at q
  rw [<- q,<- l]
  exact h _ (I.tok _)
theorem zp9 {h' : Heap} {t' : Nat} {ob : HO} (I : Inv X pins σ H s) (mu : Mut (H a)) (hs : Heap.SameBut a s.heap h') (he : ∃ q,h'.get? a = some q) (new : zcw X.prog X.w (upd H a ob) h' a ob) :
  Inv X pins σ (upd H a ob) { s with heap:=h',toks:=t' } :=
 I.write (x:=a) (e:=a) mu (.inl rfl) (fun b q hb z=>(hs.2 b hb).trans z) he new
theorem zwg {P : Program} {w : World} {H' : Hp} {h' : Heap} {kvs : List (Key × V)} {vs : List (Key × Value)} (z : kvs.length <= sizeLine) (hd : (a == sysModules) = false) (rel : KV kvs vs) (dd : h'.DictOf (zef P w) a vs) :
  zcw P w H' h' a (.dK kvs):=⟨z,hd,vs,rel,dd⟩
theorem z3r {H' : Hp} {Q : Unit -> Shared -> Prop} (hu : A.units + 1 < cLine) (I : Inv X pins σ H s) (g : zlf H a y v H') (ry : za5 y u) (rv : za5 v r) (h : ∀ s',Inv X pins σ H' s' -> Q () s') :
  wpAny (model X.prog X.w) A (setItem (.ref a) u r) Q E s:=by
 rcases g with ⟨kvs,k,e,ey,l,eH⟩ | ⟨kvs,k,b,e,ey,eb,l,eH⟩
 ·subst ey eH
  obtain ⟨z,hd,vs,rel,dd⟩:=zuv I.hok e
  have hz : vs.length <= sizeLine:=by rw [<- rel.length]; exact z
  have hl : (zd9 kvs k v).length <= sizeLine:=by have:=zq2 kvs k v; omega
  refine wpAny_setItem_pairs (hsz:=hz) (zlk ry) dd fun h' dd' hs=>h _ ?_
  have he : ∃ q,h'.get? a = some q:=let ⟨q,_,_,hq,_⟩:=dd'; ⟨q,hq⟩
  exact zp9 I (by rw [e]; exact True.intro) hs he (zwg hl hd (rel.put k rv) dd')
 ·subst ey eH
  cases (show u = Value.ref b from ry)
  obtain ⟨z,hd,xs,rel,dd⟩:=zyc I.hok e
  have hz : xs.length <= sizeLine:=by rw [<- Paired.length rel]; exact z
  have hl : (zd9 kvs k v).length <= sizeLine:=by have:=zq2 kvs k v; omega
  refine wpAny_setItem_heap (hsz:=hz) (tupleKind_room_in1 hu) (zn3 I.hok eb) dd fun h' dd' hs=>h _ ?_
  obtain ⟨q,es,ep,hq,h2,h3,h4,_,h5⟩:=dd'
  refine zp9 I (by rw [e]; exact True.intro) hs ⟨q,hq⟩ ⟨hl,hd,_,(rel.put k eb rv).keeps fun c ys ec=>?_,q,es,ep,hq,h2,h3,h4,h5⟩
  rw [zb1 (z7o ec e (fun z=>nomatch z))]
  exact ec
end
section
variable {X : Cx} {pins : List (Addr × Obj)} {σ : St} {H : Hp} {s : Shared} {a : Addr} {kvs : List (Key × V)} {k : Key} {u : Value} {A : Around} {E : Value -> Shared -> Prop}
end
noncomputable def zqt (i : Expr) : Prop:=∀ ov iv,subscripted i false ov iv = operate [ov,iv] (getItem ov iv)
theorem z6t {prog : Program} {w : World} {A : Around} {E : Value -> Shared -> Prop} {s : Shared} {env : Env} {value slice : Expr} {pos : Pos} {T id : String} {Q : Value -> Shared -> Prop}
  (hl : typeLookup (.type T) "__getitem__" = pure (some (.builtin id))) (hs : zqt slice)
  (h : wpAny (model prog w) A (eval value env) (fun o s₁=>wpAny (model prog w) A (eval slice env) (fun i s₂=>s₂.TypeIs o T /\ wpAny (model prog w) A (getItem o i) Q E s₂) E s₁) E s) :
  wpAny (model prog w) A (eval (.Subscript value slice pos) env) Q E s:=by
 refine Subscript_ (wpAny_mono h (fun o s₁ h₁=>wpAny_mono h₁ (fun i s₂ h₂=>?_) fun _ _ x=>x) fun _ _ x=>x)
 obtain ⟨hT,h₂⟩:=h₂
 unfold subscriptTail
 refine wpAny_bind ?_
 rw [getitemInPython_of_ne hT.not_modules]
 refine wpAny_bind (wpAny_specialOf hT hl ?_)
 have fin : wpAny (model prog w) A (subscripted slice false o i) (fun r s₃=>wpAny (model prog w) A (letTemporaryGo value o r >>= fun _=>pure r) Q E s₃) E s₂:=by
  rw [hs o i]
  exact wpAny_operating (wpAny_mono h₂ (fun r s₃ h₃=>wpAny_bind (wpAny_letTemporaryGo (wpAny_pure h₃))) fun _ _ x=>x)
 first
  | exact wpAny_pure (wpAny_bind fin)
  | exact wpAny_bind (wpAny_pure (wpAny_bind fin))
  | exact wpAny_bind fin
theorem zxx {X : Cx} {pins : List (Addr × Obj)} {σ : St} {H : Hp} {s : Shared} {a : Addr} {y : V} {o : Option V} (I : Inv X pins σ H s) (g : zfu H a y o) : s.TypeIs (.ref a) "dict":=by
 rcases g with ⟨kvs,k,e,_,_⟩ | ⟨kvs,k,b,e,_,_,_⟩
 ·obtain ⟨_,_,vs,_,dd⟩:=zod I.hok e
  exact dd.typeIs
 ·obtain ⟨_,_,xs,_,dd⟩:=znl I.hok e
  exact dd.typeIs
noncomputable def zyy (td ty : TE) : TE:=fun σ H Q=>td σ H fun x H1=>ty σ H1 fun y H2=>∃ a v,x = .ref a /\ zfu H2 a y (some v) /\ Q v H2
noncomputable def z6b (ty td : TE) : TE:=fun σ H Q=>ty σ H fun y H1=>td σ H1 fun x H2=>∃ a o,x = .ref a /\ zfu H2 a y o /\ Q (.bl o.isSome) H2
noncomputable def zs9 (td ty tv : TE) : TS:=fun D σ H=>tv σ H fun v H1=>td σ H1 fun x H2=>ty σ H2 fun y H3=>∃ a H4,x = .ref a /\ zlf H3 a y v H4 /\ D.nx σ H4
section
variable {X : Cx} {o i e value : Expr} {pos pos' tpos : Pos} {td ty tv : TE}
theorem z7e (hu : X.A.units + 1 < cLine) (ho : PE X o td) (hi : PE X i ty) (hs : zqt i) : PE X (.Subscript o i pos) (zyy td ty):=by
 intro pins s σ H Q I h
 refine z6t PySem.F.slot_dict_getitem.lookup hs (thn (ho pins s σ H _ I h) fun u s1 ⟨x,H1,I1,rx,q1⟩=>thn (hi pins s1 σ H1 _ I1 q1) fun iv s2 ⟨y,H2,I2,ry,a,v,ex,g,q2⟩=>?_)
 subst ex
 obtain rfl : u = Value.ref a:=rx
 exact ⟨zxx I2 g,z2a hu I2 g ry fun w' s3 I3 rw'=>⟨v,H2,I3,rw',q2⟩⟩
theorem z8a (hu : X.A.units + 1 < cLine) (hi : PE X i ty) (ho : PE X o td) : PC X .In i o (z6b ty td):=by
 intro pins s σ H Q I h
 refine thn (hi pins s σ H _ I h) fun iv s1 ⟨y,H1,I1,ry,q1⟩=>thn (ho pins s1 σ H1 _ I1 q1) fun u s2 ⟨x,H2,I2,rx,a,ov,ex,g,q2⟩=>?_
 subst ex
 obtain rfl : u = Value.ref a:=rx
 exact z6u hu I2 g ry fun s3 I3=>⟨.bl ov.isSome,H2,I3,rfl,q2⟩
theorem z4j (hu : X.A.units + 1 < cLine) (ho : PE X o td) (hi : PE X i ty) (hv : PE X value tv) (hs : swapsWith value (some (.Subscript o i pos')) pos.line X.env = pure false) :
  PS X (.Assign [.Subscript o i pos'] value pos) (zs9 td ty tv):=by
 intro pins s σ H D I h
 refine wpAny_Assign_Subscript (thn (hv pins s σ H _ I h) fun r s1 ⟨v,H1,I1,rv,q1⟩=>thn (ho pins s1 σ H1 _ I1 q1) fun u s2 ⟨x,H2,I2,rx,q2⟩=>thn (hi pins s2 σ H2 _ I2 q2) fun iv s3 ⟨y,H3,I3,ry,a,H4,ex,g,q3⟩=>?_) hs
 subst ex
 obtain rfl : u = Value.ref a:=rx
 exact z3r hu I3 g ry rv fun s4 I4=>⟨σ,H4,I4,q3⟩
end
theorem zth {P : Program} {w : World} {H : Hp} (h : Heap) (hb : sysModules < h.objs.size) : zcw P w H (h.push { cls:=.type "dict",data:=.dict #[] }) h.objs.size (.dK []) :=
 ⟨Nat.zero_le _,beq_eq_false_iff_ne.mpr (Ne.symm (Nat.ne_of_lt hb)),[],.nil,Heap.DictOf.new h⟩
noncomputable def zvw : TE:=fun _ H Q=>∀ p,H p = none -> Q (.ref p) (upd H p (.dK []))
section
variable {X : Cx} {pos : Pos}
theorem z6l : PE X (.Dict [] [] pos) zvw:=fun pins s σ H Q I h =>
 wpAny_Dict_empty ⟨.ref s.heap.objs.size,_,I.laid (a:=s.heap.objs.size) (o:=.dK []) (t':=s.toks) (fun _ _ q=>Heap.get?_push_of_some _ q) (Nat.le_refl _) (zth s.heap I.big),rfl,h _ (I.hok.fresh (Nat.le_refl _))⟩
end
noncomputable def zou : List (TE × TE) -> St -> Hp -> (List (V × V) -> Hp -> Prop) -> Prop
 | [],_,H,Q=>Q [] H
 | (tk,tv) :: r,σ,H,Q=>tk σ H fun x H1=>tv σ H1 fun y H2=>zou r σ H2 fun ps H3=>Q ((x,y) :: ps) H3
noncomputable abbrev VV : List (V × V) -> List (Value × Value) -> Prop:=Paired fun p q=>za5 p.1 q.1 /\ za5 p.2 q.2
noncomputable def PPs (X : Cx) (pos : Pos) (keys : List (Option Expr)) (values : List Expr) (trs : List (TE × TE)) : Prop :=
 ∀ (pins : List (Addr × Obj)) (s : Shared) (σ : St) (H : Hp) (Q : List (V × V) -> Hp -> Prop),Inv X pins σ H s -> zou trs σ H Q ->
  wpAny (model X.prog X.w) X.A (evalPairs (pairTrees keys values X.env pos)) (fun vs s'=>∃ ps H',Inv X pins σ H' s' /\ VV ps vs /\ Q ps H') X.xe s
theorem z1s {X : Cx} {pos : Pos} : PPs X pos [] [] []:=fun pins s σ H Q I h=>pairTrees_nil_walk ⟨[],H,I,.nil,h⟩
theorem zqr {X : Cx} {pos : Pos} {k v : Expr} {ks : List (Option Expr)} {vs : List Expr} {tk tv : TE} {trs : List (TE × TE)} (hk : PE X k tk) (hv : PE X v tv) (hr : PPs X pos ks vs trs) :
  PPs X pos (some k :: ks) (v :: vs) ((tk,tv) :: trs):=fun pins s σ H Q I h =>
 pairTrees_cons_walk (thn (hk pins s σ H _ I h) fun u s1 ⟨x,H1,I1,rx,q1⟩=>thn (hv pins s1 σ H1 _ I1 q1) fun w2 s2 ⟨y,H2,I2,ry,q2⟩ =>
  thn (hr pins s2 σ H2 _ I2 q2) fun ws s3 ⟨ps,H3,I3,rel,q3⟩=>⟨(x,y) :: ps,H3,I3,.cons ⟨rx,ry⟩ rel,q3⟩)
noncomputable def zgg (kvs more : List (Key × V)) : List (Key × V):=more.foldl (fun acc kv=>zd9 acc kv.1 kv.2) kvs
theorem KV.merge : ∀ {more : List (Key × V)} {rs : List (Key × Value)} {kvs : List (Key × V)} {vs : List (Key × Value)},KV more rs -> KV kvs vs -> KV (zgg kvs more) (merged vs rs):=by
 intro more rs kvs vs r
 unfold KV at r
 induction r generalizing kvs vs with
 | nil=>intro q; exact q
 | @cons p q ps qs h t ih =>
  intro r0
  have e : KV (zd9 kvs p.1 p.2) (stored vs q.1 q.2):=by
   have:=r0.put p.1 h.2
   rw [<- h.1]; exact this
  exact ih e
theorem zu2 : ∀ (more kvs : List (Key × V)),(zgg kvs more).length <= kvs.length + more.length
 | [],kvs=>by show kvs.length <= kvs.length + 0; omega
 | p :: r,kvs=>by
  have h1:=zu2 r (zd9 kvs p.1 p.2)
  have h2:=zq2 kvs p.1 p.2
  show (zgg (zd9 kvs p.1 p.2) r).length <= _
  rw [List.length_cons]; omega
theorem zua {P : Program} {w : World} : ∀ {kvs : List (Key × V)} {ws : List (Value × Value)},VV (kvs.map fun kv=>(kV kv.1,kv.2)) ws -> ∃ rs,Carries (zef P w) ws rs /\ KV kvs rs
 | [],_,r=>by rw [List.map_nil] at r; cases r; exact ⟨[],True.intro,.nil⟩
 | p :: kvs,_,r=>by
  rw [List.map_cons] at r
  cases r with
  | @cons a b as bs h t =>
   obtain ⟨rs,c,q⟩:=zua (P:=P) (w:=w) t
   obtain ⟨b1,b2⟩:=b
   exact ⟨(p.1,b2) :: rs,⟨zlk h.1,rfl,c⟩,.cons ⟨rfl,h.2⟩ q⟩
noncomputable def zy9 (trs : List (TE × TE)) : TE:=fun σ H Q=>∀ p,H p = none -> zou trs σ (upd H p (.dK [])) fun ps H2=>H2 p = some (.dK []) /\ ∃ kvs : List (Key × V),ps = kvs.map (fun kv=>(kV kv.1,kv.2)) /\ kvs.length <= 15 /\ Q (.ref p) (upd H2 p (.dK (zgg [] kvs)))
theorem z6j {X : Cx} {pos : Pos} {keys : List (Option Expr)} {values : List Expr} {trs : List (TE × TE)} (h : PPs X pos keys values trs) (hall : keys.all (·.isSome) = true) (hl : keys.length = values.length) (h0 : keys ≠ [])
  (h15 : keys.length <= 15) : PE X (.Dict keys values pos) (zy9 trs):=by
 intro pins s σ H Q I q
 have hn:=I.hok.fresh (Nat.le_refl s.heap.objs.size)
 have I1:=I.laid (a:=s.heap.objs.size) (o:=.dK []) (h':=s.heap.push { cls:=.type "dict",data:=.dict #[] }) (t':=s.toks) (fun _ _ q=>Heap.get?_push_of_some _ q) (Nat.le_refl _) (zth s.heap I.big)
 refine wpAny_Dict_walk (knd:=zef X.prog X.w) hall hl h0 h15 (thn (h pins _ σ _ _ I1 (q _ hn)) fun ws s2 ⟨ps,H2,I2,rel,e,kvs,ep,lk,q2⟩=>?_)
 subst ep
 obtain ⟨rs,c,rk⟩:=zua (P:=X.prog) (w:=X.w) rel
 obtain ⟨z,hd,vs0,r0,dd⟩:=zuv I2.hok e
 cases r0
 refine ⟨rs,c,dd,fun h' dd' hs=>⟨.ref s.heap.objs.size,_,?_,rfl,q2⟩⟩
 have hz : (zgg [] kvs).length <= sizeLine:=by
  have h1:=zu2 kvs []
  rw [List.length_nil] at h1
  rw [sizeLine_eq]; omega
 have he : ∃ q,h'.get? s.heap.objs.size = some q:=let ⟨q,_,_,hq,_⟩:=dd'; ⟨q,hq⟩
 exact zp9 I2 (by rw [e]; exact True.intro) hs he (zwg hz hd (rk.merge .nil) dd')
section
variable {X : Cx} {pins : List (Addr × Obj)} {σ : St} {H : Hp} {s : Shared} {a : Addr} {y d : V} {u r : Value} {o : Option V} {A : Around} {E : Value -> Shared -> Prop}
end
section
variable {X : Cx} {o e f : Expr} {apos cpos : Pos} {td ty tx : TE}
end
section
variable {X : Cx} {pins : List (Addr × Obj)} {σ : St} {H : Hp} {s : Shared} {a : Addr} {kvs : List (Key × V)} {A : Around} {E : Value -> Shared -> Prop}
end
section
variable {X : Cx} {pins : List (Addr × Obj)} {σ : St} {H : Hp} {s : Shared} {a : Addr} {y : V} {u : Value} {A : Around} {E : Value -> Shared -> Prop}
end
section
variable {κ : Type} [DecidableEq κ]
end
end L2
set_option maxHeartbeats 4000000
namespace L2
open PySem
theorem zra {env : Env} (f : (Str × NameKind) -> List (Str × Addr) -> Sem (ForInStep (List (Str × Addr))))
  (h1 : ∀ n k r,k ≠ NameKind.free -> f (n,k) r = pure (.yield r))
  (h2 : ∀ n r c,env.cells.lookup n = some c -> f (n,.free) r = pure (.yield ((n,c) :: r))) :
  ∀ (l : List (Str × NameKind)) (acc : List (Str × Addr)),(∀ x ∈ l,x.2 = .free -> ∃ c,env.cells.lookup x.1 = some c) ->
   (∀ x c,acc.lookup x = some c -> env.cells.lookup x = some c) ->
   ∃ cl,forIn l acc f = (pure cl : Sem _) /\ (∀ x c,cl.lookup x = some c -> env.cells.lookup x = some c) /\
    (∀ x,((∃ c,acc.lookup x = some c) \/ (x,NameKind.free) ∈ l) -> ∃ c,cl.lookup x = some c)
 | [],acc,_,ha=>⟨acc,rfl,ha,fun x hx=>hx.elim id (fun z=>nomatch z)⟩
 | (n,k) :: l,acc,hl,ha=>by
  have hl' : ∀ x ∈ l,x.2 = .free -> ∃ c,env.cells.lookup x.1 = some c:=fun x hx=>hl x (List.mem_cons_of_mem _ hx)
  by_cases hk : k = .free
  ·subst hk
   obtain ⟨c,hc⟩:=hl (n,.free) List.mem_cons_self rfl
   have hc' : env.cells.lookup n = some c:=hc
   have ha' : ∀ x c',((n,c) :: acc).lookup x = some c' -> env.cells.lookup x = some c':=fun x c' hx=>by
    rw [List.lookup_cons] at hx
    cases e : x == n with
    | true =>
     rw [e] at hx
     cases hx
     rw [eq_of_beq e]; exact hc'
    | false =>
     rw [e] at hx
     exact ha x c' hx
   obtain ⟨cl,e,a1,a2⟩:=zra f h1 h2 l ((n,c) :: acc) hl' ha'
   refine ⟨cl,?_,a1,fun x hx=>a2 x ?_⟩
   ·rw [List.forIn_cons,h2 n acc c hc',pure_bind]
    exact e
   ·have here : ∀ c',acc.lookup x = some c' -> ∃ c'',((n,c) :: acc).lookup x = some c'':=fun c' z=>by
     rw [List.lookup_cons]
     cases e : x == n with
     | true=>exact ⟨c,rfl⟩
     | false=>exact ⟨c',z⟩
    rcases hx with ⟨c',z⟩ | hx
    ·exact .inl (here c' z)
    ·rcases List.mem_cons.mp hx with z | z
     ·cases z
      refine .inl ⟨c,?_⟩
      rw [List.lookup_cons,beq_self_eq_true]
     ·exact .inr z
  ·obtain ⟨cl,e,a1,a2⟩:=zra f h1 h2 l acc hl' ha
   refine ⟨cl,?_,a1,fun x hx=>a2 x ?_⟩
   ·rw [List.forIn_cons,h1 n k acc hk,pure_bind]
    exact e
   ·rcases hx with hx | hx
    ·exact .inl hx
    ·rcases List.mem_cons.mp hx with z | z
     ·cases z; exact absurd rfl hk
     ·exact .inr z
theorem ztv {scope : Scope} {env : Env} (h : ∀ x ∈ scope.names,x.2 = .free -> ∃ c,env.cells.lookup x.1 = some c) :
  ∃ cl,closureFor scope env = pure cl /\ (∀ x c,cl.lookup x = some c -> env.cells.lookup x = some c) /\ (∀ x,(x,NameKind.free) ∈ scope.names -> ∃ c,cl.lookup x = some c):=by
 unfold closureFor
 obtain ⟨cl,e,a1,a2⟩:=zra (env:=env) (fun (x : Str × NameKind) (r : List (Str × Addr))=>(match x with
   | (name,kind)=>if (kind == NameKind.free) = true then (do let a <- cellOf env name; pure (ForInStep.yield ((name,a) :: r))) else (pure (ForInStep.yield r) : Sem _)))
  (fun n k r hk=>by
   have : (k == NameKind.free) = false:=by simpa using hk
   simp only [this,Bool.false_eq_true,if_false])
  (fun n r c hc=>by
   simp only [beq_self_eq_true,if_true,cellOf,hc,pure_bind])
  scope.names [] h (fun x c z=>by cases z)
 refine ⟨cl,?_,a1,fun x hx=>a2 x (.inr hx)⟩
 refine (congrArg (fun (t : Sem (List (Str × Addr)))=>t >>= pure) ?_).trans ((congrArg (fun (t : Sem (List (Str × Addr)))=>t >>= pure) e).trans (pure_bind _ _))
 rfl
section
variable {prog : Program} {w : World} {A : Around} {R : Result -> Shared -> Prop} {s : Shared}
noncomputable abbrev E00 : Value -> Shared -> Prop:=fun _ _=>False
theorem z5a {elt target iter : Expr} {ifs : List Expr} {scope : Scope} {pos : Pos} {it acc : Value} {env : Env} (I : Nat -> Shared -> Prop)
  (turn : ∀ n s,I n s -> wpAny (model prog w) A (pyNext it) (fun r s₁=>match r with
   | none=>R (.ok .next) s₁
   | some v=>wpAny (model prog w) A (letOwnedTupleGo target it v) (fun _ s₁'=>wpAny (model prog w) A (assign target env v) (fun _ s₂ =>
     wpAny (model prog w) A (forIn ifs true fun c r=>if r = true then do let ok <- isTrue c env (eval c env); pure (ForInStep.yield ok) else pure (ForInStep.yield r)) (fun ok s₃ =>
      if ok = true then wpAny (model prog w) A (eval elt env) (fun x s₄ =>
       wpAny (model prog w) A (call (.builtin "list.append") [acc,x]) (fun _ s₅=>∃ m,m < n /\ I m s₅) E00 s₄) E00 s₃
      else ∃ m,m < n /\ I m s₃) E00 s₂) E00 s₁') E00 s₁) E00 s)
  (n : Nat) (h : I n s) :
  codeAny (model prog w) A (.compLoop (.ListComp elt [⟨target,iter,ifs,0⟩] scope pos) 0 it acc env) R s:=by
 refine codeAny_loop rfl I (fun n s hI=>?_) n h
 show wpAny _ A ((compTurn (.ListComp elt [⟨target,iter,ifs,0⟩] scope pos) 0 it acc env).onRaise (fun x=>do noteFrame x env; theTreesLotGoes x)) _ _ s
 refine wpAny_noted ?_
 rw [compTurn_list]
 refine wpAny_mono (E:=E00) ?_ (fun _ _ z=>z) (fun _ _ z=>z.elim)
 refine wpAny_bind (wpAny_standAt (wpAny_bind (wpAny_mono (turn n s hI) (fun r s₁ h₁=>?_) fun _ _ h'=>h')))
 cases r with
 | none=>exact wpAny_pure h₁
 | some v =>
  refine wpAny_bind (wpAny_mono h₁ (fun _ s₁' h₁'=>?_) fun _ _ h'=>h')
  refine wpAny_bind (wpAny_mono h₁' (fun _ s₂ h₂=>wpAny_bind (wpAny_mono h₂ (fun ok s₃ h₃=>?_) fun _ _ h'=>h')) fun _ _ h'=>h')
  cases ok with
  | false=>exact wpAny_pure ⟨rfl,h₃⟩
  | true =>
   exact wpAny_bind (wpAny_bind (wpAny_mono h₃ (fun x s₄ h₄=>wpAny_bind (wpAny_mono h₄ (fun _ s₅ h₅=>wpAny_pure (wpAny_pure ⟨rfl,h₅⟩)) fun _ _ h'=>h')) fun _ _ h'=>h'))
end
open PySem.Spec PyProof.Rows
noncomputable abbrev Cx.comp (X : Cx) (scope : Scope) (Nc : List Str) (cl : List (Str × Addr)) (C : Addr) (ex : List Addr) (s₂ : Shared) (H₂ : Hp) : Cx :=
 { X with N:=Nc,s₀:=s₂,H₀:=H₂,env:=compEnvC scope cl C X.env,outer:=X.stack,ex:=ex,fn:=fun _=>false,pn:=[],xe:=E00 }
theorem zov {env : Env} : ∀ {names : List (Str × NameKind)} {x : Str},names.lookup x = some .free ->
  (names.map fun (n,k)=>if (k == NameKind.free && env.scope.kind == .function && env.kindOf n == some .cell) then (n,NameKind.cell) else (n,k)).lookup x = some .cell \/
  (names.map fun (n,k)=>if (k == NameKind.free && env.scope.kind == .function && env.kindOf n == some .cell) then (n,NameKind.cell) else (n,k)).lookup x = some .free
 | [],_,h=>by simp at h
 | (n,k) :: r,x,h=>by
  have ih:=@zov env r x
  rw [List.map_cons]
  show List.lookup x ((if (k == NameKind.free && env.scope.kind == .function && env.kindOf n == some .cell) = true then (n,NameKind.cell) else (n,k)) :: _) = _ \/ List.lookup x ((if (k == NameKind.free && env.scope.kind == .function && env.kindOf n == some .cell) = true then (n,NameKind.cell) else (n,k)) :: _) = _
  rw [List.lookup_cons] at h
  cases hx : x == n with
  | true =>
   rw [hx] at h
   cases h
   split
   ·left; rw [List.lookup_cons,hx]
   ·right; rw [List.lookup_cons,hx]
  | false =>
   rw [hx] at h
   split
   ·rw [List.lookup_cons,hx]; exact ih h
   ·rw [List.lookup_cons,hx]; exact ih h
theorem zpd {env : Env} {k' : NameKind} (hk' : k' = .cell \/ k' = .free) : ∀ {names : List (Str × NameKind)} {x : Str},
  (names.map fun (n,k)=>if (k == NameKind.free && env.scope.kind == .function && env.kindOf n == some .cell) then (n,NameKind.cell) else (n,k)).lookup x = some k' ->
  (x,NameKind.free) ∈ names \/ (x,NameKind.cell) ∈ names
 | [],_,h=>by simp at h
 | (n,k) :: r,x,h=>by
  have ih:=@zpd env k' hk' r x
  rw [List.map_cons] at h
  have h' : List.lookup x ((if (k == NameKind.free && env.scope.kind == .function && env.kindOf n == some .cell) = true then (n,NameKind.cell) else (n,k)) :: (r.map fun (n,k)=>if (k == NameKind.free && env.scope.kind == .function && env.kindOf n == some .cell) then (n,NameKind.cell) else (n,k))) = some k':=h
  cases hx : x == n with
  | true =>
   have e:=eq_of_beq hx
   subst e
   split at h'
   ·rename_i hc
    have hk : k = .free:=by
     rw [Bool.and_eq_true,Bool.and_eq_true] at hc
     exact eq_of_beq hc.1.1
    subst hk
    exact .inl List.mem_cons_self
   ·rw [List.lookup_cons,hx] at h'
    have e : k = k':=Option.some.inj h'
    subst e
    rcases hk' with z | z
    ·subst z; exact .inr List.mem_cons_self
    ·subst z; exact .inl List.mem_cons_self
  | false =>
   have h2 : (r.map fun (n,k)=>if (k == NameKind.free && env.scope.kind == .function && env.kindOf n == some .cell) then (n,NameKind.cell) else (n,k)).lookup x = some k':=by
    split at h' <;> (rw [List.lookup_cons,hx] at h'; exact h')
   rcases ih h2 with z | z
   ·exact .inl (List.mem_cons_of_mem _ z)
   ·exact .inr (List.mem_cons_of_mem _ z)
noncomputable def zh9 (scope : Scope) (outer : List (Str × NameKind)) (N Nc : List Str) (k : Nat) (js : List Nat) : Bool :=
 scope.names.all (fun x=>(x.2 != .free || outer.lookup x.1 == some .cell || outer.lookup x.1 == some .free) && x.2 != .cell && (x.2 != .local || scope.names.lookup x.1 == some .local)) &&
 scope.kind == .function && Nc.length == k + js.length &&
 (List.range js.length).all (fun i=>match Nc[k + i]?,js[i]? with
  | some x,some j=>N[j]? == some x && scope.names.lookup x == some .free
  | _,_=>false)
structure zma (scope : Scope) (outer : List (Str × NameKind)) (N Nc : List Str) (k : Nat) (js : List Nat) : Prop where
 free : ∀ x ∈ scope.names,x.2 = .free -> outer.lookup x.1 = some .cell \/ outer.lookup x.1 = some .free
 nocell : ∀ x ∈ scope.names,x.2 ≠ .cell
 loc : ∀ x ∈ scope.names,x.2 = .local -> scope.names.lookup x.1 = some .local
 kind : scope.kind = .function
 len : Nc.length = k + js.length
 at' : ∀ i j,js[i]? = some j -> ∃ x,Nc[k + i]? = some x /\ N[j]? = some x /\ scope.names.lookup x = some .free
theorem zma.of {scope : Scope} {outer : List (Str × NameKind)} {N Nc : List Str} {k : Nat} {js : List Nat} (h : zh9 scope outer N Nc k js = true) : zma scope outer N Nc k js:=by
 unfold zh9 at h
 rw [Bool.and_eq_true,Bool.and_eq_true,Bool.and_eq_true] at h
 obtain ⟨⟨⟨h1,h2⟩,h3⟩,h4⟩:=h
 rw [List.all_eq_true] at h1 h4
 refine ⟨fun x hx e=>?_,fun x hx e=>?_,fun x hx e=>?_,eq_of_beq h2,eq_of_beq h3,fun i j e=>?_⟩
 ·have:=h1 x hx
  simp only [Bool.and_eq_true,Bool.or_eq_true,bne_iff_ne,beq_iff_eq] at this
  rcases this.1.1 with (z | z) | z
  ·exact absurd e z
  ·exact .inl z
  ·exact .inr z
 ·have:=h1 x hx
  simp only [Bool.and_eq_true,Bool.or_eq_true,bne_iff_ne,beq_iff_eq] at this
  exact this.1.2 e
 ·have:=h1 x hx
  simp only [Bool.and_eq_true,Bool.or_eq_true,bne_iff_ne,beq_iff_eq] at this
  rcases this.2 with z | z
  ·exact absurd e z
  ·exact z
 ·have hi : i < js.length:=(List.getElem?_eq_some_iff.mp e).1
  have:=h4 i (List.mem_range.mpr hi)
  rw [e] at this
  cases q : Nc[k + i]? with
  | none=>rw [q] at this; cases this
  | some x =>
   rw [q] at this
   simp only [Bool.and_eq_true,beq_iff_eq] at this
   exact ⟨x,rfl,this.1,this.2⟩
noncomputable def zgn (k : Nat) (js : List Nat) (σ : St) : St:=List.replicate k none ++ js.map fun j=>(σ[j]?).getD none
noncomputable def PTs (X : Cx) (ifs : List Expr) (t : TT) : Prop :=
 ∀ (pins : List (Addr × Obj)) (s : Shared) (σ : St) (H : Hp) (Q : Bool -> Hp -> Prop),Inv X pins σ H s -> t σ H Q ->
  wpAny (model X.prog X.w) X.A (forIn ifs true fun c r=>if r = true then do let ok <- isTrue c X.env (eval c X.env); pure (ForInStep.yield ok) else pure (ForInStep.yield r)) (TP X pins σ Q) X.xe s
noncomputable def z4f : TT:=fun _ H Q=>Q true H
theorem zyu {X : Cx} : PTs X [] z4f:=fun _ _ _ H _ I h=>wpAny_tests_nil ⟨H,I,h⟩
theorem zz7 {X : Cx} {c : Expr} {t : TT} (h : PT X c t) : PTs X [c] t:=fun pins s σ H Q I q=>wpAny_tests_one (h pins s σ H Q I q)
noncomputable def zut (J : It) (g : TG) (tt : TT) (te : TE) (σ0 : St) (H1 : Hp) (Q : VK) : Prop :=
 ∃ W : Nat -> Nat -> List V -> St -> Hp -> Prop,(∃ m,W 0 m [] σ0 H1) /\ ∀ i m ys σ' H',W i m ys σ' H' ->
  (J.stop i H' /\ ys.length <= sizeLine /\ ∀ D,H1 D = none -> H' D = none -> Q (.ref D) (upd H' D (.lst ys))) \/
  (J.go i H' /\ ys.length <= sizeLine /\ ∃ N : List V -> St -> Hp -> Prop,(∀ ys' σ2 H2,N ys' σ2 H2 -> ∃ m',m' < m /\ W (i + 1) m' ys' σ2 H2) /\
   ∀ x H2,J.yld i H' x H2 -> g x σ' H2 fun σ3 H3=>tt σ3 H3 fun b H4=>if b = true then te σ3 H4 fun y H5=>N (ys ++ [y]) σ3 H5 else N ys σ3 H4)
noncomputable def zqu (k : Nat) (js : List Nat) (wi : TI) (g : TG) (tt : TT) (te : TE) : TE:=fun σ H Q=>wi σ H fun J H1=>zut J g tt te (zgn k js σ) H1 Q
section
variable {X : Cx} {elt tg iter : Expr} {ifs : List Expr} {scope : Scope} {pos : Pos} {Nc : List Str} {k : Nat} {js : List Nat} {wi : TI} {g : TG} {tt : TT} {te : TE}
noncomputable abbrev zf0 (us : List Value) (n : Nat) : Obj:={ cls:=.type "list",data:=.seq us.toArray n }
theorem ztx {pins : List (Addr × Obj)} {σ : St} {H2 : Hp} {s2 : Shared} {it : Addr} {fp : List Addr} {tn : Nat -> Heap -> Prop} {J : It} {cl : List (Str × Addr)} {Q : VK} {RR : Value -> Addr -> Result -> Shared -> Prop} {E : Value -> Shared -> Prop}
  (hc : X.calm = true) (ck : zma scope X.env.scope.names X.N Nc k js)
  (hg : ∀ cl C ex s₂ H₂,PG (X.comp scope Nc cl C ex s₂ H₂) tg g) (ht : ∀ cl C ex s₂ H₂,PTs (X.comp scope Nc cl C ex s₂ H₂) ifs tt) (he : ∀ cl C ex s₂ H₂,PE (X.comp scope Nc cl C ex s₂ H₂) elt te)
  (a1 : ∀ x c,cl.lookup x = some c -> X.env.cells.lookup x = some c) (a2 : ∀ x,(x,NameKind.free) ∈ scope.names -> ∃ c,cl.lookup x = some c)
  (I2 : Inv X pins σ H2 s2) (T : zid X.prog X.w X.K tg J fp it tn) (st2 : tn 0 s2.heap) (f2 : ∀ b ∈ fp,zfs X pins H2 b) (hW : zut J g tt te (zgn k js σ) H2 Q)
  (hRR : ∀ (D C : Addr) (s' : Shared) (H' : Hp),Inv X pins σ H' s' -> (∃ m,s'.heap.Ns C m) -> zfs X pins H' C -> Q (.ref D) H' -> RR (.ref D) C (.ok .next) s') :
  wpAny (model X.prog X.w) X.A (newList []) (fun acc s₃=>wpAny (model X.prog X.w) X.A (newFunctionEnv scope X.env.globals cl [] X.env.qual none .none (some X.env)) (fun cenv s₄ =>
   codeAny (model X.prog X.w) X.A (.compStart (.ListComp elt [⟨tg,iter,ifs,0⟩] scope pos) 0 (.ref it) acc { cenv with scope:=relabel scope X.env }) (RR acc cenv.locals) s₄) E s₃) E s2:=by
 obtain ⟨W,⟨m0,w0⟩,turn⟩:=hW
 refine wpAny_newObj_type (wpAny_newFunctionEnv ck.nocell (by intro y hy; simp at hy) (fun h₁ hns₁ hsb₁=>?_) ck.kind)
 dsimp only at hns₁ hsb₁ ⊢
 generalize hP : s2.heap.push { cls:=.type "list",dict:=none,data:=.seq ([] : List Value).toArray } = P at hns₁ hsb₁ ⊢
 generalize hD : s2.heap.objs.size = D at hP hns₁ hsb₁ ⊢
 have hCs : P.objs.size = D + 1:=by rw [<- hP,Heap.size_push,hD]
 generalize hC : P.objs.size = C at hCs hns₁ hsb₁ ⊢
 have hDC' : D < C:=by rw [hCs]; exact Nat.lt_succ_self _
 have hDC : D ≠ C:=Nat.ne_of_lt hDC'
 have below : ∀ b o,s2.heap.get? b = some o -> b < D:=fun b o e=>hD ▸ Heap.lt_size e
 have old : ∀ b o,s2.heap.get? b = some o -> h₁.get? b = some o:=fun b o e=>by
  have hb:=below b o e
  exact hsb₁.extBut b o (Nat.ne_of_lt (Nat.lt_trans hb hDC')) (Heap.get?_push_of_some _ (hP ▸ Heap.get?_push_of_some _ e))
 have hDo : h₁.get? D = some (zf0 [] 0):=hsb₁.extBut _ _ hDC (Heap.get?_push_of_some _ (by rw [<- hP,<- hD]; exact Heap.get?_push_size _ rfl))
 have Hn : ∀ b,D <= b -> H2 b = none:=fun b hb=>I2.hok.fresh (by omega)
 have fpo : ∀ b ∈ fp,b < D:=fun b hb=>by obtain ⟨o,e,_⟩:=T.obj 0 _ st2 b hb; exact below b o e
 have clo : ∀ x c,cl.lookup x = some c -> c < D:=fun x c e=>by
  obtain ⟨v,o,ho,_⟩:=I2.cell x c (a1 x c e)
  exact below c o ho
 have stko : ∀ b ∈ frs X.stack,b < D:=fun b hb=>by
  obtain ⟨_,o,ho,_⟩:=I2.stack.mem hb
  exact below b o ho
 let Y : Cx:=X.comp scope Nc cl C fp s2 H2
 have yk : Y.Ok:=by
  refine ⟨I2.ok.mod,ck.kind,I2.ok.glob,I2.ok.blt,?_,?_,?_,?_,I2.ok.hd,I2.ok.frames,.inl rfl,?_,I2.bs,?_,?_,?_,I2.stack,I2.stkFree⟩
  ·show s2.heap.objs.size <= C
   omega
  ·exact fun x y c h1 h2=>I2.ok.inj x y c (a1 x c h1) (a1 y c h2)
  ·intro x hx
   have : (x,NameKind.free) ∈ scope.names \/ (x,NameKind.cell) ∈ scope.names:=by
    rcases hx with hx | hx
    ·exact zpd (.inl rfl) hx
    ·exact zpd (.inr rfl) hx
   rcases this with z | z
   ·exact a2 x z
   ·exact absurd rfl (ck.nocell _ z)
  ·exact fun x c z=>nomatch z
  ·intro b hb
   refine ⟨?_,fun x c e=>?_⟩
   ·exact Nat.ne_of_lt (Nat.lt_trans (fpo b hb) hDC')
   ·exact (f2 b hb).2.2.2.2.1 x c (a1 x c e)
  ·exact Nat.le_trans I2.ok.bsz I2.sz
  ·intro b o e hb
   rcases (f2 b hb).2.2.2.1 with z | z
   ·exact I2.ok.noex b o e z
   ·exact absurd (Nat.lt_of_lt_of_le (Heap.lt_size e) (Nat.le_trans I2.ok.bsz z)) (Nat.lt_irrefl _)
  ·intro b hb z
   rcases List.mem_cons.mp (I2.stkSub b z) with e | e
   ·exact (f2 b hb).2.1 e
   ·exact (f2 b hb).2.2.1 e
 have I4 : Inv Y [(D,zf0 [] 0)] (zgn k js σ) H2 { s2 with heap:=h₁,toks:=s2.toks + ([] : List (Str × Value)).length }:=by
  refine ⟨yk,rfl,I2.bare,Un.kept old,⟨_,hns₁,fun i x v e1 e2 e3=>?_⟩,fun x c e=>?_,Hn C (by omega),fun x c e=>I2.freeC x c (a1 x c e),fun p hp=>?_,I2.hok.kept old,?_⟩
  ·have e1 : Nc[i]? = some x:=e1
   unfold zgn at e2
   have hik : k <= i:=by
    rcases Nat.lt_or_ge i k with z | z
    ·rw [List.getElem?_append_left (by simpa using z),List.getElem?_replicate] at e2
     simp [z] at e2
    ·exact z
   rw [List.getElem?_append_right (by simpa using hik),List.getElem?_map] at e2
   simp only [List.length_replicate] at e2
   cases q : js[i - k]? with
   | none=>rw [q] at e2; cases e2
   | some j =>
    rw [q] at e2
    obtain ⟨x',q1,q2,q3⟩:=ck.at' _ _ q
    rw [show k + (i - k) = i by omega,e1] at q1
    cases q1
    have e2 : (σ[j]?).getD none = some v:=Option.some.inj e2
    have e2' : σ[j]? = some (some v):=by
     cases z : σ[j]? with
     | none=>rw [z] at e2; cases e2
     | some y=>rw [z] at e2; rw [show y = some v from e2]
    have hmem : (x,NameKind.free) ∈ scope.names:=by
     have : ∀ l : List (Str × NameKind),l.lookup x = some .free -> (x,NameKind.free) ∈ l:=by
      intro l
      induction l with
      | nil=>intro z; cases z
      | cons a l ih =>
       intro z
       obtain ⟨n,kk⟩:=a
       rw [List.lookup_cons] at z
       cases hb : x == n with
       | true =>
        rw [hb] at z
        cases z
        rw [eq_of_beq hb]; exact List.mem_cons_self
       | false=>rw [hb] at z; exact List.mem_cons_of_mem _ (ih z)
     exact this _ q3
    have hout : X.env.kindOf x = some .cell \/ X.env.kindOf x = some .free:=ck.free _ hmem rfl
    obtain ⟨m,hn,hl⟩:=I2.loc
    have vis : Vis X.env.scope x:=by
     rcases hout with z | z
     ·exact .inr (.inl z)
     ·exact .inr (.inr z)
    obtain ⟨u,r,l⟩:=hl j x v q2 e2' vis
    refine ⟨u,r,.inr ⟨zov q3,?_⟩⟩
    rcases l with ⟨z,_⟩ | ⟨_,c,hcl,hcell⟩
    ·rcases hout with y | y <;> (rw [y] at z; cases z)
    ·obtain ⟨c',hc'⟩:=a2 x hmem
     have:=a1 x c' hc'
     rw [hcl] at this
     cases this
     exact ⟨c,hc',hcell.keeps old⟩
  ·obtain ⟨v,z⟩:=I2.cell x c (a1 x c e)
   exact ⟨v,z.keeps old⟩
  ·have hp : p ∈ [(D,zf0 [] 0)]:=(List.mem_append.mp hp).elim (fun z=>nomatch (show p ∈ ([] : List (Addr × Obj)) from z)) id
   have hp : p = (D,zf0 [] 0):=List.mem_singleton.mp hp
   subst hp
   refine ⟨hDo,Hn D (Nat.le_refl _),hDC,fun z=>?_,fun v z=>by cases z⟩
   exact absurd (stko D z) (Nat.lt_irrefl _)
  ·show (zgn k js σ).length = Nc.length
   rw [ck.len]
   simp [zgn]
 have st1 : tn 0 h₁:=T.keep 0 _ _ st2 fun b _ o e=>old b o e
 have fpY : ∀ {H' : Hp} {p : List (Addr × Obj)},(∀ q ∈ p,q.1 = D) -> (∀ b ∈ fp,H' b = none) -> ∀ b ∈ fp,zfs Y p H' b:=fun {H' p} hp hn b hb=>by
  refine ⟨hn b hb,(yk.exf b hb).1,yk.exfs b hb,.inl hb,fun x c e=>(yk.exf b hb).2 x c e,fun q hq=>?_⟩
  have hq : q ∈ p:=(List.mem_append.mp hq).elim (fun z=>nomatch (show q ∈ ([] : List (Addr × Obj)) from z)) id
  rw [hp q hq]
  exact Nat.ne_of_gt (fpo b hb)
 have loop : codeAny (model X.prog X.w) X.A (.compLoop (.ListComp elt [⟨tg,iter,ifs,0⟩] scope pos) 0 (.ref it) (.ref D) (compEnvC scope cl C X.env)) (RR (.ref D) C) { s2 with heap:=h₁,toks:=s2.toks + ([] : List (Str × Value)).length }:=by
  refine z5a (fun n s'=>∃ i ys us nn σ' H',Inv Y [(D,zf0 us nn)] σ' H' s' /\ tn i s'.heap /\ (∀ b ∈ fp,H' b = none) /\ za8 ys us /\ W i n ys σ' H') ?_ m0
   ⟨0,[],[],0,zgn k js σ,H2,I4,st1,fun b hb=>(f2 b hb).1,.nil,w0⟩
  rintro n s3 ⟨i,ys,us,nn,σ3,H3,I3,st3,fr3,rv,w3⟩
  have one : ∀ q ∈ [(D,zf0 us nn)],q.1 = D:=fun q hq=>by
   have : q = (D,zf0 us nn):=by simpa using hq
   rw [this]
  rcases turn i n ys σ3 H3 w3 with ⟨stop,hz,qn⟩ | ⟨go,hz,N,hN,step⟩
  ·refine thn (T.done Y rfl rfl rfl hc i _ s3 σ3 H3 E00 I3 (fpY one fr3) st3 stop) fun r s4 ⟨hr,I5⟩=>?_
   subst hr
   show RR (.ref D) C (.ok .next) s4
   obtain ⟨pD,nD,_,_,_⟩:=I5.pin (D,zf0 us nn) (by simp)
   have bs : Un (frs X.stack) fp H2 H3 s2.heap s4.heap:=I5.base
   have h2D : ∀ b o,H2 b = some o -> b ≠ D:=fun b o e z=>by rw [z,Hn D (Nat.le_refl _)] at e; cases e
   have I6 : Inv X pins σ (upd H3 D (.lst ys)) s4:=by
    refine I2.call' (ch:=fp) I5.os ⟨bs.keep,bs.slot,fun b o e n hx=>?_,bs.there,fun b xs e=>?_,fun b o u e=>?_,fun b ps e=>?_⟩ (fun b u e=>?_) I5.bare fun b hb=>?_
    ·rw [zb1 (Nat.ne_of_lt (below b o e))]
     exact bs.free b o e n hx
    ·rw [zb1 (h2D b _ e)]; exact bs.tups b xs e
    ·rw [zb1 (h2D b _ e)]; exact bs.frzs b o u e
    ·rw [zb1 (h2D b _ e)]; exact bs.tbls b ps e
    ·by_cases hb : b = D
     ·subst hb
      rw [zcg] at e
      cases e
      exact ⟨hz,us,nn,rv,pD⟩
     ·rw [zb1 hb] at e
      exact (I5.hok b u e).stay (fun c v _ q=>q) (fun c q=>by rw [zb1 (zdm q nD)]; exact q) fun c xs q=>by rw [zb1 (zdm q nD)]; exact q
    ·obtain ⟨_,f1,_,f3,f4,f5⟩:=f2 b hb
     exact ⟨f3,f1,f4,f5⟩
   obtain ⟨m,hn,_⟩:=I5.loc
   refine hRR D C s4 _ I6 ⟨m,hn⟩ (I2.fpOk (by omega) ?_) (qn D (Hn D (Nat.le_refl _)) nD)
   rw [zb1 hDC.symm]
   exact I5.free
  ·refine thn (T.item Y rfl rfl rfl hc i _ s3 σ3 H3 E00 I3 (fpY one fr3) st3 go) fun r s4 ⟨u,hr,h4⟩=>?_
   subst hr
   refine thn h4 fun _ s5 ⟨x,H5,I5,r5,y5,st5,fr5⟩=>?_
   have I5':=I5.pinned (fpY one fr5) (T.obj _ _ st5)
   refine thn (hg cl C fp s2 H2 _ s5 σ3 H5 x u _ I5' r5 (step x H5 y5)) fun _ s6 ⟨σ6,H6,I6,q6⟩=>?_
   refine thn (ht cl C fp s2 H2 _ s6 σ6 H6 _ I6 q6) fun b s7 ⟨H7,I7,q7⟩=>?_
   have kp : ∀ {H8 : Hp} {s8 : Shared},Inv Y ([(D,zf0 us nn)] ++ zmh fp s5.heap) σ6 H8 s8 -> tn (i + 1) s8.heap /\ (∀ b ∈ fp,H8 b = none):=fun {H8 s8} I8=>by
    refine ⟨T.keep _ _ _ st5 fun b hb o e=>(I8.pin (b,o) (List.mem_append_right _ (List.mem_append_right _ (zm7 hb e)))).1,fun b hb=>?_⟩
    obtain ⟨o,e,d⟩:=T.obj _ _ st5 b hb
    exact (I8.pin (b,o) (List.mem_append_right _ (List.mem_append_right _ (zm7 hb e)))).2.1
   cases b with
   | false =>
    rw [if_neg Bool.false_ne_true] at q7 ⊢
    obtain ⟨m',hm,w7⟩:=hN _ _ _ q7
    obtain ⟨st7,fr7⟩:=kp I7
    exact ⟨m',hm,i + 1,ys,us,nn,σ6,H7,I7.unpinned,st7,fr7,rv,w7⟩
   | true =>
    rw [if_pos rfl] at q7 ⊢
    refine thn (he cl C fp s2 H2 _ s7 σ6 H7 _ I7 q7) fun uy s8 ⟨y,H8,I8,r8,q8⟩=>?_
    obtain ⟨m',hm,w8⟩:=hN _ _ _ q8
    obtain ⟨st8,fr8⟩:=kp I8
    obtain ⟨pD,nD,pC,pF,_⟩:=I8.pin (D,zf0 us nn) (by simp)
    have hl:=rv.length
    refine wpAny_list_append_plain (items:=us.toArray) ⟨nn,pD⟩ (fun h' hl' sb=>?_) (by simp only [List.size_toArray] <;> omega)
    obtain ⟨n',e'⟩:=hl'
    have I8n : Inv Y [] σ6 H8 s8:=I8.pins_of (fun _ z=>nomatch z)
    have I9 : Inv Y [] σ6 H8 { s8 with heap:=h' }:=I8n.turned (t':=s8.toks) (it:=D) (fun b o hb e=>(sb.2 b hb).trans e) nD pC (.inr (by show s2.heap.objs.size <= D; omega)) (fun x c e=>Nat.ne_of_lt (clo x c e)) (fun p hp=>nomatch hp)
    refine ⟨m',hm,i + 1,ys ++ [y],us ++ [uy],n',σ6,H8,I9.pins_of (fun p hp=>?_),?_,fr8,rv.append (.cons r8 .nil),w8⟩
    ·have hp : p = (D,zf0 (us ++ [uy]) n'):=by simpa using hp
     subst hp
     refine ⟨?_,nD,pC,pF,fun v z=>by cases z⟩
     have e2 : h'.get? D = some { cls:=.type "list",data:=.seq (us.toArray.push uy) n' }:=e'
     show h'.get? D = some { cls:=.type "list",data:=.seq (us ++ [uy]).toArray n' }
     rw [e2]
     simp
    ·exact T.keep _ _ _ st8 fun b hb o e=>(sb.2 b (Nat.ne_of_lt (fpo b hb))).trans e
 exact codeAny_compStart_list loop (T.self X.A 0 _ _ _ st1 loop)
theorem zyh (k : Nat) (js : List Nat) (Nc : List Str) (hc : X.calm = true) (hi : PI X tg iter wi)
  (hg : ∀ cl C ex s₂ H₂,PG (X.comp scope Nc cl C ex s₂ H₂) tg g) (ht : ∀ cl C ex s₂ H₂,PTs (X.comp scope Nc cl C ex s₂ H₂) ifs tt) (he : ∀ cl C ex s₂ H₂,PE (X.comp scope Nc cl C ex s₂ H₂) elt te)
  (ck : zh9 scope X.env.scope.names X.N Nc k js = true:=by rfl) (hs : ∀ x,foldedSetIterable iter X.env x = pure x:=by intro _; rfl) :
  PE X (.ListComp elt [⟨tg,iter,ifs,0⟩] scope pos) (zqu k js wi g tt te):=by
 intro pins s σ H Q I h
 have ck:=zma.of ck
 rw [eval_ListComp]
 obtain ⟨cl,hcl,a1,a2⟩:=ztv (scope:=scope) (env:=X.env) fun x hx e=>I.ok.has x.1 (ck.free x hx e)
 refine wpAny_comprehension_free (use:=none) rfl hs hcl ck.kind ck.loc (thn (hi pins s σ H _ I h) fun v s1 h1=>thn h1 fun itv s2 h2=>?_)
 obtain ⟨it,fp,tn,J,H2,e,I2,T,st2,f2,hW⟩:=h2
 subst e
 refine ztx (RR:=fun acc C=>compPost (model X.prog X.w) X.A X.xe none (EP X pins σ Q) acc C) hc ck hg ht he a1 a2 I2 T st2 f2 hW fun D C s' H' I' ⟨m,hn⟩ fC q=>?_
 obtain ⟨f0,f1,_,f3,f4,f5⟩:=fC
 exact ⟨m,hn,fun h' hs'=>⟨.ref D,H',I'.turned (t':=s'.toks) (fun b o hb e=>(hs'.2 b hb).trans e) f0 f1 f3 f4 f5,rfl,q⟩⟩
theorem zvy {i : Nat} {x : Str} {pos' spos : Pos} (k : Nat) (js : List Nat) (Nc : List Str) (hN : X.N.Nodup) (hi' : X.N[i]? = some x) (hx : Loc X.env.scope x) (hc : X.calm = true) (hi : PI X tg iter wi)
  (hg : ∀ cl C ex s₂ H₂,PG (X.comp scope Nc cl C ex s₂ H₂) tg g) (ht : ∀ cl C ex s₂ H₂,PTs (X.comp scope Nc cl C ex s₂ H₂) ifs tt) (he : ∀ cl C ex s₂ H₂,PE (X.comp scope Nc cl C ex s₂ H₂) elt te)
  (hsw : swapsWith (.ListComp elt [⟨tg,iter,ifs,0⟩] scope pos) (some (.Name x pos')) spos.line X.env = pure true:=by rfl)
  (ck : zh9 scope X.env.scope.names X.N Nc k js = true:=by rfl) (hs : ∀ x,foldedSetIterable iter X.env x = pure x:=by intro _; rfl)
  (hf : X.fn x = true \/ X.env.scope.names.lookup x = some .local:=by first | exact .inl rfl | exact .inr rfl | assumption) :
  PS X (.Assign [.Name x pos'] (.ListComp elt [⟨tg,iter,ifs,0⟩] scope pos) spos) (ziu (zqu k js wi g tt te) (zhi i)):=by
 intro pins s σ H D I h
 have ck:=zma.of ck
 rw [exec_Assign_Name_used _ _ _ _ hsw]
 refine wpAny_bind (wpAny_standAt (wpAny_bind ?_))
 show wpAny _ X.A (do let _ <- comprehension (.ListComp elt [⟨tg,iter,ifs,0⟩] scope pos) scope X.env _ (newList []) false (eval iter X.env) (some (assign (.Name x pos') X.env))) _ _ s
 obtain ⟨cl,hcl,a1,a2⟩:=ztv (scope:=scope) (env:=X.env) fun x hx e=>I.ok.has x.1 (ck.free x hx e)
 refine wpAny_bind (wpAny_mono (wpAny_comprehension_free (use:=some (assign (.Name x pos') X.env)) (Q:=fun _ s'=>SP X pins D .next s') rfl hs hcl ck.kind ck.loc
  (thn (hi pins s σ H _ I h) fun v s1 h1=>thn h1 fun itv s2 h2=>?_)) (fun _ s' hq=>wpAny_pure (wpAny_pure hq)) fun _ _ e=>e)
 obtain ⟨it,fp,tn,J,H2,e,I2,T,st2,f2,hW⟩:=h2
 subst e
 refine ztx (RR:=fun acc C=>compPost (model X.prog X.w) X.A X.xe (some (assign (.Name x pos') X.env)) (fun _ s'=>SP X pins D .next s') acc C) hc ck hg ht he a1 a2 I2 T st2 f2 hW fun D' C s' H' I' ⟨m,hn⟩ fC q=>?_
 obtain ⟨f0,f1,f2',f3,f4,f5⟩:=fC
 show wpAny _ X.A (assign (.Name x pos') X.env (.ref D')) _ _ _
 refine wpAny_assign_Name (zus (v:=.ref D') I' hN hi' hx rfl (fun s'' I'' ⟨a,sb,ha⟩=>?_) hf)
 have hCa : C ≠ a:=by
  rcases ha with z | z
  ·rw [z]; exact f1
  ·exact (f4 x a z).symm
 exact ⟨m,hn.sameBut sb hCa,fun h' hs'=>⟨_,H',I''.turned (t':=s''.toks) (fun b o hb e=>(hs'.2 b hb).trans e) f0 f1 f3 f4 f5,q⟩⟩
end
section
variable {K : PySem.W.Frag} {g : TG} {tt : TT} {te : TE} {σ0 : St} {H1 : Hp} {Q : VK}
end
section
variable {X : Cx}
theorem zul : OpR X (compareOp .Is) (fun x y H Q=>∃ b,y = .bl b /\ (x = .non \/ ∃ c,x = .bl c) /\ Q (.bl (decide (x = .bl b))) H):=by
 intro pins s σ H x y v u Q I rx ry h
 obtain ⟨b,rfl,hx,q⟩:=h
 cases ry
 rcases hx with rfl | ⟨c,rfl⟩
 ·cases rx
  exact wpAny_is_plain rfl (zch I q (by cases b <;> rfl))
 ·cases rx
  exact wpAny_is_plain rfl (zch I q (by cases b <;> cases c <;> rfl))
theorem ztb : OpR X (compareOp .IsNot) (fun x y H Q=>∃ b,y = .bl b /\ (x = .non \/ ∃ c,x = .bl c) /\ Q (.bl (!decide (x = .bl b))) H):=by
 intro pins s σ H x y v u Q I rx ry h
 obtain ⟨b,rfl,hx,q⟩:=h
 cases ry
 rcases hx with rfl | ⟨c,rfl⟩
 ·cases rx
  exact wpAny_isNot_plain rfl (zch I q (by cases b <;> rfl))
 ·cases rx
  exact wpAny_isNot_plain rfl (zch I q (by cases b <;> cases c <;> rfl))
theorem z1c (hc : X.calm = true) : zga X (.builtin "sum") (fun xs H Q=>∃ (p : Addr) (ns : List Int),xs = [.ref p] /\ SqL X.K H p (ns.map V.int) /\ Q (.int ns.sum) H):=by
 intro pins s σ H xs us Q I r h
 obtain ⟨p,ns,rfl,hq,q⟩:=h
 obtain ⟨u,rfl,rx⟩:=zh0 r
 cases rx
 obtain ⟨its,r',pl,hz⟩:=I.list hq
 have hi : IntsAre its ns:=zxh r'
 obtain ⟨xs,e⟩:=hi.allInts.items
 refine sum_intListG (I.ok.hd hc) (xs:=xs) (by rw [<- e]; exact pl.isList) fun h' tk t' hk=>?_
 have es : preSum (numAt xs) xs.size = ns.sum:=by
  rw [preSum_eq,List.take_of_length_le (by simp),<- nums_intItems,<- e]
  show (numsOf its).sum = ns.sum
  rw [hi.numsOf]
 rw [es]
 exact ⟨.int ns.sum,H,I.kept hk,⟨_,rfl⟩,q⟩
theorem z5p : zga X (.builtin "isinstance") (fun xs H Q=>∃ x T t b,xs = [x,.ty T] /\ ze2 X.K H x t /\ PySem.W.kitOne X.K t (.type T) = some b /\ Q (.bl b) H):=by
 intro pins s σ H xs us Q I r h
 obtain ⟨x,T,t,b,rfl,ty,e,q⟩:=h
 obtain ⟨u,w',rfl,rx,rc⟩:=zzf r
 cases (show w' = Value.type T from rc)
 exact z2l I rx ty e fun tk=>⟨.bl b,H,I.tok tk,rfl,q⟩
end
theorem za8.at' {xs : List V} {us : List Value} {i : Nat} {u : Value} (r : za8 xs us) (e : us[i]? = some u) : ∃ x,xs[i]? = some x /\ za5 x u:=by
 have hl:=r.length
 have hi : i < xs.length:=by have:=(List.getElem?_eq_some_iff.mp e).1; omega
 refine ⟨xs[i],by simp [hi],?_⟩
 obtain ⟨u',e',r'⟩:=r.get (i:=i) (x:=xs[i]) (by simp [hi])
 rw [e] at e'; cases e'; exact r'
section
variable {X : Cx} {pins : List (Addr × Obj)} {σ : St} {H : Hp} {s : Shared}
end
theorem zjt {env : Env} {k' : NameKind} (hk : k' ≠ .free) : ∀ {names : List (Str × NameKind)} {x : Str},names.lookup x = some k' ->
  (names.map fun (n,k)=>if (k == NameKind.free && env.scope.kind == .function && env.kindOf n == some .cell) then (n,NameKind.cell) else (n,k)).lookup x = some k'
 | [],_,h=>by simp at h
 | (n,k) :: r,x,h=>by
  have ih:=@zjt env k' hk r x
  rw [List.map_cons]
  show List.lookup x ((if (k == NameKind.free && env.scope.kind == .function && env.kindOf n == some .cell) = true then (n,NameKind.cell) else (n,k)) :: _) = _
  rw [List.lookup_cons] at h
  cases hx : x == n with
  | true =>
   rw [hx] at h
   have e : k = k':=Option.some.inj h
   subst e
   have hf : (k == NameKind.free) = false:=by simpa using hk
   rw [hf,Bool.false_and,Bool.false_and,if_neg Bool.false_ne_true,List.lookup_cons,hx]
  | false =>
   rw [hx] at h
   split
   ·rw [List.lookup_cons,hx]; exact ih h
   ·rw [List.lookup_cons,hx]; exact ih h
theorem z0u {env : Env} {scope : Scope} {x : Str} (h : Vis scope x) : Vis (relabel scope env) x:=by
 rcases h with h | h | h
 ·exact .inl (zjt (by decide) h)
 ·exact .inr (.inl (zjt (by decide) h))
 ·rcases zov (env:=env) h with z | z
  ·exact .inr (.inl z)
  ·exact .inr (.inr z)
section
variable {X : Cx} {scope : Scope} {Nc : List Str} {cl : List (Str × Addr)} {C : Addr} {ex : List Addr} {s₂ : Shared} {H₂ : Hp}
theorem pvc (i : Nat) {x : Str} {pos : Pos} (hN : Nc[i]? = some x:=by rfl) (hv : Vis scope x:=by first | exact Or.inl rfl | exact Or.inr (Or.inl rfl) | exact Or.inr (Or.inr rfl)) (hd : (x == ("__debug__" : Str)) = false:=by decide)
  (hcd : (x == ("__classdict__" : Str)) = false:=by decide) : PE (X.comp scope Nc cl C ex s₂ H₂) (.Name x pos) (zeh i):=zg0 hN (z0u hv) hd hcd
theorem pgc (i : Nat) {x : Str} {pos : Pos} (hN : Nc.Nodup:=by decide +kernel) (hi : Nc[i]? = some x:=by rfl) (hl : scope.names.lookup x = some .local:=by rfl) : PG (X.comp scope Nc cl C ex s₂ H₂) (.Name x pos) (zhi i) :=
 zso (X:=X.comp scope Nc cl C ex s₂ H₂) hN hi (.inl (zjt (by decide) hl)) (.inr (zjt (by decide) hl))
theorem glc {x : Str} (h : scope.names.lookup x = some .globalImplicit) : Gl (X.comp scope Nc cl C ex s₂ H₂) x:=zjt (env:=X.env) (by decide) h
end
theorem zc2 {H : Hp} {p : Addr} {o : HO} (h : H p = none) : za7 H (upd H p o):=fun b u e=>by rw [zb1 (zdm e h)]; exact e
theorem za7.tup {K : PySem.W.Frag} {H H' : Hp} {a : Addr} {xs : List V} (e : za7 H H') (h : SqT K H a xs) : SqT K H' a xs:=by
 rcases h with (h | ⟨o,h⟩) | h
 ·exact .inl (.inl (e _ _ h))
 ·exact .inl (.inr ⟨o,e _ _ h⟩)
 ·exact .inr h
noncomputable def zgk (p : Option Bool -> Bool) (es : List (Option Bool)) (its : List (Int × Int)) : Int:=((its.filter fun z=>p (es.getD z.1.toNat none)).map (·.2)).sum
inductive Prt where
 | inn (t : Int) | out (t : Int) | least (k : Int) (its : List (Int × Int)) | most (k : Int) (its : List (Int × Int))
noncomputable def bs (l : List Bool) : List (Option Bool):=l.map some
noncomputable def Prt.holds (rs ws : List Bool) : Prt -> Bool
 | .inn t=>(rs.getD t.toNat false)
 | .out t=>!(ws.getD t.toNat false)
 | .least k its=>decide (k <= zgk (· == some true) (bs rs) its)
 | .most k its=>decide (zgk (· == some true) (bs ws) its <= k)
section
variable {X : Cx} {pins : List (Addr × Obj)} {σ : St} {H : Hp} {s : Shared} {h' : Heap}
theorem Inv.turnedMany {t' : Nat} {ch : List Addr} (I : Inv X pins σ H s) (k : ∀ b o,b ∉ ch -> s.heap.get? b = some o -> h'.get? b = some o) (hf : ∀ b ∈ ch,zfs X pins H b) : Inv X pins σ H { s with heap:=h',toks:=t' }:=by
 refine I.step (g':=s.gens) (d':=s.drawn) (ch:=ch) (fun b hb=>?_) (fun b o _ _ hc e _=>k b o hc e) (fun b o _ _ hc e _=>⟨o.slots,k b o hc e⟩) (fun _ _ _ _ n=>n)
  (fun b o hc e=>⟨o,k b o hc e⟩) (fun _ _ e=>e) (fun _ _ _ e=>e) (fun b ps e=>⟨#[],by rw [e]; simp⟩) (fun m hm=>?_) (fun b u e=>?_) I.bare
 ·obtain ⟨_,f1,_,f3,f4,f5⟩:=hf b hb
  exact ⟨f3,f1,f4,f5⟩
 ·obtain ⟨o,es,ep,ho,r⟩:=hm
  exact ⟨o,es,ep,k _ o (fun z=>(hf _ z).2.1 rfl) ho,r⟩
 ·refine (I.hok b u e).stay (fun c v hc q=>k c v (fun z=>?_) q) (fun _ q=>q) fun _ _ q=>q
  have hn:=(hf c z).1
  rcases hc with y | y
  ·rw [y,e] at hn; cases hn
  ·rw [hn] at y; cases y
theorem Inv.track {p : Addr} {o : HO} (I : Inv X pins σ H s) (f : zfs X pins H p) (ob : zcw X.prog X.w (upd H p o) s.heap p o) : Inv X pins σ (upd H p o) s:=by
 obtain ⟨f0,f1,f2,f3,f4,f5⟩:=f
 have ne : ∀ b u,H b = some u -> b ≠ p:=fun b u e=>zdm e f0
 have one : ∀ b : Addr,b ∉ [p] -> b ≠ p:=fun b hb z=>hb (by rw [z]; simp)
 refine I.step (g':=s.gens) (d':=s.drawn) (t':=s.toks) (h':=s.heap) (ch:=[p]) (fun b hb=>?_) (fun b o _ _ hc e _=>e) (fun b o _ _ hc e _=>⟨o.slots,e⟩) (fun b o hc e n=>?_)
  (fun b o hc e=>⟨o,e⟩) (fun b xs e=>?_) (fun b o u e=>?_) (fun b ps e=>⟨#[],?_⟩) (fun m hm=>hm) (fun b u e=>?_) I.bare
 ·have e : b = p:=by simpa using hb
  subst e
  exact ⟨f3,f1,f4,f5⟩
 ·rw [zb1 (one b hc)]; exact n
 ·rw [zb1 (ne b _ e)]; exact e
 ·rw [zb1 (ne b _ e)]; exact e
 ·rw [zb1 (ne b _ e),e]; simp
 ·by_cases hb : b = p
  ·subst hb
   rw [zcg] at e
   cases e
   exact ob
  ·rw [zb1 hb] at e
   exact (I.hok b u e).stay (fun c v _ q=>q) (fun c q=>by rw [zb1 (ne c _ q)]; exact q) fun c xs q=>by rw [zb1 (ne c _ q)]; exact q
end
section
variable {X : Cx} {elts : List Expr} {kx : Nat} {tpos : Pos}
end
noncomputable def zf3 (p : Int -> Bool) (its : List (Int × Int)) : Int:=((its.filter fun z=>p z.1).map (·.2)).sum
theorem zsm (p : Option Bool -> Bool) (es : List (Option Bool)) (its : List (Int × Int)) : zgk p es its = zf3 (fun t=>p (es.getD t.toNat none)) its:=rfl
theorem z2d (p q : Int -> Bool) (its : List (Int × Int)) : zf3 p (its.filter fun z=>q z.1) = zf3 (fun t=>p t && q t) its:=by
 unfold zf3
 rw [List.filter_filter]
noncomputable def Prt.sure (es : List (Option Bool)) : Prt -> Bool
 | .inn t=>es.getD t.toNat none == some true
 | .out t=>es.getD t.toNat none == some false
 | .least k its=>decide (k <= zgk (· == some true) es its)
 | .most k its=>decide (zgk (fun e=>!(e == some false)) es its <= k)
noncomputable def Prt.lost (es : List (Option Bool)) (ws : List Bool) : Prt -> Bool
 | .inn t=>(es.getD t.toNat none == some false) || ws.getD t.toNat false
 | .out t=>es.getD t.toNat none == some true
 | .least k its=>decide (zf3 (fun t=>!(es.getD t.toNat none == some false) && !(ws.getD t.toNat false)) its < k)
 | .most k its=>decide (k < zgk (· == some true) es its)
inductive D where
 | non
 | bl (b : Bool)
 | int (i : Int)
 | str (x : Str)
 | lst (xs : List D)
 | tup (xs : List D)
 | kl (xs : List D)
 | kt (xs : List D)
 | dic (ks : List Key) (xs : List D)
 | ins (c : Str) (ns : List Str) (xs : List D)
 deriving Inhabited
set_option genInjectivity false in
structure Gc where
 K : PySem.W.Frag
 cl : Str -> Addr
mutual
noncomputable def Rep (G : Gc) (H : Hp) : D -> V -> Prop
 | .non,v=>v = .non
 | .bl b,v=>v = .bl b
 | .int i,v=>v = .int i
 | .str x,v=>v = .str x
 | .lst ds,v=>∃ a vs,v = .ref a /\ H a = some (.lst vs) /\ zas G H ds vs
 | .tup ds,v=>∃ a vs,v = .ref a /\ H a = some (.tup vs) /\ zas G H ds vs
 | .kl ds,v=>∃ a vs,v = .ref a /\ SqL G.K H a vs /\ zas G H ds vs
 | .kt ds,v=>∃ a vs,v = .ref a /\ SqT G.K H a vs /\ zas G H ds vs
 | .dic ks ds,v=>∃ a vs,v = .ref a /\ H a = some (.dK (ks.zip vs)) /\ ks.length = vs.length /\ zas G H ds vs
 | .ins c ns ds,v=>∃ a dx vs,v = .ref a /\ H a = some (.ins (G.cl c) dx (ns.zip vs)) /\ ns.length = vs.length /\ zas G H ds vs
noncomputable def zas (G : Gc) (H : Hp) : List D -> List V -> Prop
 | [],vs=>vs = []
 | d :: ds,vs=>∃ v r,vs = v :: r /\ Rep G H d v /\ zas G H ds r
end
section
variable {G : Gc} {H H' Hf Hf' : Hp}
mutual
theorem Rep.upM (s : za7 H H') : ∀ (d : D) (v : V),Rep G H d v -> Rep G H' d v
 | .non,_,h=>h
 | .bl _,_,h=>h
 | .int _,_,h=>h
 | .str _,_,h=>h
 | .lst ds,_,⟨a,vs,e,q,r⟩=>⟨a,vs,e,s _ _ q,zas.upM s ds vs r⟩
 | .tup ds,_,⟨a,vs,e,q,r⟩=>⟨a,vs,e,s _ _ q,zas.upM s ds vs r⟩
 | .kl ds,_,⟨a,vs,e,q,r⟩=>⟨a,vs,e,s.seq q,zas.upM s ds vs r⟩
 | .kt ds,_,⟨a,vs,e,q,r⟩=>⟨a,vs,e,s.tup q,zas.upM s ds vs r⟩
 | .dic _ ds,_,⟨a,vs,e,q,l,r⟩=>⟨a,vs,e,s _ _ q,l,zas.upM s ds vs r⟩
 | .ins _ _ ds,_,⟨a,dx,vs,e,q,l,r⟩=>⟨a,dx,vs,e,s _ _ q,l,zas.upM s ds vs r⟩
theorem zas.upM (s : za7 H H') : ∀ (ds : List D) (vs : List V),zas G H ds vs -> zas G H' ds vs
 | [],_,h=>h
 | d :: ds,_,⟨v,r,e,h1,h2⟩=>⟨v,r,e,Rep.upM s d v h1,zas.upM s ds r h2⟩
end
theorem Rep.up {d : D} {v : V} (r : Rep G H d v) (s : za7 H H') : Rep G H' d v:=Rep.upM s d v r
theorem zas.up {ds : List D} {vs : List V} (r : zas G H ds vs) (s : za7 H H') : zas G H' ds vs:=zas.upM s ds vs r
theorem zas.nil : zas G H [] []:=rfl
theorem zas.cons {d : D} {ds : List D} {v : V} {vs : List V} (h : Rep G H d v) (t : zas G H ds vs) : zas G H (d :: ds) (v :: vs):=⟨v,vs,rfl,h,t⟩
theorem zas.length : ∀ {ds : List D} {vs : List V},zas G H ds vs -> ds.length = vs.length
 | [],_,h=>by cases (show _ = [] from h); rfl
 | d :: ds,_,⟨v,r,e,_,h⟩=>by subst e; simp [zas.length h]
theorem zas.append : ∀ {ds es : List D} {vs us : List V},zas G H ds vs -> zas G H es us -> zas G H (ds ++ es) (vs ++ us)
 | [],_,_,_,h,t=>by cases (show _ = [] from h); exact t
 | d :: ds,_,_,_,⟨v,r,e,h1,h2⟩,t=>by subst e; exact ⟨v,r ++ _,rfl,h1,zas.append h2 t⟩
theorem zas.get : ∀ {ds : List D} {vs : List V} {i : Nat} {d : D},zas G H ds vs -> ds[i]? = some d -> ∃ v,vs[i]? = some v /\ Rep G H d v
 | [],_,_,_,_,e=>by simp at e
 | d :: ds,_,0,_,⟨v,r,e,h1,_⟩,e'=>by subst e; simp at e'; subst e'; exact ⟨v,rfl,h1⟩
 | d :: ds,_,i + 1,d',⟨v,r,e,_,h2⟩,e'=>by
  subst e
  obtain ⟨u,a,b⟩:=zas.get (i:=i) (d:=d') h2 (by simpa using e')
  exact ⟨u,by simpa using a,b⟩
theorem zas.get' : ∀ {ds : List D} {vs : List V} {i : Nat} {v : V},zas G H ds vs -> vs[i]? = some v -> ∃ d,ds[i]? = some d /\ Rep G H d v:=fun {ds vs i v} h e=>by
 have hl:=h.length
 have hi : i < ds.length:=by have:=(List.getElem?_eq_some_iff.mp e).1; omega
 obtain ⟨u,a,b⟩:=h.get (i:=i) (d:=ds[i]) (by simp [hi])
 rw [e] at a; cases a
 exact ⟨ds[i],by simp [hi],b⟩
theorem zas.ints : ∀ (ns : List Int),zas G H (ns.map D.int) (ns.map V.int)
 | []=>rfl
 | n :: ns=>⟨_,_,rfl,rfl,zas.ints ns⟩
theorem zas.take : ∀ {ds : List D} {vs : List V} (n : Nat),zas G H ds vs -> zas G H (ds.take n) (vs.take n)
 | _,_,0,_=>rfl
 | [],_,n + 1,h=>by cases (show _ = [] from h); rfl
 | d :: ds,_,n + 1,⟨v,r,e,h1,h2⟩=>by subst e; exact ⟨v,r.take n,rfl,h1,zas.take n h2⟩
theorem zas.drop : ∀ {ds : List D} {vs : List V} (n : Nat),zas G H ds vs -> zas G H (ds.drop n) (vs.drop n)
 | _,_,0,h=>h
 | [],_,n + 1,h=>by cases (show _ = [] from h); rfl
 | d :: ds,_,n + 1,⟨v,r,e,h1,h2⟩=>by subst e; exact zas.drop n h2
theorem zas.set : ∀ {ds : List D} {vs : List V} (i : Nat) {d : D} {v : V},zas G H ds vs -> Rep G H d v -> zas G H (ds.set i d) (vs.set i v)
 | [],_,_,_,_,h,_=>by cases (show _ = [] from h); exact .nil
 | e :: ds,_,0,_,_,⟨v,r,e',_,h2⟩,q=>by subst e'; exact ⟨_,r,rfl,q,h2⟩
 | e :: ds,_,i + 1,_,_,⟨v,r,e',h1,h2⟩,q=>by subst e'; exact ⟨v,r.set i _,rfl,h1,zas.set i h2 q⟩
end
noncomputable def zo7 : HO -> Bool
 | .tup _=>true
 | _=>false
structure Ext (Hf H Hf' H' : Hp) : Prop where
 f : za7 Hf Hf'
 h : za7 H H'
 s : za7 Hf' H'
 n : ∀ l o,H l = some o -> zo7 o = false -> Hf' l = Hf l
section
variable {Hf H Hf1 H1 Hf2 H2 : Hp} {p : Addr} {o : HO}
theorem Ext.refl (s : za7 Hf H) : Ext Hf H Hf H:=⟨za7.refl _,za7.refl _,s,fun _ _ _ _=>rfl⟩
theorem Ext.trans (a : Ext Hf H Hf1 H1) (b : Ext Hf1 H1 Hf2 H2) : Ext Hf H Hf2 H2:=⟨a.f.trans b.f,a.h.trans b.h,b.s,fun l o e t=>(b.n l o (a.h l o e) t).trans (a.n l o e t)⟩
theorem Ext.new (s : za7 Hf H) (h : H p = none) : Ext Hf H (upd Hf p o) (upd H p o) :=
 ⟨zc2 (s.free h),zc2 h,fun b u e=>by
  by_cases hb : b = p
  ·subst hb; rw [zcg] at e ⊢; exact e
  ·rw [zb1 hb] at e ⊢; exact s b u e,fun l u e _=>by rw [zb1 (zdm e h)]⟩
theorem Ext.tmp (s : za7 Hf H) (h : H p = none) : Ext Hf H Hf (upd H p o):=⟨za7.refl _,zc2 h,s.trans (zc2 h),fun _ _ _ _=>rfl⟩
theorem Ext.grow (s : za7 Hf H) (g : za7 H H1) : Ext Hf H Hf H1:=⟨za7.refl _,g,s.trans g,fun _ _ _ _=>rfl⟩
theorem Ext.fix (a : Ext Hf H Hf1 H1) (hn : H p = none) (hf : Hf1 p = none) (hp : H1 p = some o) : Ext Hf H (upd Hf1 p o) H1 :=
 ⟨a.f.trans (zc2 hf),a.h,fun b u e=>by
  by_cases hb : b = p
  ·subst hb; rw [zcg] at e; rw [hp]; exact e
  ·rw [zb1 hb] at e; exact a.s b u e,fun l u e t=>by rw [zb1 (zdm e hn)]; exact a.n l u e t⟩
end
inductive Sl where
 | no
 | im (d : D)
 | own (xs : List D)
 | ownd (ks : List Key) (xs : List D)
 | obj (c : Str) (ns : List Str) (xs : List D)
 | pin (l : Addr) (xs : List D)
noncomputable def Sl.isOwn : Sl -> Bool
 | .own _=>true
 | .ownd _ _=>true
 | .obj _ _ _=>true
 | .pin _ _=>true
 | _=>false
noncomputable def zev (G : Gc) (Hf H : Hp) (l : Addr) : Sl -> Prop
 | .own ds=>∃ vs,H l = some (.lst vs) /\ zas G Hf ds vs
 | .ownd ks ds=>∃ vs,H l = some (.dK (ks.zip vs)) /\ ks.length = vs.length /\ zas G Hf ds vs
 | .obj c ns ds=>∃ dx vs,H l = some (.ins (G.cl c) dx (ns.zip vs)) /\ ns.length = vs.length /\ zas G Hf ds vs
 | .pin l0 ds=>l = l0 /\ ∃ vs,H l = some (.lst vs) /\ zas G Hf ds vs
 | _=>False
theorem zev.there {G : Gc} {Hf H : Hp} {l : Addr} {s : Sl} (h : zev G Hf H l s) : ∃ o,H l = some o:=by
 cases s with
 | own ds=>obtain ⟨vs,h,_⟩:=h; exact ⟨_,h⟩
 | ownd ks ds=>obtain ⟨vs,h,_⟩:=h; exact ⟨_,h⟩
 | obj c ns ds=>obtain ⟨dx,vs,h,_⟩:=h; exact ⟨_,h⟩
 | pin l0 ds=>obtain ⟨_,vs,h,_⟩:=h; exact ⟨_,h⟩
 | _=>exact h.elim
theorem zev.there2 {G : Gc} {Hf H : Hp} {l : Addr} {s : Sl} (h : zev G Hf H l s) : ∃ o,H l = some o /\ zo7 o = false:=by
 cases s with
 | own ds=>obtain ⟨vs,h,_⟩:=h; exact ⟨_,h,rfl⟩
 | ownd ks ds=>obtain ⟨vs,h,_⟩:=h; exact ⟨_,h,rfl⟩
 | obj c ns ds=>obtain ⟨dx,vs,h,_⟩:=h; exact ⟨_,h,rfl⟩
 | pin l0 ds=>obtain ⟨_,vs,h,_⟩:=h; exact ⟨_,h,rfl⟩
 | _=>exact h.elim
theorem zev.up {G : Gc} {Hf H Hf' H' : Hp} {l : Addr} {s : Sl} (h : zev G Hf H l s) (f : za7 Hf Hf') (e : ∀ o,H l = some o -> H' l = some o) : zev G Hf' H' l s:=by
 cases s with
 | own ds=>obtain ⟨vs,h,r⟩:=h; exact ⟨vs,e _ h,r.up f⟩
 | ownd ks ds=>obtain ⟨vs,h,z,r⟩:=h; exact ⟨vs,e _ h,z,r.up f⟩
 | obj c ns ds=>obtain ⟨dx,vs,h,z,r⟩:=h; exact ⟨dx,vs,e _ h,z,r.up f⟩
 | pin l0 ds=>obtain ⟨q,vs,h,r⟩:=h; exact ⟨q,vs,e _ h,r.up f⟩
 | _=>exact h.elim
noncomputable def zju (G : Gc) (H0 Hf H : Hp) (v : Option V) : Sl -> Prop
 | .no=>True
 | .im d=>∃ u,v = some u /\ Rep G Hf d u
 | s=>∃ l,v = some (.ref l) /\ H0 l = none /\ Hf l = none /\ zev G Hf H l s
theorem zju.own {G : Gc} {H0 Hf H : Hp} {v : Option V} {s : Sl} (hs : s.isOwn = true) (h : zju G H0 Hf H v s) : ∃ l,v = some (.ref l) /\ H0 l = none /\ Hf l = none /\ zev G Hf H l s:=by
 cases s <;> first | exact h | cases hs
theorem zju.ofOwn {G : Gc} {H0 Hf H : Hp} {v : Option V} {s : Sl} (hs : s.isOwn = true) (h : ∃ l,v = some (.ref l) /\ H0 l = none /\ Hf l = none /\ zev G Hf H l s) : zju G H0 Hf H v s:=by
 cases s <;> first | exact h | cases hs
structure za1 (G : Gc) (Hf0 H0 Hf H : Hp) (σ : St) (ρ : List Sl) : Prop where
 ext : Ext Hf0 H0 Hf H
 len : σ.length = ρ.length
 at' : ∀ (i : Nat) (v : Option V) (s : Sl),σ[i]? = some v -> ρ[i]? = some s -> zju G H0 Hf H v s
 inj : ∀ (i j : Nat) (s t : Sl) (l : Addr),ρ[i]? = some s -> ρ[j]? = some t -> s.isOwn = true -> t.isOwn = true -> σ[i]? = some (some (.ref l)) -> σ[j]? = some (some (.ref l)) -> i = j
section
variable {G : Gc} {Hf0 H0 Hf H Hf' H' : Hp} {σ : St} {ρ : List Sl}
theorem za1.sub (h : za1 G Hf0 H0 Hf H σ ρ) : za7 Hf H:=h.ext.s
theorem za1.step (h : za1 G Hf0 H0 Hf H σ ρ) (e : Ext Hf H Hf' H') : za1 G Hf0 H0 Hf' H' σ ρ:=by
 refine ⟨h.ext.trans e,h.len,fun i v s a b=>?_,h.inj⟩
 have q:=h.at' i v s a b
 cases hs : s.isOwn with
 | true =>
  obtain ⟨l,e1,e2,e3,e4⟩:=q.own hs
  obtain ⟨o,ho,ht⟩:=e4.there2
  exact .ofOwn hs ⟨l,e1,e2,by rw [e.n l o ho ht]; exact e3,e4.up e.f fun o ho=>e.h _ _ ho⟩
 | false =>
  cases s with
  | no=>trivial
  | im d=>obtain ⟨u,e1,r⟩:=q; exact ⟨u,e1,r.up e.f⟩
  | _=>cases hs
theorem za1.slot {i : Nat} {s : Sl} (h : za1 G Hf0 H0 Hf H σ ρ) (e : ρ[i]? = some s) : ∃ v,σ[i]? = some v /\ zju G H0 Hf H v s:=by
 have hi : i < σ.length:=by rw [h.len]; exact (List.getElem?_eq_some_iff.mp e).1
 exact ⟨σ[i],by simp [hi],h.at' i _ s (by simp [hi]) e⟩
theorem za1.imm {i : Nat} {d : D} (h : za1 G Hf0 H0 Hf H σ ρ) (e : ρ[i]? = some (.im d)) : ∃ v,σ[i]? = some (some v) /\ Rep G Hf d v:=by
 obtain ⟨v,e1,u,e2,r⟩:=h.slot e
 subst e2
 exact ⟨u,e1,r⟩
theorem za1.ownAt {i : Nat} {s : Sl} (hs : s.isOwn = true) (h : za1 G Hf0 H0 Hf H σ ρ) (e : ρ[i]? = some s) : ∃ l,σ[i]? = some (some (.ref l)) /\ H0 l = none /\ Hf l = none /\ zev G Hf H l s:=by
 obtain ⟨v,e1,q⟩:=h.slot e
 obtain ⟨l,e2,q2⟩:=q.own hs
 rw [e2] at e1
 exact ⟨l,e1,q2⟩
theorem zda {α : Type} {l : List α} {i j : Nat} {x y : α} (h : (l.set i x)[j]? = some y) : (j = i /\ y = x /\ i < l.length) \/ (j ≠ i /\ l[j]? = some y):=by
 by_cases hj : j = i
 ·subst hj
  left
  have hi : j < l.length:=by have:=(List.getElem?_eq_some_iff.mp h).1; simpa using this
  rw [List.getElem?_set_self hi] at h
  exact ⟨rfl,(Option.some.inj h).symm,hi⟩
 ·right
  rw [List.getElem?_set_ne (Ne.symm hj)] at h
  exact ⟨hj,h⟩
theorem za1.setIm {i : Nat} {d : D} {v : V} (h : za1 G Hf0 H0 Hf H σ ρ) (r : Rep G Hf d v) : za1 G Hf0 H0 Hf H (σ.set i (some v)) (ρ.set i (.im d)):=by
 refine ⟨h.ext,by simpa using h.len,fun j u s a b=>?_,fun j k s t l a b hs ht c d'=>?_⟩
 ·rcases zda b with ⟨e,e',_⟩ | ⟨e,b⟩
  ·subst e e'
   rcases zda a with ⟨_,e',_⟩ | ⟨e,_⟩
   ·subst e'; exact ⟨v,rfl,r⟩
   ·exact absurd rfl e
  ·rcases zda a with ⟨e',_⟩ | ⟨_,a⟩
   ·exact absurd e' e
   ·exact h.at' j u s a b
 ·rcases zda a with ⟨e,e',_⟩ | ⟨e,a⟩
  ·subst e'; cases hs
  ·rcases zda b with ⟨e2,e',_⟩ | ⟨e2,b⟩
   ·subst e'; cases ht
   ·rcases zda c with ⟨e',_⟩ | ⟨_,c⟩
    ·exact absurd e' e
    ·rcases zda d' with ⟨e',_⟩ | ⟨_,d'⟩
     ·exact absurd e' e2
     ·exact h.inj j k s t l a b hs ht c d'
theorem za1.setOwn {i : Nat} {l : Addr} {s : Sl} (hs : s.isOwn = true) (h : za1 G Hf0 H0 Hf H σ ρ) (e : Ext Hf H Hf' H') (hn : H l = none) (hf : Hf' l = none) (ho : zev G Hf' H' l s) :
  za1 G Hf0 H0 Hf' H' (σ.set i (some (.ref l))) (ρ.set i s):=by
 have h':=h.step e
 have no : ∀ (j : Nat) (t : Sl),ρ[j]? = some t -> t.isOwn = true -> σ[j]? = some (some (.ref l)) -> False:=fun j t b ht c=>by
  obtain ⟨l',e1,_,_,q⟩:=h.ownAt ht b
  rw [c] at e1; cases e1
  obtain ⟨o,ho⟩:=q.there
  rw [hn] at ho; cases ho
 refine ⟨h'.ext,by simpa using h.len,fun j u t a b=>?_,fun j k t t' l' a b ht ht' c d'=>?_⟩
 ·rcases zda b with ⟨e,e',_⟩ | ⟨e,b⟩
  ·subst e e'
   rcases zda a with ⟨_,e',_⟩ | ⟨e,_⟩
   ·subst e'; exact .ofOwn hs ⟨l,rfl,h.ext.h.free hn,hf,ho⟩
   ·exact absurd rfl e
  ·rcases zda a with ⟨e',_⟩ | ⟨_,a⟩
   ·exact absurd e' e
   ·exact h'.at' j u t a b
 ·rcases zda a with ⟨e1,e1',_⟩ | ⟨e1,a⟩
  ·rcases zda b with ⟨e2,e2',_⟩ | ⟨e2,b⟩
   ·rw [e1,e2]
   ·rcases zda c with ⟨_,e',_⟩ | ⟨e',_⟩
    ·cases e'
     rcases zda d' with ⟨e',_⟩ | ⟨_,d'⟩
     ·exact absurd e' e2
     ·exact (no k t' b ht' d').elim
    ·exact absurd e1 e'
  ·rcases zda c with ⟨e',_⟩ | ⟨_,c⟩
   ·exact absurd e' e1
   ·rcases zda b with ⟨e2,e2',_⟩ | ⟨e2,b⟩
    ·rcases zda d' with ⟨_,e',_⟩ | ⟨e',_⟩
     ·cases e'
      exact (no j t a ht c).elim
     ·exact absurd e2 e'
    ·rcases zda d' with ⟨e',_⟩ | ⟨_,d'⟩
     ·exact absurd e' e2
     ·exact h.inj j k t t' l' a b ht ht' c d'
theorem za1.mutd {i : Nat} {l : Addr} {s s' : Sl} {o : HO} (hs : s.isOwn = true) (hs' : s'.isOwn = true) (h : za1 G Hf0 H0 Hf H σ ρ) (e : ρ[i]? = some s) (el : σ[i]? = some (some (.ref l))) (ho : zev G Hf (upd H l o) l s') :
  za1 G Hf0 H0 Hf (upd H l o) σ (ρ.set i s'):=by
 obtain ⟨l',e1,h0,hf,q⟩:=h.ownAt hs e
 rw [el] at e1; cases e1
 obtain ⟨oo,hoo⟩:=q.there
 have oth : ∀ b u,b ≠ l -> H b = some u -> upd H l o b = some u:=fun b u n e=>by rw [zb1 n]; exact e
 refine ⟨⟨h.ext.f,fun b u e=>?_,fun b u e=>?_,h.ext.n⟩,by simpa using h.len,fun j u t a b=>?_,fun j k t t' l' a b ht ht' c d'=>?_⟩
 ·exact oth b u (zdm e h0) (h.ext.h b u e)
 ·exact oth b u (zdm e hf) (h.ext.s b u e)
 ·rcases zda b with ⟨e,e',_⟩ | ⟨en,b⟩
  ·subst e e'
   rw [el] at a; cases a
   exact .ofOwn hs' ⟨l,rfl,h0,hf,ho⟩
  ·have q:=h.at' j u t a b
   cases ht : t.isOwn with
   | false =>
    cases t with
    | no=>trivial
    | im d=>exact q
    | _=>cases ht
   | true =>
    obtain ⟨l2,e2,e3,e4,q2⟩:=q.own ht
    subst e2
    refine .ofOwn ht ⟨l2,rfl,e3,e4,q2.up (za7.refl _) fun o' ho'=>oth _ _ (fun z=>?_) ho'⟩
    subst z
    exact en (h.inj j i t s l2 b e ht hs a el)
 ·have old : ∀ (j : Nat) (t : Sl),(ρ.set i s')[j]? = some t -> t.isOwn = true -> ∃ t0,ρ[j]? = some t0 /\ t0.isOwn = true:=fun j t a ht=>by
   rcases zda a with ⟨e',_,_⟩ | ⟨_,a⟩
   ·subst e'; exact ⟨s,e,hs⟩
   ·exact ⟨t,a,ht⟩
  obtain ⟨t0,a0,ht0⟩:=old j t a ht
  obtain ⟨t1,b0,ht1⟩:=old k t' b ht'
  exact h.inj j k t0 t1 l' a0 b0 ht0 ht1 c d'
theorem za1.fixd {i : Nat} {l : Addr} {s : Sl} {d : D} {o : HO} (hs : s.isOwn = true) (h : za1 G Hf0 H0 Hf H σ ρ) (e : ρ[i]? = some s) (el : σ[i]? = some (some (.ref l))) (ho : H l = some o) (hr : Rep G (upd Hf l o) d (.ref l)) :
  za1 G Hf0 H0 (upd Hf l o) H σ (ρ.set i (.im d)):=by
 obtain ⟨l',e1,h0,hf,q⟩:=h.ownAt hs e
 rw [el] at e1; cases e1
 refine ⟨h.ext.fix h0 hf ho,by simpa using h.len,fun j u t a b=>?_,fun j k t t' l' a b ht ht' c d'=>?_⟩
 ·rcases zda b with ⟨e,e',_⟩ | ⟨en,b⟩
  ·subst e e'
   rw [el] at a; cases a
   exact ⟨_,rfl,hr⟩
  ·have q:=h.at' j u t a b
   cases ht : t.isOwn with
   | false =>
    cases t with
    | no=>trivial
    | im d=>obtain ⟨u',e1,r⟩:=q; exact ⟨u',e1,r.up (zc2 hf)⟩
    | _=>cases ht
   | true =>
    obtain ⟨l2,e2,e3,e4,q2⟩:=q.own ht
    subst e2
    refine .ofOwn ht ⟨l2,rfl,e3,?_,q2.up (zc2 hf) fun o' ho'=>ho'⟩
    rw [zb1 (fun z=>?_)]
    ·exact e4
    ·subst z
     exact en (h.inj j i t s l2 b e ht hs a el)
 ·have old : ∀ (j : Nat) (t : Sl),(ρ.set i (.im d))[j]? = some t -> t.isOwn = true -> ρ[j]? = some t:=fun j t a ht=>by
   rcases zda a with ⟨_,e',_⟩ | ⟨_,a⟩
   ·subst e'; cases ht
   ·exact a
  exact h.inj j k t t' l' (old j t a ht) (old k t' b ht') ht ht' c d'
end
section
variable {X : Cx} {e : Expr}
theorem PE.imp {t t' : TE} (h : PE X e t) (i : ∀ σ H Q,t' σ H Q -> t σ H Q) : PE X e t':=fun pins s σ H Q I q=>h pins s σ H Q I (i σ H Q q)
theorem PT.imp {t t' : TT} (h : PT X e t) (i : ∀ σ H Q,t' σ H Q -> t σ H Q) : PT X e t':=fun pins s σ H Q I q=>h pins s σ H Q I (i σ H Q q)
theorem PW.imp {t t' : TT} (h : PW X e t) (i : ∀ σ H Q,t' σ H Q -> t σ H Q) : PW X e t':=fun wh pins s σ H Q I q=>h wh pins s σ H Q I (i σ H Q q)
theorem PA.imp {es : List Expr} {t t' : TA} (h : PA X es t) (i : ∀ σ H Q,t' σ H Q -> t σ H Q) : PA X es t':=fun pos pins s σ H Q I q=>h pos pins s σ H Q I (i σ H Q q)
theorem PS.imp {st : Stmt} {t t' : TS} (h : PS X st t) (i : ∀ E σ H,t' E σ H -> t E σ H) : PS X st t':=fun pins s σ H E I q=>h pins s σ H E I (i E σ H q)
theorem PSs.imp {st : List Stmt} {t t' : TS} (h : PSs X st t) (i : ∀ E σ H,t' E σ H -> t E σ H) : PSs X st t':=fun pins s σ H E I q=>h pins s σ H E I (i E σ H q)
theorem PG.imp {t t' : TG} (h : PG X e t) (i : ∀ v σ H Q,t' v σ H Q -> t v σ H Q) : PG X e t':=fun pins s σ H v u Q I r q=>h pins s σ H v u Q I r (i v σ H Q q)
theorem PGs.imp {es : List Expr} {t t' : TGs} (h : PGs X es t) (i : ∀ v σ H Q,t' v σ H Q -> t v σ H Q) : PGs X es t':=fun pins s σ H v u Q I r q=>h pins s σ H v u Q I r (i v σ H Q q)
theorem PI.imp {tg : Expr} {t t' : TI} (h : PI X tg e t) (i : ∀ σ H R,t' σ H R -> t σ H R) : PI X tg e t':=fun pins s σ H R I q=>h pins s σ H R I (i σ H R q)
theorem PTs.imp {ifs : List Expr} {t t' : TT} (h : PTs X ifs t) (i : ∀ σ H Q,t' σ H Q -> t σ H Q) : PTs X ifs t':=fun pins s σ H Q I q=>h pins s σ H Q I (i σ H Q q)
end
noncomputable abbrev Gx (c : Str -> Addr) (X : Cx) : Gc:=⟨X.K,c⟩
noncomputable def tD (G : Gc) (f : List Sl -> Option D) : TE:=fun σ H Q=>∃ Hf0 H0 Hf ρ d,za1 G Hf0 H0 Hf H σ ρ /\ f ρ = some d /\ ∀ v Hf' H',Ext Hf H Hf' H' -> Rep G Hf' d v -> Q v H'
noncomputable def tDB (G : Gc) (f : List Sl -> Option D) : TE:=fun σ H Q=>∃ Hf0 H0 Hf ρ d,za1 G Hf0 H0 Hf H σ ρ /\ f ρ = some d /\ ∀ v Hf' H',Ext Hf H Hf' H' -> Rep G H' d v -> Q v H'
noncomputable def tDC (G : Gc) (f : List Sl -> Option (List D)) : TE:=fun σ H Q=>∃ Hf0 H0 Hf ρ ds,za1 G Hf0 H0 Hf H σ ρ /\ f ρ = some ds /\ ∀ a vs Hf' H',Ext Hf H Hf' H' -> (SqL G.K H' a vs \/ SqT G.K H' a vs) -> zas G Hf' ds vs -> Q (.ref a) H'
noncomputable def tDO (G : Gc) (f : List Sl -> Option (List D)) : TE:=fun σ H Q=>∃ Hf0 H0 Hf ρ ds,za1 G Hf0 H0 Hf H σ ρ /\ f ρ = some ds /\
 ∀ l vs Hf' H',Ext Hf H Hf' H' -> H l = none -> Hf' l = none -> H' l = some (.lst vs) -> zas G Hf' ds vs -> Q (.ref l) H'
noncomputable def tDA (G : Gc) (f : List Sl -> Option (List D)) : TA:=fun σ H Q=>∃ Hf0 H0 Hf ρ ds,za1 G Hf0 H0 Hf H σ ρ /\ f ρ = some ds /\ ∀ vs Hf' H',Ext Hf H Hf' H' -> zas G Hf' ds vs -> Q vs H'
noncomputable def z0n (G : Gc) (f : List Sl -> Option (List D)) : TA:=fun σ H Q=>∃ Hf0 H0 Hf ρ ds,za1 G Hf0 H0 Hf H σ ρ /\ f ρ = some ds /\ ∀ vs Hf' H',Ext Hf H Hf' H' -> zas G H' ds vs -> Q vs H'
noncomputable def tDT (G : Gc) (f : List Sl -> Option Bool) : TT:=fun σ H Q=>∃ Hf0 H0 Hf ρ b,za1 G Hf0 H0 Hf H σ ρ /\ f ρ = some b /\ ∀ Hf' H',Ext Hf H Hf' H' -> Q b H'
noncomputable def DE (c : Str -> Addr) (X : Cx) (e : Expr) (f : List Sl -> Option D) : Prop:=PE X e (tD (Gx c X) f)
noncomputable def DB (c : Str -> Addr) (X : Cx) (e : Expr) (f : List Sl -> Option D) : Prop:=PE X e (tDB (Gx c X) f)
noncomputable def DC (c : Str -> Addr) (X : Cx) (e : Expr) (f : List Sl -> Option (List D)) : Prop:=PE X e (tDC (Gx c X) f)
noncomputable def DO (c : Str -> Addr) (X : Cx) (e : Expr) (f : List Sl -> Option (List D)) : Prop:=PE X e (tDO (Gx c X) f)
structure DA (c : Str -> Addr) (X : Cx) (es : List Expr) (f : List Sl -> Option (List D)) : Prop where
 pa : PA X es (tDA (Gx c X) f)
 len : ∀ ρ ds,f ρ = some ds -> ds.length = es.length
structure DAB (c : Str -> Addr) (X : Cx) (es : List Expr) (f : List Sl -> Option (List D)) : Prop where
 pa : PA X es (z0n (Gx c X) f)
 len : ∀ ρ ds,f ρ = some ds -> ds.length = es.length
noncomputable def DT (c : Str -> Addr) (X : Cx) (e : Expr) (f : List Sl -> Option Bool) : Prop:=PT X e (tDT (Gx c X) f)
noncomputable def DW (c : Str -> Addr) (X : Cx) (e : Expr) (f : List Sl -> Option Bool) : Prop:=PW X e (tDT (Gx c X) f)
noncomputable def D.scalar : D -> Bool
 | .non=>true
 | .bl _=>true
 | .int _=>true
 | .str _=>true
 | _=>false
theorem Rep.sc {G : Gc} {H H' : Hp} {d : D} {v : V} (hs : d.scalar = true) (r : Rep G H d v) : Rep G H' d v:=by
 cases d <;> first | exact r | cases hs
noncomputable def zhe : D -> Option (List D)
 | .lst xs=>some xs
 | .tup xs=>some xs
 | .kl xs=>some xs
 | .kt xs=>some xs
 | _=>none
theorem znu {G : Gc} {H : Hp} {d : D} {v : V} {ds : List D} (e : zhe d = some ds) (r : Rep G H d v) : ∃ a vs,v = .ref a /\ (SqL G.K H a vs \/ SqT G.K H a vs) /\ zas G H ds vs:=by
 cases d with
 | lst xs=>cases e; obtain ⟨a,vs,e1,q,r⟩:=r; exact ⟨a,vs,e1,.inl (SqL.of q),r⟩
 | tup xs=>cases e; obtain ⟨a,vs,e1,q,r⟩:=r; exact ⟨a,vs,e1,.inr (SqT.of q),r⟩
 | kl xs=>cases e; obtain ⟨a,vs,e1,q,r⟩:=r; exact ⟨a,vs,e1,.inl q,r⟩
 | kt xs=>cases e; obtain ⟨a,vs,e1,q,r⟩:=r; exact ⟨a,vs,e1,.inr q,r⟩
 | _=>cases e
theorem zqh {K : PySem.W.Frag} {H H' : Hp} (s : za7 H H') {a : Addr} {vs : List V} (h : SqL K H a vs \/ SqT K H a vs) : SqL K H' a vs \/ SqT K H' a vs:=h.imp s.seq s.tup
noncomputable def zal (f : List Sl -> Option (List D)) (ρ : List Sl) : Option D:=(f ρ).map .lst
noncomputable def zbn (f : List Sl -> Option (List D)) (ρ : List Sl) : Option D:=(f ρ).map .tup
noncomputable def zbl (f : List Sl -> Option D) (ρ : List Sl) : Option (List D):=(f ρ).bind zhe
noncomputable def zd6 (f g : List Sl -> Option D) (ρ : List Sl) : Option D:=(f ρ).or (g ρ)
section
variable {c : Str -> Addr} {X : Cx} {e a b : Expr} {es : List Expr} {pos : Pos}
theorem DE.db {f : List Sl -> Option D} (h : DE c X e f) : DB c X e f:=PE.imp h fun σ H Q q_=>by
 obtain ⟨Hf0,H0,Hf,ρ,d,st,ef,k⟩:=q_
 exact (⟨Hf0,H0,Hf,ρ,d,st,ef,fun v Hf' H' x r=>k v Hf' H' x (r.up x.s)⟩)
theorem DE.dc {f : List Sl -> Option D} (h : DE c X e f) : DC c X e (zbl f):=PE.imp h fun σ H Q q_=>by
 obtain ⟨Hf0,H0,Hf,ρ,ds,st,ef,k⟩:=q_
 unfold zbl at ef
 cases ed : f ρ with
 | none=>rw [ed] at ef; cases ef
 | some d =>
  rw [ed] at ef
  refine ⟨Hf0,H0,Hf,ρ,d,st,ed,fun v Hf' H' x r=>?_⟩
  obtain ⟨a,vs,e1,q,rs⟩:=znu ef r
  subst e1
  exact k a vs Hf' H' x (zqh x.s q) rs
theorem DO.de {f : List Sl -> Option (List D)} (h : DO c X e f) : DE c X e (zal f):=PE.imp h fun σ H Q q_=>by
 obtain ⟨Hf0,H0,Hf,ρ,d,st,ef,k⟩:=q_
 unfold zal at ef
 cases ed : f ρ with
 | none=>rw [ed] at ef; cases ef
 | some ds =>
  rw [ed] at ef
  have ef : D.lst ds = d:=Option.some.inj ef
  subst ef
  exact ⟨Hf0,H0,Hf,ρ,ds,st,ed,fun l vs Hf' H' x hn hf hl r=>k _ (upd Hf' l (.lst vs)) H' (x.fix hn hf hl) ⟨l,vs,rfl,zcg,r.up (zc2 hf)⟩⟩
theorem DO.dc {f : List Sl -> Option (List D)} (h : DO c X e f) : DC c X e f:=PE.imp h fun σ H Q q_=>by
 obtain ⟨Hf0,H0,Hf,ρ,ds,st,ef,k⟩:=q_
 exact (
 ⟨Hf0,H0,Hf,ρ,ds,st,ef,fun l vs Hf' H' x hn hf hl r=>k l vs Hf' H' x (.inl (SqL.of hl)) r⟩)
theorem DE.orE {f g : List Sl -> Option D} (h : DE c X e f) (h' : DE c X e g) : DE c X e (zd6 f g):=fun pins s σ H Q I q_=>by
 obtain ⟨Hf0,H0,Hf,ρ,d,st,ef,k⟩:=q_
 unfold zd6 at ef
 cases ed : f ρ with
 | some d' =>
  rw [ed] at ef
  cases ef
  exact h pins s σ H Q I ⟨Hf0,H0,Hf,ρ,_,st,ed,k⟩
 | none =>
  rw [ed] at ef
  exact h' pins s σ H Q I ⟨Hf0,H0,Hf,ρ,d,st,ef,k⟩
noncomputable def zaa (i : Nat) (ρ : List Sl) : Option D:=match ρ[i]? with
 | some (.im d)=>some d
 | _=>none
noncomputable def zg3 (i : Nat) (ρ : List Sl) : Option D:=match ρ[i]? with
 | some (.im d)=>some d
 | some (.own xs)=>some (.lst xs)
 | some (.ownd ks xs)=>some (.dic ks xs)
 | _=>none
noncomputable def zaf (i : Nat) (ρ : List Sl) : Option (List D):=match ρ[i]? with
 | some (.im d)=>zhe d
 | some (.own xs)=>some xs
 | _=>none
theorem z4n {i : Nat} {ρ : List Sl} {d : D} (h : zaa i ρ = some d) : ρ[i]? = some (.im d):=by
 unfold zaa at h
 cases e : ρ[i]? with
 | none=>rw [e] at h; cases h
 | some s=>rw [e] at h; cases s <;> cases h; rfl
theorem zuw {i : Nat} (h : PE X e (zeh i)) : DE c X e (zaa i):=PE.imp h fun σ H Q q_=>by
 obtain ⟨Hf0,H0,Hf,ρ,d,st,ef,k⟩:=q_
 obtain ⟨v,e1,r⟩:=st.imm (z4n ef)
 exact ⟨v,e1,k v Hf H (Ext.refl st.sub) r⟩
theorem zr9 {i : Nat} (h : PE X e (zeh i)) : DC c X e (zaf i):=PE.imp h fun σ H Q q_=>by
 obtain ⟨Hf0,H0,Hf,ρ,ds,st,ef,k⟩:=q_
 unfold zaf at ef
 cases es : ρ[i]? with
 | none=>rw [es] at ef; cases ef
 | some s =>
  rw [es] at ef
  cases s with
  | im d =>
   obtain ⟨v,e1,r⟩:=st.imm es
   obtain ⟨a,vs,e2,q,rs⟩:=znu ef r
   subst e2
   exact ⟨_,e1,k a vs Hf H (Ext.refl st.sub) (zqh st.sub q) rs⟩
  | own xs =>
   cases ef
   obtain ⟨l,e1,_,_,vs,q,r⟩:=st.ownAt rfl es
   exact ⟨_,e1,k l vs Hf H (Ext.refl st.sub) (.inl (SqL.of q)) r⟩
  | _=>cases ef
theorem zv0 {i : Nat} (h : PE X e (zeh i)) : DB c X e (zg3 i):=PE.imp h fun σ H Q q_=>by
 obtain ⟨Hf0,H0,Hf,ρ,d,st,ef,k⟩:=q_
 unfold zg3 at ef
 cases es : ρ[i]? with
 | none=>rw [es] at ef; cases ef
 | some s =>
  rw [es] at ef
  cases s with
  | im d =>
   cases ef
   obtain ⟨v,e1,r⟩:=st.imm es
   exact ⟨_,e1,k v Hf H (Ext.refl st.sub) (r.up st.sub)⟩
  | own xs =>
   cases ef
   obtain ⟨l,e1,_,_,vs,q,r⟩:=st.ownAt rfl es
   exact ⟨_,e1,k _ Hf H (Ext.refl st.sub) ⟨l,vs,rfl,q,r.up st.sub⟩⟩
  | ownd ks xs =>
   cases ef
   obtain ⟨l,e1,_,_,vs,q,z,r⟩:=st.ownAt rfl es
   exact ⟨_,e1,k _ Hf H (Ext.refl st.sub) ⟨l,vs,rfl,q,z,r.up st.sub⟩⟩
  | _=>cases ef
theorem znq {v : V} {d : D} (h : PE X e (tC v)) (r : ∀ G H,Rep G H d v) : DE c X e (fun _=>some d):=PE.imp h fun σ H Q q_=>by
 obtain ⟨Hf0,H0,Hf,ρ,d',st,ef,k⟩:=q_
 cases ef
 exact k v Hf H (Ext.refl st.sub) (r _ _)
theorem zae {i : Int} {j} : DE c X (.Constant (.int i) j pos) (fun _=>some (.int i)):=znq z0z fun _ _=>rfl
theorem zbz {i : Bool} {j} : DE c X (.Constant (.bool i) j pos) (fun _=>some (.bl i)):=znq z43 fun _ _=>rfl
theorem zea {j} : DE c X (.Constant .none j pos) (fun _=>some .non):=znq z19 fun _ _=>rfl
theorem zbq {i : Str} {j} : DE c X (.Constant (.str i) j pos) (fun _=>some (.str i)):=znq zn2 fun _ _=>rfl
theorem dv (i : Nat) {x : Str} (hN : X.N[i]? = some x:=by rfl) (hv : Vis X.env.scope x:=by first | exact Or.inl rfl | exact Or.inr (Or.inl rfl) | exact Or.inr (Or.inr rfl)) (hd : (x == ("__debug__" : Str)) = false:=by decide)
  (hcd : (x == ("__classdict__" : Str)) = false:=by decide) : DE c X (.Name x pos) (zaa i):=zuw (zg0 hN hv hd hcd)
theorem dvC (i : Nat) {x : Str} (hN : X.N[i]? = some x:=by rfl) (hv : Vis X.env.scope x:=by first | exact Or.inl rfl | exact Or.inr (Or.inl rfl) | exact Or.inr (Or.inr rfl)) (hd : (x == ("__debug__" : Str)) = false:=by decide)
  (hcd : (x == ("__classdict__" : Str)) = false:=by decide) : DC c X (.Name x pos) (zaf i):=zr9 (zg0 hN hv hd hcd)
theorem dvB (i : Nat) {x : Str} (hN : X.N[i]? = some x:=by rfl) (hv : Vis X.env.scope x:=by first | exact Or.inl rfl | exact Or.inr (Or.inl rfl) | exact Or.inr (Or.inr rfl)) (hd : (x == ("__debug__" : Str)) = false:=by decide)
  (hcd : (x == ("__classdict__" : Str)) = false:=by decide) : DB c X (.Name x pos) (zg3 i):=zv0 (zg0 hN hv hd hcd)
noncomputable def zab (f : List Sl -> Option D) (g : List Sl -> Option (List D)) (ρ : List Sl) : Option (List D):=(f ρ).bind fun d=>(g ρ).map fun ds=>d :: ds
theorem zng {f : List Sl -> Option D} {g : List Sl -> Option (List D)} {ρ : List Sl} {ds : List D} (h : zab f g ρ = some ds) : ∃ d r,f ρ = some d /\ g ρ = some r /\ ds = d :: r:=by
 unfold zab at h
 cases e1 : f ρ with
 | none=>rw [e1] at h; cases h
 | some d =>
  cases e2 : g ρ with
  | none=>rw [e1,e2] at h; cases h
  | some r=>rw [e1,e2] at h; cases h; exact ⟨d,r,rfl,rfl,rfl⟩
theorem zag : DA c X [] (fun _=>some []):=⟨PA.imp zd8 fun σ H Q ⟨Hf0,H0,Hf,ρ,ds,st,ef,k⟩=>by cases ef; exact k [] Hf H (Ext.refl st.sub) rfl,fun ρ ds h=>by cases h; rfl⟩
theorem zac {f : List Sl -> Option D} {g : List Sl -> Option (List D)} (ha : DE c X e f) (hr : DA c X es g) (hs : starEach (e :: es) X.env = (false,eval e X.env) :: starEach es X.env:=by rfl) : DA c X (e :: es) (zab f g):=by
 refine ⟨PA.imp (zdl ha hr.pa hs) fun σ H Q ⟨Hf0,H0,Hf,ρ,ds,st,ef,k⟩=>?_,fun ρ ds h=>?_⟩
 ·obtain ⟨d,r,e1,e2,rfl⟩:=zng ef
  exact ⟨Hf0,H0,Hf,ρ,d,st,e1,fun v Hf1 H1 x1 r1=>⟨Hf0,H0,Hf1,ρ,r,st.step x1,e2,fun vs Hf2 H2 x2 r2=>k _ Hf2 H2 (x1.trans x2) (.cons (r1.up x2.f) r2)⟩⟩
 ·obtain ⟨d,r,e1,e2,rfl⟩:=zng h
  simp [hr.len ρ r e2]
theorem zbw : DAB c X [] (fun _=>some []):=⟨PA.imp zd8 fun σ H Q ⟨Hf0,H0,Hf,ρ,ds,st,ef,k⟩=>by cases ef; exact k [] Hf H (Ext.refl st.sub) rfl,fun ρ ds h=>by cases h; rfl⟩
theorem zbb {f : List Sl -> Option D} {g : List Sl -> Option (List D)} (ha : DB c X e f) (hr : DAB c X es g) (hs : starEach (e :: es) X.env = (false,eval e X.env) :: starEach es X.env:=by rfl) : DAB c X (e :: es) (zab f g):=by
 refine ⟨PA.imp (zdl ha hr.pa hs) fun σ H Q ⟨Hf0,H0,Hf,ρ,ds,st,ef,k⟩=>?_,fun ρ ds h=>?_⟩
 ·obtain ⟨d,r,e1,e2,rfl⟩:=zng ef
  exact ⟨Hf0,H0,Hf,ρ,d,st,e1,fun v Hf1 H1 x1 r1=>⟨Hf0,H0,Hf1,ρ,r,st.step x1,e2,fun vs Hf2 H2 x2 r2=>k _ Hf2 H2 (x1.trans x2) (.cons (r1.up x2.h) r2)⟩⟩
 ·obtain ⟨d,r,e1,e2,rfl⟩:=zng h
  simp [hr.len ρ r e2]
theorem zby {f : List Sl -> Option (List D)} (h : DA c X es f) (hz : es.length <= 1000:=by exact Nat.le_of_ble_eq_true rfl) : DO c X (.List es pos) f:=PE.imp (zvt h.pa) fun σ H Q ⟨Hf0,H0,Hf,ρ,ds,st,ef,k⟩ =>
 ⟨Hf0,H0,Hf,ρ,ds,st,ef,fun vs Hf' H' x r=>⟨by
  rw [<- r.length,h.len ρ ds ef]
  exact Nat.le_of_lt (ztu hz),fun p hp=>k p vs Hf' (upd H' p (.lst vs)) (x.trans (Ext.tmp x.s hp)) (x.h.free hp) (x.s.free hp) zcg r⟩⟩
theorem zbu {f : List Sl -> Option (List D)} {k' : Nat} (h : DA c X es f) (hz : es.length <= 1000:=by exact Nat.le_of_ble_eq_true rfl) : DE c X (.Tuple es k' pos) (zbn f):=PE.imp (zx5 h.pa) fun σ H Q q_=>by
 obtain ⟨Hf0,H0,Hf,ρ,d,st,ef,k⟩:=q_
 unfold zbn at ef
 cases ed : f ρ with
 | none=>rw [ed] at ef; cases ef
 | some ds =>
  rw [ed] at ef
  have ef : D.tup ds = d:=Option.some.inj ef
  subst ef
  exact ⟨Hf0,H0,Hf,ρ,ds,st,ed,fun vs Hf' H' x r=>⟨by
   rw [<- r.length,h.len ρ ds ed]
   exact Nat.le_of_lt (ztu hz),fun p hp=>k _ (upd Hf' p (.tup vs)) (upd H' p (.tup vs)) (x.trans (Ext.new x.s hp)) ⟨p,vs,rfl,zcg,r.up (zc2 (x.s.free hp))⟩⟩⟩
noncomputable def rD (G : Gc) (m : D -> D -> Option D) : R2:=fun vx vy H Q=>∃ Hf x y d,za7 Hf H /\ Rep G Hf x vx /\ Rep G Hf y vy /\ m x y = some d /\ ∀ v Hf' H',Ext Hf H Hf' H' -> Rep G Hf' d v -> Q v H'
noncomputable abbrev OpD (c : Str -> Addr) (X : Cx) (f : Value -> Value -> Sem Value) (m : D -> D -> Option D) : Prop:=OpR X f (rD (Gx c X) m)
noncomputable def m2 (m : D -> D -> Option D) (f g : List Sl -> Option D) (ρ : List Sl) : Option D:=(f ρ).bind fun x=>(g ρ).bind fun y=>m x y
theorem zrq {m : D -> D -> Option D} {f g : List Sl -> Option D} {ρ : List Sl} {d : D} (h : m2 m f g ρ = some d) : ∃ x y,f ρ = some x /\ g ρ = some y /\ m x y = some d:=by
 unfold m2 at h
 cases e1 : f ρ with
 | none=>rw [e1] at h; cases h
 | some x =>
  cases e2 : g ρ with
  | none=>rw [e1,e2] at h; cases h
  | some y=>rw [e1,e2] at h; exact ⟨x,y,rfl,rfl,h⟩
theorem two {m : D -> D -> Option D} {f g : List Sl -> Option D} {r : R2} {σ : St} {H : Hp} {Q : VK} (hr : ∀ x y H Q,rD (Gx c X) m x y H Q -> r x y H Q) (h : tD (Gx c X) (m2 m f g) σ H Q) : tOp r (tD (Gx c X) f) (tD (Gx c X) g) σ H Q:=by
 obtain ⟨Hf0,H0,Hf,ρ,d,st,ef,k⟩:=h
 obtain ⟨x,y,e1,e2,e3⟩:=zrq ef
 exact ⟨Hf0,H0,Hf,ρ,x,st,e1,fun v Hf1 H1 x1 r1=>⟨Hf0,H0,Hf1,ρ,y,st.step x1,e2,fun u Hf2 H2 x2 r2=>hr _ _ _ _ ⟨Hf2,x,y,d,x2.s,r1.up x2.f,r2,e3,fun w Hf3 H3 x3 r3=>k w Hf3 H3 ((x1.trans x2).trans x3) r3⟩⟩⟩
theorem zsx {m : D -> D -> Option D} {f g : List Sl -> Option D} {r : R2} {σ : St} {H : Hp} {Q : VK} (hr : ∀ x y H Q,rD (Gx c X) m x y H Q -> r x y H Q) (hs : ∀ x y d,m x y = some d -> d.scalar = true) (h : tD (Gx c X) (m2 m f g) σ H Q) : tOp r (tDB (Gx c X) f) (tDB (Gx c X) g) σ H Q:=by
 obtain ⟨Hf0,H0,Hf,ρ,d,st,ef,k⟩:=h
 obtain ⟨x,y,e1,e2,e3⟩:=zrq ef
 exact ⟨Hf0,H0,Hf,ρ,x,st,e1,fun v Hf1 H1 x1 r1=>⟨Hf0,H0,Hf1,ρ,y,st.step x1,e2,fun u Hf2 H2 x2 r2=>hr _ _ _ _ ⟨H2,x,y,d,za7.refl _,r1.up x2.h,r2,e3,fun w Hf3 H3 x3 r3 =>
  k w Hf2 H3 ((x1.trans x2).trans (Ext.grow x2.s x3.h)) (r3.sc (hs _ _ _ e3))⟩⟩⟩
theorem zay {op : Operator} {m : D -> D -> Option D} {f g : List Sl -> Option D} (ho : OpD c X (binaryOp op) m) (ha : DE c X a f) (hb : DE c X b g) : DE c X (.BinOp a op b pos) (m2 m f g) :=
 PE.imp (zvk ho ha hb) fun _ _ _ h=>two (fun _ _ _ _ h=>h) h
theorem zb6 {op : CmpOp} {m : D -> D -> Option D} {f g : List Sl -> Option D} (ho : OpD c X (compareOp op) m) (hs : ∀ x y d,m x y = some d -> d.scalar = true) (ha : DB c X a f) (hb : DB c X b g) (hm : behindInMarks op b = false:=by first | exact zs3 _ | rfl) :
  DE c X (.Compare a [op] [b] pos) (m2 m f g):=PE.imp (zya ho ha hb hm) fun _ _ _ h=>zsx (fun _ _ _ _ h=>h) hs h
noncomputable def mB (f : List Sl -> Option D) (ρ : List Sl) : Option Bool:=(f ρ).bind fun d=>match d with
 | .bl b=>some b
 | _=>none
theorem zmm {f : List Sl -> Option D} {ρ : List Sl} {b : Bool} (h : mB f ρ = some b) : f ρ = some (.bl b):=by
 unfold mB at h
 cases e : f ρ with
 | none=>rw [e] at h; cases h
 | some d=>rw [e] at h; cases d <;> cases h; rfl
theorem za0 {op : CmpOp} {m : D -> D -> Option D} {f g : List Sl -> Option D} (ho : OpD c X (compareOp op) m) (hs : ∀ x y d,m x y = some d -> d.scalar = true) (ha : DB c X a f) (hb : DB c X b g) (hm : behindInMarks op b = false:=by first | exact zs3 _ | rfl) :
  DT c X (.Compare a [op] [b] pos) (mB (m2 m f g)):=PT.imp (z5l ho ha hb hm) fun σ H Q ⟨Hf0,H0,Hf,ρ,b,st,ef,k⟩ =>
 zsx (fun _ _ _ _ h=>h) hs ⟨Hf0,H0,Hf,ρ,.bl b,st,zmm ef,fun v Hf' H' x r=>⟨b,r,k Hf' H' x⟩⟩
noncomputable def zqa : D -> Option Bool
 | .non=>some false
 | .bl b=>some b
 | .int i=>some (i != 0)
 | .str x=>if x.length <= 16777216 then some ((x.length : Int) != 0) else none
 | .lst xs=>some (!xs.isEmpty)
 | .tup xs=>some (!xs.isEmpty)
 | .kl xs=>some (!xs.isEmpty)
 | .kt xs=>some (!xs.isEmpty)
 | .dic ks _=>some (!ks.isEmpty)
 | _=>none
theorem zas.empty {G : Gc} {H : Hp} {ds : List D} {vs : List V} (r : zas G H ds vs) : ds.isEmpty = vs.isEmpty:=by
 cases ds with
 | nil=>cases (show vs = [] from r); rfl
 | cons d ds=>obtain ⟨v,r',e,_⟩:=r; subst e; rfl
theorem z84 {α β : Type} {ks : List α} {vs : List β} (h : ks.length = vs.length) : (ks.zip vs).isEmpty = ks.isEmpty:=by
 cases ks <;> cases vs <;> first | rfl | cases h
theorem z4y {G : Gc} {H : Hp} {d : D} {v : V} {b : Bool} (e : zqa d = some b) (r : Rep G H d v) : zq1 G.K v H b:=by
 cases d with
 | non=>cases e; cases r; rfl
 | bl x=>cases e; cases r; rfl
 | int i=>cases e; cases r; rfl
 | str x =>
  cases r
  replace e : (if x.length <= 16777216 then some ((x.length : Int) != 0) else none) = some b:=e
  split at e
  ·rename_i hl
   cases e
   exact ⟨by rw [sizeLine_eq]; exact hl,rfl⟩
  ·cases e
 | lst xs=>cases e; obtain ⟨a,vs,e1,q,r⟩:=r; subst e1; exact .inl ⟨vs,SqL.of q,by rw [r.empty]⟩
 | tup xs=>cases e; obtain ⟨a,vs,e1,q,r⟩:=r; subst e1; exact .inr (.inl ⟨vs,SqT.of q,by rw [r.empty]⟩)
 | kl xs=>cases e; obtain ⟨a,vs,e1,q,r⟩:=r; subst e1; exact .inl ⟨vs,q,by rw [r.empty]⟩
 | kt xs=>cases e; obtain ⟨a,vs,e1,q,r⟩:=r; subst e1; exact .inr (.inl ⟨vs,q,by rw [r.empty]⟩)
 | dic ks xs=>cases e; obtain ⟨a,vs,e1,q,l,r⟩:=r; subst e1; exact .inr (.inr ⟨_,q,by rw [z84 l]⟩)
 | ins _ _ _=>cases e
noncomputable def zcn (f : List Sl -> Option D) (ρ : List Sl) : Option Bool:=(f ρ).bind zqa
theorem zcz {f : List Sl -> Option D} (ha : DB c X a f) (he : ∀ whole,isTrue a X.env whole = (do let v <- whole; standAt a.pos; holding [v] (truthy v)):=by intro _; rfl) : DT c X a (zcn f) :=
 PT.imp (zxg ha he) fun σ H Q q_=>by
  obtain ⟨Hf0,H0,Hf,ρ,b,st,ef,k⟩:=q_
  unfold zcn at ef
  cases ed : f ρ with
  | none=>rw [ed] at ef; cases ef
  | some d =>
   rw [ed] at ef
   exact ⟨Hf0,H0,Hf,ρ,d,st,ed,fun v Hf' H' x r=>⟨b,z4y ef r,k Hf' H' x⟩⟩
noncomputable def zdj (f g : List Sl -> Option Bool) (ρ : List Sl) : Option Bool:=(f ρ).bind fun b=>if b then g ρ else some false
noncomputable def mOr (f g : List Sl -> Option Bool) (ρ : List Sl) : Option Bool:=(f ρ).bind fun b=>if b then some true else g ρ
noncomputable def zee (f : List Sl -> Option Bool) (ρ : List Sl) : Option Bool:=(f ρ).map not
theorem DW.dt {f : List Sl -> Option Bool} (h : DW c X e f) : DT c X e f:=PW.pt h
theorem zgs {f : List Sl -> Option Bool} (h : DT c X a f) : DW c X (.BoolOp .And [a] pos) f:=zyk h
theorem zge {f : List Sl -> Option Bool} (h : DT c X a f) : DW c X (.BoolOp .Or [a] pos) f:=z0j h
theorem zfe {f g : List Sl -> Option Bool} {zco : List Expr} (h : DT c X a f) (h' : DW c X (.BoolOp .And (b :: zco) pos) g) : DW c X (.BoolOp .And (a :: b :: zco) pos) (zdj f g):=PW.imp (z21 h h') fun σ H Q q_=>by
 obtain ⟨Hf0,H0,Hf,ρ,b,st,ef,k⟩:=q_
 unfold zdj at ef
 cases e1 : f ρ with
 | none=>rw [e1] at ef; cases ef
 | some x =>
  rw [e1] at ef
  refine ⟨Hf0,H0,Hf,ρ,x,st,e1,fun Hf1 H1 x1=>?_⟩
  cases x with
  | true=>rw [if_pos rfl]; exact ⟨Hf0,H0,Hf1,ρ,b,st.step x1,ef,fun Hf2 H2 x2=>k Hf2 H2 (x1.trans x2)⟩
  | false=>cases ef; rw [if_neg Bool.false_ne_true]; exact k Hf1 H1 x1
theorem zf7 {f g : List Sl -> Option Bool} {zco : List Expr} (h : DT c X a f) (h' : DW c X (.BoolOp .Or (b :: zco) pos) g) : DW c X (.BoolOp .Or (a :: b :: zco) pos) (mOr f g):=PW.imp (z5z h h') fun σ H Q q_=>by
 obtain ⟨Hf0,H0,Hf,ρ,b,st,ef,k⟩:=q_
 unfold mOr at ef
 cases e1 : f ρ with
 | none=>rw [e1] at ef; cases ef
 | some x =>
  rw [e1] at ef
  refine ⟨Hf0,H0,Hf,ρ,x,st,e1,fun Hf1 H1 x1=>?_⟩
  cases x with
  | false=>rw [if_neg Bool.false_ne_true]; exact ⟨Hf0,H0,Hf1,ρ,b,st.step x1,ef,fun Hf2 H2 x2=>k Hf2 H2 (x1.trans x2)⟩
  | true=>cases ef; rw [if_pos rfl]; exact k Hf1 H1 x1
theorem zfa {f : List Sl -> Option Bool} (h : DT c X a f) : DT c X (.UnaryOp .Not a pos) (zee f):=PT.imp (z6d h) fun σ H Q q_=>by
 obtain ⟨Hf0,H0,Hf,ρ,b,st,ef,k⟩:=q_
 unfold zee at ef
 cases e1 : f ρ with
 | none=>rw [e1] at ef; cases ef
 | some x =>
  rw [e1] at ef
  cases ef
  exact ⟨Hf0,H0,Hf,ρ,x,st,e1,fun Hf1 H1 x1=>k Hf1 H1 x1⟩
noncomputable def zd2 (f g : List Sl -> Option D) (ρ : List Sl) : Option D:=(mB f ρ).bind fun b=>if b then g ρ else some (.bl false)
noncomputable def vOr (f g : List Sl -> Option D) (ρ : List Sl) : Option D:=(mB f ρ).bind fun b=>if b then some (.bl true) else g ρ
noncomputable def zfb (f : List Sl -> Option D) (ρ : List Sl) : Option D:=(mB f ρ).map fun b=>.bl (!b)
theorem zfx {f : List Sl -> Option D} {op} (h : DE c X a f) : DE c X (.BoolOp op [a] pos) f:=z0l h
theorem zf2 {f g : List Sl -> Option D} {zco : List Expr} (h : DE c X a f) (h' : DE c X (.BoolOp .And (b :: zco) pos) g) : DE c X (.BoolOp .And (a :: b :: zco) pos) (zd2 f g):=PE.imp (zyw h h') fun σ H Q q_=>by
 obtain ⟨Hf0,H0,Hf,ρ,d,st,ef,k⟩:=q_
 unfold zd2 at ef
 cases e1 : mB f ρ with
 | none=>rw [e1] at ef; cases ef
 | some x =>
  rw [e1] at ef
  refine ⟨Hf0,H0,Hf,ρ,.bl x,st,zmm e1,fun v Hf1 H1 x1 r1=>⟨x,r1,?_⟩⟩
  cases x with
  | true=>rw [if_pos rfl]; exact ⟨Hf0,H0,Hf1,ρ,d,st.step x1,ef,fun v Hf2 H2 x2 r2=>k v Hf2 H2 (x1.trans x2) r2⟩
  | false=>cases ef; rw [if_neg Bool.false_ne_true]; exact k _ Hf1 H1 x1 rfl
theorem zvc {f g : List Sl -> Option D} {zco : List Expr} (h : DE c X a f) (h' : DE c X (.BoolOp .Or (b :: zco) pos) g) : DE c X (.BoolOp .Or (a :: b :: zco) pos) (vOr f g):=PE.imp (z6c h h') fun σ H Q q_=>by
 obtain ⟨Hf0,H0,Hf,ρ,d,st,ef,k⟩:=q_
 unfold vOr at ef
 cases e1 : mB f ρ with
 | none=>rw [e1] at ef; cases ef
 | some x =>
  rw [e1] at ef
  refine ⟨Hf0,H0,Hf,ρ,.bl x,st,zmm e1,fun v Hf1 H1 x1 r1=>⟨x,r1,?_⟩⟩
  cases x with
  | false=>rw [if_neg Bool.false_ne_true]; exact ⟨Hf0,H0,Hf1,ρ,d,st.step x1,ef,fun v Hf2 H2 x2 r2=>k v Hf2 H2 (x1.trans x2) r2⟩
  | true=>cases ef; rw [if_pos rfl]; exact k _ Hf1 H1 x1 rfl
theorem zgp {f : List Sl -> Option D} (h : DE c X a f) : DE c X (.UnaryOp .Not a pos) (zfb f):=PE.imp (z45 h) fun σ H Q q_=>by
 obtain ⟨Hf0,H0,Hf,ρ,d,st,ef,k⟩:=q_
 unfold zfb at ef
 cases e1 : mB f ρ with
 | none=>rw [e1] at ef; cases ef
 | some x =>
  rw [e1] at ef
  cases ef
  exact ⟨Hf0,H0,Hf,ρ,.bl x,st,zmm e1,fun v Hf1 H1 x1 r1=>⟨x,r1,k _ Hf1 H1 x1 rfl⟩⟩
end
noncomputable instance {i j : Int} : Decidable (zlx i j):=by unfold zlx; infer_instance
noncomputable instance {i j : Int} : Decidable (zkg i j):=by unfold zkg; infer_instance
noncomputable instance {i j : Int} : Decidable (zlv i j):=by unfold zlv; infer_instance
noncomputable def dI (C : Int -> Int -> Prop) [∀ i j,Decidable (C i j)] (g : Int -> Int -> D) : D -> D -> Option D
 | .int i,.int j=>if C i j then some (g i j) else none
 | _,_=>none
noncomputable def dI0 (g : Int -> Int -> D) : D -> D -> Option D
 | .int i,.int j=>some (g i j)
 | _,_=>none
noncomputable def zci : D -> D -> Option D
 | .int i,.int j=>some (.int (i + j))
 | .str a,.str b=>if a.length + b.length <= 16777216 then some (.str (a ++ b)) else none
 | .lst a,.lst b=>if a.length + b.length <= 16777216 then some (.lst (a ++ b)) else none
 | _,_=>none
noncomputable abbrev zh6 : D -> D -> Option D:=dI0 fun i j=>.int (i - j)
noncomputable abbrev zgm : D -> D -> Option D:=dI zlx fun i j=>.int (i / j)
noncomputable abbrev zbv : D -> D -> Option D:=dI (fun _ j=>0 < j) fun i j=>.int (i % j)
noncomputable abbrev zpy : D -> D -> Option D:=dI zkg fun i j=>.int (i ^ j.toNat)
noncomputable abbrev dLt : D -> D -> Option D:=dI0 fun i j=>.bl (decide (i < j))
noncomputable abbrev dLe : D -> D -> Option D:=dI0 fun i j=>.bl (decide (i <= j))
noncomputable abbrev dGt : D -> D -> Option D:=dI0 fun i j=>.bl (decide (j < i))
noncomputable abbrev dGe : D -> D -> Option D:=dI0 fun i j=>.bl (decide (j <= i))
section
variable {c : Str -> Addr} {X : Cx}
theorem zmo {f : Value -> Value -> Sem Value} {C : Int -> Int -> Prop} [∀ i j,Decidable (C i j)] {g : Int -> Int -> V} {gd : Int -> Int -> D} (h : OpR X f (rI C g)) (hg : ∀ G H i j,Rep G H (gd i j) (g i j)) : OpD c X f (dI C gd):=by
 rintro pins s σ H vx vy v u Q I rx ry ⟨Hf,x,y,d,s0,r1,r2,e,k⟩
 unfold dI at e
 split at e
 ·split at e
  ·rename_i hc
   cases e
   exact h pins s σ H vx vy v u Q I rx ry ⟨_,_,r1,r2,hc,k _ Hf H (Ext.refl s0) (hg _ _ _ _)⟩
  ·cases e
 ·cases e
theorem zlr {f : Value -> Value -> Sem Value} {g : Int -> Int -> V} {gd : Int -> Int -> D} (h : OpR X f (rI0 g)) (hg : ∀ G H i j,Rep G H (gd i j) (g i j)) : OpD c X f (dI0 gd):=by
 rintro pins s σ H vx vy v u Q I rx ry ⟨Hf,x,y,d,s0,r1,r2,e,k⟩
 unfold dI0 at e
 split at e
 ·cases e
  exact h pins s σ H vx vy v u Q I rx ry ⟨_,_,r1,r2,k _ Hf H (Ext.refl s0) (hg _ _ _ _)⟩
 ·cases e
theorem zdk : OpD c X (binaryOp .Add) zci:=by
 rintro pins s σ H vx vy v u Q I rx ry ⟨Hf,x,y,d,s0,r1,r2,e,k⟩
 unfold zci at e
 split at e
 ·cases e
  exact z3j pins s σ H vx vy v u Q I rx ry ⟨_,_,r1,r2,k _ Hf H (Ext.refl s0) rfl⟩
 ·split at e
  ·rename_i hl
   cases e
   exact z6i pins s σ H vx vy v u Q I rx ry ⟨_,_,r1,r2,by rw [sizeLine_eq]; exact hl,k _ Hf H (Ext.refl s0) rfl⟩
  ·cases e
 ·split at e
  ·rename_i hl
   cases e
   obtain ⟨a,vs,e1,q1,r1⟩:=r1
   obtain ⟨b,us,e2,q2,r2⟩:=r2
   exact zsz pins s σ H vx vy v u Q I rx ry ⟨a,b,vs,us,e1,e2,s0 _ _ q1,s0 _ _ q2,by rw [sizeLine_eq,<- r1.length,<- r2.length]; exact hl,
    fun p hp=>k _ (upd Hf p (.lst (vs ++ us))) (upd H p (.lst (vs ++ us))) (Ext.new s0 hp) ⟨p,_,rfl,zcg,(r1.append r2).up (zc2 (s0.free hp))⟩⟩
  ·cases e
 ·cases e
theorem zn9 : OpD c X (binaryOp .Sub) zh6:=zlr z1h fun _ _ _ _=>rfl
theorem zhz : OpD c X (binaryOp .FloorDiv) zgm:=zmo z08 fun _ _ _ _=>rfl
theorem zb9 : OpD c X (binaryOp .Mod) zbv:=zmo z7f fun _ _ _ _=>rfl
theorem zz2 : OpD c X (binaryOp .Pow) zpy:=zmo z4w fun _ _ _ _=>rfl
theorem zha : OpD c X (compareOp .Lt) dLt:=zlr z5v fun _ _ _ _=>rfl
theorem zny : OpD c X (compareOp .LtE) dLe:=zlr z25 fun _ _ _ _=>rfl
theorem zkj : OpD c X (compareOp .Gt) dGt:=zlr zx3 fun _ _ _ _=>rfl
theorem zpf : OpD c X (compareOp .GtE) dGe:=zlr z88 fun _ _ _ _=>rfl
theorem zm0 {g : Int -> Int -> D} (hg : ∀ i j,(g i j).scalar = true) : ∀ x y d,dI0 g x y = some d -> d.scalar = true:=by
 intro x y d e
 unfold dI0 at e
 split at e
 ·cases e; exact hg _ _
 ·cases e
theorem zhg : ∀ x y d,dLt x y = some d -> d.scalar = true:=zm0 fun _ _=>rfl
theorem zmk : ∀ x y d,dLe x y = some d -> d.scalar = true:=zm0 fun _ _=>rfl
theorem zi6 : ∀ x y d,dGt x y = some d -> d.scalar = true:=zm0 fun _ _=>rfl
theorem zqi : ∀ x y d,dGe x y = some d -> d.scalar = true:=zm0 fun _ _=>rfl
noncomputable def zfh : D -> Option D
 | .int i=>some (.int (-i))
 | _=>none
noncomputable def m1 (m : D -> Option D) (f : List Sl -> Option D) (ρ : List Sl) : Option D:=(f ρ).bind m
theorem zf8 {a : Expr} {f : List Sl -> Option D} {pos : Pos} (ha : DE c X a f) : DE c X (.UnaryOp .USub a pos) (m1 zfh f):=PE.imp (zxq z1f ha) fun σ H Q q_=>by
 obtain ⟨Hf0,H0,Hf,ρ,d,st,ef,k⟩:=q_
 unfold m1 at ef
 cases e1 : f ρ with
 | none=>rw [e1] at ef; cases ef
 | some y =>
  rw [e1] at ef
  cases y with
  | int i=>cases ef; exact ⟨Hf0,H0,Hf,ρ,.int i,st,e1,fun v Hf' H' x r=>⟨i,r,k _ Hf' H' x rfl⟩⟩
  | _=>cases ef
noncomputable def zvv : D -> Bool
 | .non=>true
 | _=>false
theorem zv9 {G : Gc} {H : Hp} {x : D} {v : V} (r : Rep G H x v) : decide (v = .non) = zvv x:=by
 cases x with
 | non=>cases r; rfl
 | bl b=>cases r; rfl
 | int i=>cases r; rfl
 | str x=>cases r; rfl
 | lst _=>obtain ⟨a,_,e,_⟩:=r; subst e; rfl
 | tup _=>obtain ⟨a,_,e,_⟩:=r; subst e; rfl
 | kl _=>obtain ⟨a,_,e,_⟩:=r; subst e; rfl
 | kt _=>obtain ⟨a,_,e,_⟩:=r; subst e; rfl
 | dic _ _=>obtain ⟨a,_,e,_⟩:=r; subst e; rfl
 | ins _ _ _=>obtain ⟨a,_,_,e,_⟩:=r; subst e; rfl
noncomputable def isD (x y : D) : Option Bool:=match y with
 | .non=>some (zvv x)
 | .bl b=>match x with
  | .non=>some false
  | .bl a=>some (a == b)
  | _=>none
 | _=>none
noncomputable def dIs (x y : D) : Option D:=(isD x y).map .bl
noncomputable def zdq (x y : D) : Option D:=(isD x y).map fun b=>.bl (!b)
theorem zdw : OpD c X (compareOp .Is) dIs:=by
 rintro pins s σ H vx vy v u Q I rx ry ⟨Hf,x,y,d,s0,r1,r2,e,k⟩
 unfold dIs isD at e
 cases y with
 | non =>
  cases e
  exact zwp pins s σ H vx vy v u Q I rx ry ⟨r2,by rw [zv9 r1]; exact k _ Hf H (Ext.refl s0) rfl⟩
 | bl b =>
  cases x with
  | non=>cases e; cases r1; exact zul pins s σ H _ vy v u Q I rx ry ⟨b,r2,.inl rfl,k _ Hf H (Ext.refl s0) rfl⟩
  | bl a=>cases e; cases r1; exact zul pins s σ H _ vy v u Q I rx ry ⟨b,r2,.inr ⟨a,rfl⟩,by rw [zl4]; exact k _ Hf H (Ext.refl s0) rfl⟩
  | _=>cases e
 | _=>cases e
theorem zf4 : OpD c X (compareOp .IsNot) zdq:=by
 rintro pins s σ H vx vy v u Q I rx ry ⟨Hf,x,y,d,s0,r1,r2,e,k⟩
 unfold zdq isD at e
 cases y with
 | non =>
  cases e
  exact z68 pins s σ H vx vy v u Q I rx ry ⟨r2,by rw [zv9 r1]; exact k _ Hf H (Ext.refl s0) rfl⟩
 | bl b =>
  cases x with
  | non=>cases e; cases r1; exact ztb pins s σ H _ vy v u Q I rx ry ⟨b,r2,.inl rfl,k _ Hf H (Ext.refl s0) rfl⟩
  | bl a=>cases e; cases r1; exact ztb pins s σ H _ vy v u Q I rx ry ⟨b,r2,.inr ⟨a,rfl⟩,by rw [zl4]; exact k _ Hf H (Ext.refl s0) rfl⟩
  | _=>cases e
 | _=>cases e
theorem zll {x : Option Bool} {g : Bool -> Bool} : ∀ d,x.map (fun b=>D.bl (g b)) = some d -> d.scalar = true:=by
 intro d e
 cases x with
 | none=>cases e
 | some b=>cases e; rfl
theorem zdv : ∀ x y d,dIs x y = some d -> d.scalar = true:=fun _ _ d e=>zll (g:=id) d e
theorem zft : ∀ x y d,zdq x y = some d -> d.scalar = true:=fun _ _ d e=>zll (g:=not) d e
noncomputable def eqF : D -> D -> Bool
 | .non,.non=>true
 | .bl a,.bl b=>a == b
 | .int a,.int b=>a == b
 | .str a,.str b=>a == b
 | _,_=>false
noncomputable def zcy (f : D -> D -> Option Bool) : List D -> List D -> Option Bool
 | [],[]=>some true
 | x :: xs,y :: ys=>(f x y).bind fun b=>(zcy f xs ys).map fun r=>b && r
 | _,_=>some false
noncomputable def zro : D -> D -> Bool
 | .bl _,.int _=>true
 | .int _,.bl _=>true
 | _,_=>false
noncomputable def zm8 (f : D -> D -> Option Bool) : D -> D -> Option Bool
 | .lst xs,.lst ys=>if xs.length = ys.length then zcy f xs ys else some false
 | .tup xs,.tup ys=>if xs.length = ys.length then zcy f xs ys else none
 | x,y=>if x.scalar && y.scalar && !zro x y then some (eqF x y) else none
noncomputable def deq : Nat -> D -> D -> Option Bool
 | 0,_,_=>none
 | n + 1,x,y=>zm8 (deq n) x y
noncomputable def dEq (x y : D) : Option D:=(deq 20 x y).map .bl
noncomputable def dNe (x y : D) : Option D:=(deq 20 x y).map fun b=>.bl (!b)
theorem zbh : ∀ x y d,dEq x y = some d -> d.scalar = true:=fun _ _ d e=>zll (g:=id) d e
theorem zg8 : ∀ x y d,dNe x y = some d -> d.scalar = true:=fun _ _ d e=>zll (g:=not) d e
theorem ztp {f : D -> D -> Option Bool} {x y : D} {xs ys : List D} {b : Bool} (h : zcy f (x :: xs) (y :: ys) = some b) : ∃ b1 b2,f x y = some b1 /\ zcy f xs ys = some b2 /\ b = (b1 && b2):=by
 unfold zcy at h
 cases e1 : f x y with
 | none=>rw [e1] at h; cases h
 | some b1 =>
  cases e2 : zcy f xs ys with
  | none=>rw [e1,e2] at h; cases h
  | some b2=>rw [e1,e2] at h; cases h; exact ⟨b1,b2,rfl,rfl,rfl⟩
theorem zil {f : D -> D -> Option Bool} : ∀ {xs ys : List D} {b : Bool},xs.length = ys.length -> zcy f xs ys = some b -> ∃ e : Nat -> Bool,(∀ j x y,xs[j]? = some x -> ys[j]? = some y -> f x y = some (e j)) /\ (List.range xs.length).all e = b
 | [],[],b,_,h=>by cases h; exact ⟨fun _=>true,fun j x y e=>by simp at e,rfl⟩
 | x :: xs,y :: ys,b,hl,h=>by
  obtain ⟨b1,b2,h1,h2,rfl⟩:=ztp h
  obtain ⟨e,he,ha⟩:=zil (by simpa using hl) h2
  refine ⟨fun j=>match j with | 0=>b1 | j + 1=>e j,fun j x' y' ex ey=>?_,?_⟩
  ·cases j with
   | zero=>simp at ex ey; subst ex ey; exact h1
   | succ j=>exact he j x' y' (by simpa using ex) (by simpa using ey)
  ·rw [List.length_cons,List.range_succ_eq_map,List.all_cons,List.all_map,<- ha]
   rfl
 | [],_ :: _,_,hl,_=>by cases hl
 | _ :: _,[],_,hl,_=>by cases hl
theorem zoc {G : Gc} {H : Hp} {x y : D} {v u : V} (hs : (x.scalar && y.scalar && !zro x y) = true) (r1 : Rep G H x v) (r2 : Rep G H y u) : zej v = true /\ zej u = true /\ eqV v u = eqF x y /\ zpv v u = true /\ decide (v = u) = eqF x y:=by
 cases x <;> first
  | (cases hs; done)
  | (cases y <;> first
   | (cases hs; done)
   | (cases r1; cases r2; refine ⟨rfl,rfl,rfl,rfl,?_⟩; first | exact zl4 | exact zqk | exact zoq | rfl))
theorem zmn {n : Nat} {x y : D} {b : Bool} (hs : ¬ (∃ xs ys,x = .lst xs /\ y = .lst ys) /\ ¬ (∃ xs ys,x = .tup xs /\ y = .tup ys)) (h : deq (n + 1) x y = some b) : (x.scalar && y.scalar && !zro x y) = true /\ b = eqF x y:=by
 replace h : zm8 (deq n) x y = some b:=h
 unfold zm8 at h
 split at h
 ·exact absurd ⟨_,_,rfl,rfl⟩ hs.1
 ·exact absurd ⟨_,_,rfl,rfl⟩ hs.2
 ·split at h
  ·rename_i hc
   cases h
   exact ⟨hc,rfl⟩
  ·cases h
theorem zsu {G : Gc} {H : Hp} : ∀ (n : Nat) {x y : D} {b : Bool} {v : V},deq n x y = some b -> Rep G H x v -> Rep G H y v -> b = true:=by
 intro n
 induction n with
 | zero=>intro x y b v h; cases h
 | succ n ih =>
  have all : ∀ (xs ys : List D) (vs : List V) (b : Bool),zas G H xs vs -> zas G H ys vs -> zcy (deq n) xs ys = some b -> b = true:=by
   intro xs
   induction xs with
   | nil =>
    intro ys vs b r1 r2 h
    cases (show vs = [] from r1)
    have : ys = []:=List.length_eq_zero_iff.mp r2.length
    subst this
    cases h; rfl
   | cons x xs ihx =>
    intro ys vs b r1 r2 h
    obtain ⟨v,r,e,h1,h2⟩:=r1
    subst e
    cases ys with
    | nil=>cases (show v :: r = [] from r2)
    | cons y ys =>
     obtain ⟨v',r',e,h1',h2'⟩:=r2
     cases e
     obtain ⟨b1,b2,e1,e2,rfl⟩:=ztp h
     rw [ih e1 h1 h1',ihx ys _ b2 h2 h2' e2]
     rfl
  intro x y b v h r1 r2
  by_cases hl : ∃ xs ys,x = .lst xs /\ y = .lst ys
  ·obtain ⟨xs,ys,rfl,rfl⟩:=hl
   obtain ⟨a,vs,e,q,r1⟩:=r1
   obtain ⟨a',vs',e',q',r2⟩:=r2
   subst e; cases e'
   rw [q] at q'; cases q'
   have hlen : xs.length = ys.length:=r1.length.trans r2.length.symm
   replace h : (if xs.length = ys.length then zcy (deq n) xs ys else some false) = some b:=h
   rw [if_pos hlen] at h
   exact all xs ys vs b r1 r2 h
  ·by_cases ht : ∃ xs ys,x = .tup xs /\ y = .tup ys
   ·obtain ⟨xs,ys,rfl,rfl⟩:=ht
    obtain ⟨a,vs,e,q,r1⟩:=r1
    obtain ⟨a',vs',e',q',r2⟩:=r2
    subst e; cases e'
    rw [q] at q'; cases q'
    have hlen : xs.length = ys.length:=r1.length.trans r2.length.symm
    replace h : (if xs.length = ys.length then zcy (deq n) xs ys else none) = some b:=h
    rw [if_pos hlen] at h
    exact all xs ys vs b r1 r2 h
   ·obtain ⟨hs,rfl⟩:=zmn ⟨hl,ht⟩ h
    obtain ⟨_,_,_,_,e⟩:=zoc hs r1 r2
    rw [<- e]
    exact decide_eq_true rfl
section
variable {pins : List (Addr × Obj)} {σ : St} {H : Hp} {s : Shared}
theorem ziy {G : Gc} {xs ys : List D} {vs us : List V} {its its2 : List Value} {n : Nat} {A : Around} {e : Nat -> Bool} (r1 : zas G H xs vs) (r2 : zas G H ys us) (r : za8 vs its) (r' : za8 us its2)
  (he : ∀ j x y,xs[j]? = some x -> ys[j]? = some y -> deq n x y = some (e j))
  (ih : ∀ {x y : D} {b : Bool} {v u : V} {w w' : Value},deq n x y = some b -> Rep G H x v -> Rep G H y u -> za5 v w -> za5 u w' -> SeqAt.EqAt A s w w' b) :
  ∀ j (h1 : j < its.toArray.size) (h2 : j < its2.toArray.size),SeqAt.EqAt A s its.toArray[j] its2.toArray[j] (e j):=fun j h1 h2=>by
 have h1' : j < its.length:=by simpa using h1
 have h2' : j < its2.length:=by simpa using h2
 obtain ⟨v,ev,rv⟩:=r.at' (i:=j) (u:=its[j]) (by simp [h1'])
 obtain ⟨u,eu,ru⟩:=r'.at' (i:=j) (u:=its2[j]) (by simp [h2'])
 obtain ⟨x,ex,rx⟩:=r1.get' ev
 obtain ⟨y,ey,ry⟩:=r2.get' eu
 exact ih (he j x y ex ey) rx ry rv ru
theorem zs2 (I : Inv X pins σ H s) : ∀ (n : Nat) {A : Around} {x y : D} {b : Bool} {v u : V} {w w' : Value},A.units + n < cLine -> deq n x y = some b -> Rep (Gx c X) H x v -> Rep (Gx c X) H y u -> za5 v w -> za5 u w' -> SeqAt.EqAt A s w w' b:=by
 intro n
 induction n with
 | zero=>intro A x y b v u w w' _ h; cases h
 | succ n ih =>
  intro A x y b v u w w' hu h r1 r2 rv ru
  have hin : ∀ {x y : D} {b : Bool} {v u : V} {w w' : Value},deq n x y = some b -> Rep (Gx c X) H x v -> Rep (Gx c X) H y u -> za5 v w -> za5 u w' -> SeqAt.EqAt A.in1 s w w' b:=fun h a b c d=>ih (by rw [Around.in1_units]; omega) h a b c d
  by_cases hl : ∃ xs ys,x = .lst xs /\ y = .lst ys
  ·obtain ⟨xs,ys,rfl,rfl⟩:=hl
   obtain ⟨a,vs,e,q,rs1⟩:=id r1
   obtain ⟨a',vs',e',q',rs2⟩:=id r2
   subst e e'
   cases rv; cases ru
   by_cases hab : a = a'
   ·subst hab
    have:=zsu (n + 1) h (show Rep (Gx c X) H (.lst xs) (.ref a) from ⟨a,vs,rfl,q,rs1⟩) ⟨a,vs',rfl,q',rs2⟩
    subst this
    exact SeqAt.EqAt.same _
   ·refine SeqAt.EqAt.of_refs hab ?_
    obtain ⟨its,rr,pl,hz⟩:=I.list (SqL.of (K:=X.K) q)
    obtain ⟨its2,rr2,pl2,hz2⟩:=I.list (SqL.of (K:=X.K) q')
    have l1:=rr.length
    have l2:=rr2.length
    have l3:=rs1.length
    have l4:=rs2.length
    replace h : (if xs.length = ys.length then zcy (deq n) xs ys else some false) = some b:=h
    split at h
    ·rename_i hlen
     obtain ⟨ee,he,ha⟩:=zil hlen h
     have:=SeqAt.RcAt.lists (A:=A) (s:=s) pl.isList pl2.isList (by simp only [List.size_toArray]; omega) (by omega) (ziy (A:=A.in1) (s:=s) rs1 rs2 rr rr2 he hin)
     rw [List.size_toArray,<- l1,<- l3,ha] at this
     exact this
    ·rename_i hlen
     cases h
     exact SeqAt.RcAt.lists_lengths (A:=A) (s:=s) pl.isList pl2.isList (by simp only [List.size_toArray,bne_iff_ne,ne_eq]; omega) (by omega)
  ·by_cases ht : ∃ xs ys,x = .tup xs /\ y = .tup ys
   ·obtain ⟨xs,ys,rfl,rfl⟩:=ht
    obtain ⟨a,vs,e,q,rs1⟩:=id r1
    obtain ⟨a',vs',e',q',rs2⟩:=id r2
    subst e e'
    cases rv; cases ru
    by_cases hab : a = a'
    ·subst hab
     have:=zsu (n + 1) h (show Rep (Gx c X) H (.tup xs) (.ref a) from ⟨a,vs,rfl,q,rs1⟩) ⟨a,vs',rfl,q',rs2⟩
     subst this
     exact SeqAt.EqAt.same _
    ·refine SeqAt.EqAt.of_refs hab ?_
     obtain ⟨its,rr,pl,hz⟩:=I.tuple (SqT.of (K:=X.K) q)
     obtain ⟨its2,rr2,pl2,hz2⟩:=I.tuple (SqT.of (K:=X.K) q')
     have l1:=rr.length
     have l2:=rr2.length
     have l3:=rs1.length
     have l4:=rs2.length
     replace h : (if xs.length = ys.length then zcy (deq n) xs ys else none) = some b:=h
     split at h
     ·rename_i hlen
      obtain ⟨ee,he,ha⟩:=zil hlen h
      have:=SeqAt.RcAt.tuples (A:=A) (s:=s) (show s.heap.IsTuple a its.toArray from pl) (show s.heap.IsTuple a' its2.toArray from pl2) (by omega) (ziy (A:=A.in1) (s:=s) rs1 rs2 rr rr2 he hin)
      have hsz : its.toArray.size = its2.toArray.size:=by simp only [List.size_toArray]; omega
      rw [<- hsz,Nat.min_self,beq_self_eq_true,Bool.and_true,List.size_toArray,<- l1,<- l3,ha] at this
      exact this
     ·cases h
   ·obtain ⟨hs,rfl⟩:=zmn ⟨hl,ht⟩ h
    obtain ⟨f1,f2,e,_,_⟩:=zoc hs r1 r2
    rw [<- e]
    exact zve rv ru f1 f2
end
theorem zbi (hu : X.A.units + 64 < cLine) : OpD c X (compareOp .Eq) dEq:=by
 rintro pins s σ H v u w w' Q I rv ru ⟨Hf,x,y,d,s0,r1,r2,e,k⟩
 unfold dEq at e
 cases h : deq 20 x y with
 | none=>rw [h] at e; cases e
 | some b =>
  rw [h] at e
  cases e
  have q0:=k (.bl b) Hf H (Ext.refl s0) rfl
  have fin : EP X pins σ Q (.bool b) s:=⟨.bl b,H,I,rfl,q0⟩
  have r1:=r1.up s0
  have r2:=r2.up s0
  have hin : ∀ {x y : D} {b : Bool} {v u : V} {w w' : Value},deq 19 x y = some b -> Rep (Gx c X) H x v -> Rep (Gx c X) H y u -> za5 v w -> za5 u w' -> SeqAt.EqAt X.A.in1 s w w' b:=fun h a b c d=>zs2 I 19 (by rw [Around.in1_units]; omega) h a b c d
  by_cases hl : ∃ xs ys,x = .lst xs /\ y = .lst ys
  ·obtain ⟨xs,ys,rfl,rfl⟩:=hl
   obtain ⟨a,vs,e,q,rs1⟩:=id r1
   obtain ⟨a',vs',e',q',rs2⟩:=id r2
   subst e e'
   cases rv; cases ru
   obtain ⟨its,rr,pl,hz⟩:=I.list (SqL.of (K:=X.K) q)
   obtain ⟨its2,rr2,pl2,hz2⟩:=I.list (SqL.of (K:=X.K) q')
   have l1:=rr.length
   have l2:=rr2.length
   have l3:=rs1.length
   have l4:=rs2.length
   replace h : (if xs.length = ys.length then zcy (deq 19) xs ys else some false) = some b:=h
   split at h
   ·rename_i hlen
    obtain ⟨ee,he,ha⟩:=zil hlen h
    refine SeqAt.eq_listAt pl.isList pl2.isList (by simp only [List.size_toArray]; omega) (by omega) (ziy rs1 rs2 rr rr2 he hin) ?_
    rw [List.size_toArray,<- l1,<- l3,ha]
    exact fin
   ·rename_i hlen
    cases h
    exact SeqAt.eq_list_lengthsAt pl.isList pl2.isList (by simp only [List.size_toArray,bne_iff_ne,ne_eq]; omega) (by omega) fin
  ·by_cases ht : ∃ xs ys,x = .tup xs /\ y = .tup ys
   ·obtain ⟨xs,ys,rfl,rfl⟩:=ht
    obtain ⟨a,vs,e,q,rs1⟩:=id r1
    obtain ⟨a',vs',e',q',rs2⟩:=id r2
    subst e e'
    cases rv; cases ru
    obtain ⟨its,rr,pl,hz⟩:=I.tuple (SqT.of (K:=X.K) q)
    obtain ⟨its2,rr2,pl2,hz2⟩:=I.tuple (SqT.of (K:=X.K) q')
    have l1:=rr.length
    have l2:=rr2.length
    have l3:=rs1.length
    have l4:=rs2.length
    replace h : (if xs.length = ys.length then zcy (deq 19) xs ys else none) = some b:=h
    split at h
    ·rename_i hlen
     obtain ⟨ee,he,ha⟩:=zil hlen h
     refine SeqAt.eq_tupleAt (show s.heap.IsTuple a its.toArray from pl) (show s.heap.IsTuple a' its2.toArray from pl2) (by omega) (ziy rs1 rs2 rr rr2 he hin) ?_
     have hsz : its.toArray.size = its2.toArray.size:=by simp only [List.size_toArray]; omega
     rw [<- hsz,Nat.min_self,beq_self_eq_true,Bool.and_true,List.size_toArray,<- l1,<- l3,ha]
     exact fin
    ·cases h
   ·obtain ⟨hs,rfl⟩:=zmn ⟨hl,ht⟩ h
    obtain ⟨_,_,_,hsc,e⟩:=zoc hs r1 r2
    exact z09 pins s σ H v u w w' Q I rv ru ⟨hsc,by rw [e]; exact q0⟩
theorem zgw (hu : X.A.units + 64 < cLine) : OpD c X (compareOp .NotEq) dNe:=by
 rintro pins s σ H v u w w' Q I rv ru ⟨Hf,x,y,d,s0,r1,r2,e,k⟩
 unfold dNe at e
 cases h : deq 20 x y with
 | none=>rw [h] at e; cases e
 | some b =>
  rw [h] at e
  cases e
  have q0:=k (.bl (!b)) Hf H (Ext.refl s0) rfl
  have fin : EP X pins σ Q (.bool (!b)) s:=⟨.bl (!b),H,I,rfl,q0⟩
  have r1:=r1.up s0
  have r2:=r2.up s0
  have hin : ∀ {x y : D} {b : Bool} {v u : V} {w w' : Value},deq 19 x y = some b -> Rep (Gx c X) H x v -> Rep (Gx c X) H y u -> za5 v w -> za5 u w' -> SeqAt.EqAt X.A.in1 s w w' b:=fun h a b c d=>zs2 I 19 (by rw [Around.in1_units]; omega) h a b c d
  by_cases hl : ∃ xs ys,x = .lst xs /\ y = .lst ys
  ·obtain ⟨xs,ys,rfl,rfl⟩:=hl
   obtain ⟨a,vs,e,q,rs1⟩:=id r1
   obtain ⟨a',vs',e',q',rs2⟩:=id r2
   subst e e'
   cases rv; cases ru
   obtain ⟨its,rr,pl,hz⟩:=I.list (SqL.of (K:=X.K) q)
   obtain ⟨its2,rr2,pl2,hz2⟩:=I.list (SqL.of (K:=X.K) q')
   have l1:=rr.length
   have l2:=rr2.length
   have l3:=rs1.length
   have l4:=rs2.length
   replace h : (if xs.length = ys.length then zcy (deq 19) xs ys else some false) = some b:=h
   split at h
   ·rename_i hlen
    obtain ⟨ee,he,ha⟩:=zil hlen h
    refine SeqAt.RcNeAt.lists (A:=X.A) (s:=s) pl.isList pl2.isList (by simp only [List.size_toArray]; omega) (by omega) (ziy rs1 rs2 rr rr2 he hin) X.prog X.w X.xe _ ?_
    rw [List.size_toArray,<- l1,<- l3,ha]
    exact fin
   ·rename_i hlen
    cases h
    exact SeqAt.RcNeAt.lists_lengths (A:=X.A) (s:=s) pl.isList pl2.isList (by simp only [List.size_toArray,bne_iff_ne,ne_eq]; omega) (by omega) X.prog X.w X.xe _ fin
  ·by_cases ht : ∃ xs ys,x = .tup xs /\ y = .tup ys
   ·obtain ⟨xs,ys,rfl,rfl⟩:=ht
    obtain ⟨a,vs,e,q,rs1⟩:=id r1
    obtain ⟨a',vs',e',q',rs2⟩:=id r2
    subst e e'
    cases rv; cases ru
    obtain ⟨its,rr,pl,hz⟩:=I.tuple (SqT.of (K:=X.K) q)
    obtain ⟨its2,rr2,pl2,hz2⟩:=I.tuple (SqT.of (K:=X.K) q')
    have l1:=rr.length
    have l2:=rr2.length
    have l3:=rs1.length
    have l4:=rs2.length
    replace h : (if xs.length = ys.length then zcy (deq 19) xs ys else none) = some b:=h
    split at h
    ·rename_i hlen
     obtain ⟨ee,he,ha⟩:=zil hlen h
     refine SeqAt.RcNeAt.tuples (A:=X.A) (s:=s) (show s.heap.IsTuple a its.toArray from pl) (show s.heap.IsTuple a' its2.toArray from pl2) (by omega) (ziy rs1 rs2 rr rr2 he hin) X.prog X.w X.xe _ ?_
     have hsz : its.toArray.size = its2.toArray.size:=by simp only [List.size_toArray]; omega
     rw [<- hsz,Nat.min_self,beq_self_eq_true,Bool.and_true,List.size_toArray,<- l1,<- l3,ha]
     exact fin
    ·cases h
   ·obtain ⟨hs,rfl⟩:=zmn ⟨hl,ht⟩ h
    obtain ⟨_,_,_,hsc,e⟩:=zoc hs r1 r2
    exact zwl pins s σ H v u w w' Q I rv ru ⟨hsc,by rw [e]; exact q0⟩
noncomputable def eqX : D -> D -> Bool
 | .non,.non=>true
 | .bl a,.bl b=>a == b
 | .bl a,.int b=>(if a then 1 else 0) == b
 | .int a,.bl b=>a == (if b then 1 else 0)
 | .int a,.int b=>a == b
 | .str a,.str b=>a == b
 | _,_=>false
noncomputable def inD (x y : D) : Option Bool:=(zhe y).bind fun ds=>if x.scalar && ds.all D.scalar then some (ds.any fun d=>eqX d x) else none
noncomputable def dIn (x y : D) : Option D:=(inD x y).map .bl
theorem zuh : ∀ x y d,dIn x y = some d -> d.scalar = true:=fun _ _ d e=>zll (g:=id) d e
theorem z7s {G : Gc} {H : Hp} {x y : D} {v u : V} (hx : x.scalar = true) (hy : y.scalar = true) (r1 : Rep G H x v) (r2 : Rep G H y u) : zej v = true /\ zej u = true /\ eqV v u = eqX x y:=by
 cases x <;> first
  | (cases hx; done)
  | (cases y <;> first
   | (cases hy; done)
   | (cases r1; cases r2; exact ⟨rfl,rfl,rfl⟩))
theorem ztj {G : Gc} {H : Hp} {x : D} {v : V} (hx : x.scalar = true) (r : Rep G H x v) : ∀ {ds : List D} {vs : List V},ds.all D.scalar = true -> zas G H ds vs -> vs.all zej = true /\ inV v vs = ds.any fun d=>eqX d x
 | [],_,_,h=>by cases (show _ = [] from h); exact ⟨rfl,rfl⟩
 | d :: ds,_,ha,⟨u,r',e,h1,h2⟩=>by
  subst e
  rw [List.all_cons,Bool.and_eq_true] at ha
  obtain ⟨f1,f2,e⟩:=z7s ha.1 hx h1 r
  obtain ⟨g1,g2⟩:=ztj hx r ha.2 h2
  refine ⟨by rw [List.all_cons,f1,g1]; rfl,?_⟩
  unfold inV at g2 ⊢
  rw [List.any_cons,List.any_cons,e,g2]
theorem z04 {G : Gc} {H : Hp} {x y : D} {v u : V} {b : Bool} (e : inD x y = some b) (r1 : Rep G H x v) (r2 : Rep G H y u) : ∃ p vs,u = .ref p /\ (SqL G.K H p vs \/ SqT G.K H p vs) /\ zej v = true /\ vs.all zej = true /\ inV v vs = b:=by
 unfold inD at e
 cases es : zhe y with
 | none=>rw [es] at e; cases e
 | some ds =>
  rw [es] at e
  replace e : (if (x.scalar && ds.all D.scalar) = true then some (ds.any fun d=>eqX d x) else none) = some b:=e
  split at e
  ·rename_i hc
   cases e
   rw [Bool.and_eq_true] at hc
   obtain ⟨a,vs,e1,q,r⟩:=znu es r2
   obtain ⟨g1,g2⟩:=ztj hc.1 r1 hc.2 r
   have f : zej v = true:=by cases x <;> first | (cases r1; rfl) | (cases hc.1)
   exact ⟨a,vs,e1,q,f,g1,g2⟩
  ·cases e
theorem zuu : OpD c X (compareOp .In) dIn:=by
 rintro pins s σ H v u w w' Q I rv ru ⟨Hf,x,y,d,s0,r1,r2,e,k⟩
 unfold dIn at e
 cases h : inD x y with
 | none=>rw [h] at e; cases e
 | some b =>
  rw [h] at e
  cases e
  obtain ⟨p,vs,e1,q,f1,f2,e2⟩:=z04 h (r1.up s0) (r2.up s0)
  refine z1a pins s σ H v u w w' Q I rv ru ⟨p,vs,e1,q,f1,f2,?_⟩
  rw [if_neg Bool.false_ne_true,e2]
  exact k _ Hf H (Ext.refl s0) rfl
end
section
variable {c : Str -> Addr} {X : Cx} {e a b o : Expr} {es : List Expr} {pos p apos : Pos}
theorem zz8 {G : Gc} {H : Hp} {ds : List D} {vs : List V} {i : Int} {d : D} (h : atI ds i = some d) (r : zas G H ds vs) : ∃ v,atI vs i = some v /\ Rep G H d v:=by
 unfold atI at h ⊢
 rw [<- r.length]
 cases e : ixN ds.length i with
 | none=>rw [e] at h; cases h
 | some j =>
  rw [e] at h
  exact r.get h
noncomputable def ixD (ds : List D) : D -> Option D
 | .int k=>atI ds k
 | _=>none
noncomputable def mIx (f : List Sl -> Option (List D)) (g : List Sl -> Option D) (ρ : List Sl) : Option D:=(f ρ).bind fun ds=>(g ρ).bind fun i=>ixD ds i
theorem zah {f : List Sl -> Option (List D)} {g : List Sl -> Option D} (ha : DC c X a f) (hb : DE c X b g) (hs : zv4 b:=by exact fun _ _=>rfl) : DE c X (.Subscript a b pos) (mIx f g) :=
 PE.imp (z6o (z54.or z07) ha hb hs) fun σ H Q q_=>by
  obtain ⟨Hf0,H0,Hf,ρ,d,st,ef,k⟩:=q_
  unfold mIx at ef
  cases e1 : f ρ with
  | none=>rw [e1] at ef; cases ef
  | some ds =>
   cases e2 : g ρ with
   | none=>rw [e1,e2] at ef; cases ef
   | some i =>
    rw [e1,e2] at ef
    replace ef : ixD ds i = some d:=ef
    cases i with
    | int n =>
     replace ef : atI ds n = some d:=ef
     refine ⟨Hf0,H0,Hf,ρ,ds,st,e1,fun l vs Hf1 H1 x1 q r=>⟨Hf0,H0,Hf1,ρ,.int n,st.step x1,e2,fun u Hf2 H2 x2 r2=>?_⟩⟩
     cases (show u = V.int n from r2)
     obtain ⟨v,ev,rv⟩:=zz8 ef r
     have fin:=k v Hf2 H2 (x1.trans x2) (rv.up x2.f)
     rcases q with q | q
     ·exact .inl ⟨l,vs,n,v,rfl,rfl,x2.h.seq q,ev,fin⟩
     ·exact .inr ⟨l,vs,n,v,rfl,rfl,x2.h.tup q,ev,fin⟩
    | _=>cases ef
noncomputable def zh5 (xs : List D) (lo hi : Option Int) : List D:=(xs.drop (HT.sIx xs.length 0 lo)).take (HT.sIx xs.length xs.length hi - HT.sIx xs.length 0 lo)
noncomputable def lsD : D -> Option (List D)
 | .lst xs=>some xs
 | .kl xs=>some xs
 | _=>none
theorem zgt {G : Gc} {H : Hp} {d : D} {v : V} {ds : List D} (e : lsD d = some ds) (r : Rep G H d v) : ∃ a vs,v = .ref a /\ SqL G.K H a vs /\ zas G H ds vs:=by
 cases d with
 | lst xs=>cases e; obtain ⟨a,vs,e1,q,r⟩:=r; exact ⟨a,vs,e1,SqL.of q,r⟩
 | kl xs=>cases e; obtain ⟨a,vs,e1,q,r⟩:=r; exact ⟨a,vs,e1,q,r⟩
 | _=>cases e
noncomputable def z7a (G : Gc) (f : List Sl -> Option (Option Int)) : TO:=fun σ H Q=>∃ Hf0 H0 Hf ρ i,za1 G Hf0 H0 Hf H σ ρ /\ f ρ = some i /\ ∀ Hf' H',Ext Hf H Hf' H' -> Q i H'
noncomputable def DPt (c : Str -> Addr) (X : Cx) (e : Option Expr) (f : List Sl -> Option (Option Int)) : Prop:=PO X e (z7a (Gx c X) f)
theorem zdg : DPt c X none (fun _=>some none):=fun pins s σ H Q I q_=>by
 obtain ⟨Hf0,H0,Hf,ρ,i,st,ef,k⟩:=q_
 exact (z7i pins s σ H Q I (by cases ef; exact k Hf H (Ext.refl st.sub)))
noncomputable def mPt (f : List Sl -> Option D) (ρ : List Sl) : Option (Option Int):=(f ρ).bind fun d=>match d with
 | .int i=>some (some i)
 | _=>none
theorem zcu {f : List Sl -> Option D} (h : DE c X e f) : DPt c X (some e) (mPt f):=fun pins s σ H Q I q_=>by
 obtain ⟨Hf0,H0,Hf,ρ,i,st,ef,k⟩:=q_
 exact (z5t h pins s σ H Q I (by
 unfold mPt at ef
 cases e1 : f ρ with
 | none=>rw [e1] at ef; cases ef
 | some d =>
  rw [e1] at ef
  cases d with
  | int n=>cases ef; exact ⟨Hf0,H0,Hf,ρ,.int n,st,e1,fun v Hf' H' x r=>⟨n,r,k Hf' H' x⟩⟩
  | _=>cases ef))
noncomputable def mSl (f : List Sl -> Option D) (l h : List Sl -> Option (Option Int)) (ρ : List Sl) : Option (List D):=(f ρ).bind fun d=>(lsD d).bind fun ds=>(l ρ).bind fun lo=>(h ρ).map fun hi=>zh5 ds lo hi
theorem z47 {G : Gc} {H : Hp} {ds : List D} {vs : List V} (r : zas G H ds vs) (lo hi : Option Int) : zas G H (zh5 ds lo hi) (zhn vs lo hi):=by
 unfold zh5 zhn
 rw [r.length]
 exact (r.drop _).take _
theorem zc3 {f : List Sl -> Option D} {l h : List Sl -> Option (Option Int)} {lo hi : Option Expr} {p2 : Pos} (ha : DE c X e f) (hl : DPt c X lo l) (hh : DPt c X hi h) : DO c X (.Subscript e (.Slice lo hi none p2) pos) (mSl f l h) :=
 PE.imp (z7q z29 ha hl hh) fun σ H Q q_=>by
  obtain ⟨Hf0,H0,Hf,ρ,rs,st,ef,k⟩:=q_
  unfold mSl at ef
  cases e1 : f ρ with
  | none=>rw [e1] at ef; cases ef
  | some d =>
   cases e2 : lsD d with
   | none=>rw [e1] at ef; replace ef : (lsD d).bind _ = _:=ef; rw [e2] at ef; cases ef
   | some ds =>
    cases e3 : l ρ with
    | none=>rw [e1] at ef; replace ef : (lsD d).bind _ = _:=ef; rw [e2,e3] at ef; cases ef
    | some lo' =>
     cases e4 : h ρ with
     | none=>rw [e1] at ef; replace ef : (lsD d).bind _ = _:=ef; rw [e2,e3,e4] at ef; cases ef
     | some hi' =>
      rw [e1] at ef
      replace ef : (lsD d).bind _ = _:=ef
      rw [e2,e3,e4] at ef
      cases ef
      refine ⟨Hf0,H0,Hf,ρ,d,st,e1,fun v Hf1 H1 x1 r1=>⟨Hf0,H0,Hf1,ρ,lo',st.step x1,e3,fun Hf2 H2 x2=>⟨Hf0,H0,Hf2,ρ,hi',(st.step x1).step x2,e4,fun Hf3 H3 x3=>?_⟩⟩⟩
      obtain ⟨a,vs,ea,q,r⟩:=zgt e2 r1
      subst ea
      have x:=(x1.trans x2).trans x3
      have y:=(x2.trans x3)
      refine ⟨a,vs,rfl,(x1.s.trans y.h).seq q,fun p hp=>?_⟩
      exact k p (zhn vs lo' hi') Hf3 (upd H3 p (.lst (zhn vs lo' hi'))) (x.trans (Ext.tmp x.s hp)) (x.h.free hp) (x.s.free hp) zcg (z47 (r.up y.f) _ _)
noncomputable def rCD (G : Gc) (m : List D -> Option D) : List V -> Hp -> VK -> Prop:=fun vs H Q=>∃ Hf ds d,za7 Hf H /\ zas G Hf ds vs /\ m ds = some d /\ ∀ v Hf' H',Ext Hf H Hf' H' -> Rep G Hf' d v -> Q v H'
noncomputable abbrev zlo (c : Str -> Addr) (X : Cx) (f : Value) (m : List D -> Option D) : Prop:=zga X f (rCD (Gx c X) m)
noncomputable def zap (m : List D -> Option D) (f : List Sl -> Option (List D)) (ρ : List Sl) : Option D:=(f ρ).bind m
theorem zqd {m : List D -> Option D} {f : List Sl -> Option (List D)} {ρ : List Sl} {d : D} (h : zap m f ρ = some d) : ∃ ds,f ρ = some ds /\ m ds = some d:=by
 unfold zap at h
 cases e : f ρ with
 | none=>rw [e] at h; cases h
 | some ds=>rw [e] at h; exact ⟨ds,rfl,h⟩
theorem zb3 {m : List D -> Option D} {f : List Sl -> Option (List D)} {x : Str} {id : String} (hc : zlo c X (.builtin id) m) (hs : ∀ ds d,m ds = some d -> d.scalar = true) (hg : Gl X x) (hm : X.mg x = none) (hv : bootBuiltins x = some (.builtin id)) (ha : DAB c X (e :: es) f) (hn : x ≠ "__name__":=by decide) (hdb : (x == ("__debug__" : Str)) = false:=by decide)
  (he : starEach (e :: es) X.env = (false,eval e X.env) :: starEach es X.env:=by rfl) (hpl : (backTo pos (starEach es X.env)).any (·.1) = false:=by rfl) :
  DE c X (.Call (.Name x p) (e :: es) [] pos) (zap m f):=PE.imp (zvh hc hg hm hv ha.pa hn hdb he hpl) fun σ H Q q_=>by
 obtain ⟨Hf0,H0,Hf,ρ,d,st,ef,k⟩:=q_
 obtain ⟨ds,e1,e2⟩:=zqd ef
 exact ⟨Hf0,H0,Hf,ρ,ds,st,e1,fun vs Hf' H' x r=>⟨H',ds,d,za7.refl _,r,e2,fun v Hf2 H2 x2 r2=>k v Hf' H2 (x.trans (Ext.grow x.s x2.h)) (r2.sc (hs _ _ e2))⟩⟩
noncomputable def zce : List D -> Option D
 | [.lst xs]=>some (.int xs.length)
 | [.tup xs]=>some (.int xs.length)
 | [.kl xs]=>some (.int xs.length)
 | [.kt xs]=>some (.int xs.length)
 | [.str x]=>if x.length <= 16777216 then some (.int x.length) else none
 | _=>none
theorem zas.one {G : Gc} {H : Hp} {d : D} {vs : List V} (r : zas G H [d] vs) : ∃ v,vs = [v] /\ Rep G H d v:=by
 obtain ⟨v,r',e,h,q⟩:=r
 cases (show r' = [] from q)
 exact ⟨v,e,h⟩
theorem zc7 : zlo c X (.builtin "len") zce:=by
 rintro pins s σ H vs us Q I rv ⟨Hf,ds,d,s0,r,e,k⟩
 have sq : ∀ (d0 : D) (xs : List D),ds = [d0] -> zhe d0 = some xs -> d = .int xs.length -> wpAny (model X.prog X.w) X.A (call (.builtin "len") us) (EP X pins σ Q) X.xe s:=fun d0 xs ed es e0=>by
  subst ed e0
  obtain ⟨v,e1,r1⟩:=r.one
  subst e1
  obtain ⟨a,ws,e2,q,rs⟩:=znu es r1
  subst e2
  refine z2k pins s σ H _ us Q I rv ⟨a,ws,rfl,zqh s0 q,?_⟩
  rw [<- rs.length]
  exact k _ Hf H (Ext.refl s0) rfl
 unfold zce at e
 split at e
 ·cases e; exact sq _ _ rfl rfl rfl
 ·cases e; exact sq _ _ rfl rfl rfl
 ·cases e; exact sq _ _ rfl rfl rfl
 ·cases e; exact sq _ _ rfl rfl rfl
 ·split at e
  ·rename_i hl
   cases e
   obtain ⟨v,e1,r1⟩:=r.one
   subst e1
   exact z1b pins s σ H _ us Q I rv ⟨_,by rw [show v = V.str _ from r1],by rw [sizeLine_eq]; exact hl,k _ Hf H (Ext.refl s0) rfl⟩
  ·cases e
 ·cases e
theorem zc5 : ∀ ds d,zce ds = some d -> d.scalar = true:=by
 intro ds d e
 unfold zce at e
 split at e <;> first | (cases e; done) | (cases e; rfl) | (split at e <;> first | (cases e; done) | (cases e; rfl))
noncomputable def zet : List D -> Option (List Int)
 | []=>some []
 | .int i :: ds=>(zet ds).map fun r=>i :: r
 | _=>none
theorem zsf {G : Gc} {H : Hp} : ∀ {ds : List D} {ns : List Int} {vs : List V},zet ds = some ns -> zas G H ds vs -> vs = ns.map V.int
 | [],_,_,e,r=>by cases e; exact r
 | .int i :: ds,_,_,e,⟨v,r',e',h1,h2⟩=>by
  subst e'
  cases es : zet ds with
  | none=>rw [zet,es] at e; cases e
  | some ns =>
   rw [zet,es] at e
   cases e
   rw [zsf es h2,show v = V.int i from h1]
   rfl
 | .non :: _,_,_,e,_=>by cases e
 | .bl _ :: _,_,_,e,_=>by cases e
 | .str _ :: _,_,_,e,_=>by cases e
 | .lst _ :: _,_,_,e,_=>by cases e
 | .tup _ :: _,_,_,e,_=>by cases e
 | .kl _ :: _,_,_,e,_=>by cases e
 | .kt _ :: _,_,_,e,_=>by cases e
 | .dic _ _ :: _,_,_,e,_=>by cases e
 | .ins _ _ _ :: _,_,_,e,_=>by cases e
theorem z0w (ns : List Int) : zet (ns.map D.int) = some ns:=by
 induction ns with
 | nil=>rfl
 | cons n ns ih=>rw [List.map_cons,zet,ih]; rfl
noncomputable def zd5 : List D -> Option D
 | [d]=>(lsD d).bind fun ds=>(zet ds).map fun ns=>.int ns.sum
 | _=>none
theorem zgy (hc : X.calm = true) : zlo c X (.builtin "sum") zd5:=by
 rintro pins s σ H vs us Q I rv ⟨Hf,ds,d,s0,r,e,k⟩
 unfold zd5 at e
 split at e
 ·rename_i d0
  cases e1 : lsD d0 with
  | none=>rw [e1] at e; cases e
  | some xs =>
   cases e2 : zet xs with
   | none=>rw [e1] at e; replace e : (zet xs).map _ = _:=e; rw [e2] at e; cases e
   | some ns =>
    rw [e1] at e
    replace e : (zet xs).map _ = _:=e
    rw [e2] at e
    cases e
    obtain ⟨v,ev,r1⟩:=r.one
    subst ev
    obtain ⟨a,ws,ea,q,rs⟩:=zgt e1 r1
    subst ea
    refine z1c hc pins s σ H _ us Q I rv ⟨a,ns,rfl,?_,k _ Hf H (Ext.refl s0) rfl⟩
    rw [<- zsf e2 rs]
    exact s0.seq q
 ·cases e
theorem zgr : ∀ ds d,zd5 ds = some d -> d.scalar = true:=by
 intro ds d e
 unfold zd5 at e
 split at e
 ·rename_i d0
  cases e1 : lsD d0 with
  | none=>rw [e1] at e; cases e
  | some xs =>
   rw [e1] at e
   replace e : (zet xs).map _ = _:=e
   cases e2 : zet xs with
   | none=>rw [e2] at e; cases e
   | some ns=>rw [e2] at e; cases e; rfl
 ·cases e
theorem zhv {f : List Sl -> Option (List D)} {x : Str} (hx : bootBuiltins x = some (.type "list")) (hg : Gl X x) (hm : X.mg x = none) (ha : DC c X e f) (hs : starEach [e] X.env = (false,eval e X.env) :: starEach [] X.env:=by rfl) (hn : x ≠ "__name__":=by decide) (hdb : (x == ("__debug__" : Str)) = false:=by decide)
  (hpl : (backTo pos (starEach [] X.env)).any (·.1) = false:=by rfl) : DO c X (.Call (.Name x p) [e] [] pos) f :=
 PE.imp (zw2 z5y hg hm hx (zdl ha zd8 hs) hn hdb hs hpl) fun σ H Q ⟨Hf0,H0,Hf,ρ,ds,st,ef,k⟩ =>
  ⟨Hf0,H0,Hf,ρ,ds,st,ef,fun a vs Hf' H' x q r=>⟨a,vs,rfl,q,fun l hl=>k l vs Hf' (upd H' l (.lst vs)) (x.trans (Ext.tmp x.s hl)) (x.h.free hl) (x.s.free hl) zcg r⟩⟩
noncomputable def tyN : D -> Option String
 | .non=>some "NoneType"
 | .bl _=>some "bool"
 | .int _=>some "int"
 | .str _=>some "str"
 | .lst _=>some "list"
 | .tup _=>some "tuple"
 | .dic _ _=>some "dict"
 | _=>none
noncomputable def zrc (T : String) (d : D) : Option D:=(tyN d).map fun t=>.bl (t == T || (t == "bool" && T == "int"))
theorem zx9 {G : Gc} {H : Hp} {d : D} {v : V} {t : String} (e : tyN d = some t) (r : Rep G H d v) : ze2 G.K H v (.type t):=by
 cases d with
 | non=>cases e; cases r; exact .non
 | bl b=>cases e; cases r; exact .bl b
 | int i=>cases e; cases r; exact .int i
 | str x=>cases e; cases r; exact .str x
 | lst xs=>cases e; obtain ⟨a,vs,e1,q,r⟩:=r; subst e1; exact .lst q
 | tup xs=>cases e; obtain ⟨a,vs,e1,q,r⟩:=r; subst e1; exact .tup q
 | dic ks xs=>cases e; obtain ⟨a,vs,e1,q,l,r⟩:=r; subst e1; exact .dK q
 | _=>cases e
noncomputable def zwj (K : PySem.W.Frag) (T : String) : Prop:=∀ t ∈ ["NoneType","bool","int","str","list","tuple","dict"],PySem.W.kitOne K (.type t) (.type T) = some (t == T || (t == "bool" && T == "int"))
theorem zyq {d : D} {t : String} (e : tyN d = some t) : t ∈ ["NoneType","bool","int","str","list","tuple","dict"]:=by
 cases d <;> first | (cases e; decide) | cases e
noncomputable def zq9 (T : String) (f : List Sl -> Option D) (ρ : List Sl) : Option D:=(f ρ).bind (zrc T)
theorem z8h {f : List Sl -> Option D} {T : String} {q1 : Pos} {y : Str} (hk : zwj X.K T) (hg : Gl X "isinstance") (hm : X.mg "isinstance" = none) (hy : bootBuiltins y = some (.type T)) (hgy : Gl X y) (hmy : X.mg y = none) (ha : DB c X e f)
  (hs : starEach [e,.Name y q1] X.env = (false,eval e X.env) :: starEach [.Name y q1] X.env:=by rfl) (hs2 : starEach [.Name y q1] X.env = (false,eval (.Name y q1) X.env) :: starEach [] X.env:=by rfl)
  (hn : y ≠ "__name__":=by decide) (hdb : (y == ("__debug__" : Str)) = false:=by decide) (hpl : (backTo pos (starEach [.Name y q1] X.env)).any (·.1) = false:=by rfl) :
  DE c X (.Call (.Name "isinstance" p) [e,.Name y q1] [] pos) (zq9 T f) :=
 PE.imp (zvh z5p hg hm boot_isinstance (zdl ha (zdl (z12 (v:=.ty T) hgy hmy hy rfl hn hdb) zd8 hs2) hs) (by decide) (by decide) hs hpl) fun σ H Q q_=>by
  obtain ⟨Hf0,H0,Hf,ρ,d,st,ef,k⟩:=q_
  unfold zq9 at ef
  cases e1 : f ρ with
  | none=>rw [e1] at ef; cases ef
  | some x =>
   rw [e1] at ef
   replace ef : zrc T x = some d:=ef
   unfold zrc at ef
   cases e2 : tyN x with
   | none=>rw [e2] at ef; cases ef
   | some t =>
    rw [e2] at ef
    cases ef
    exact ⟨Hf0,H0,Hf,ρ,x,st,e1,fun v Hf' H' x1 r=>⟨v,T,.type t,_,rfl,zx9 e2 r,hk t (zyq e2),k _ Hf' H' x1 rfl⟩⟩
end
noncomputable def tDG (G : Gc) (g : D -> List Sl -> Option (List Sl)) : TG:=fun v σ H Q=>∃ Hf0 H0 Hf ρ d ρ',za1 G Hf0 H0 Hf H σ ρ /\ Rep G Hf d v /\ g d ρ = some ρ' /\ ∀ σ',za1 G Hf0 H0 Hf H σ' ρ' -> Q σ' H
noncomputable def z40 (G : Gc) (g : List D -> List Sl -> Option (List Sl)) : TGs:=fun vs σ H Q=>∃ Hf0 H0 Hf ρ ds ρ',za1 G Hf0 H0 Hf H σ ρ /\ zas G Hf ds vs /\ g ds ρ = some ρ' /\ ∀ σ',za1 G Hf0 H0 Hf H σ' ρ' -> Q σ' H
structure DG (c : Str -> Addr) (X : Cx) (tg : Expr) (k : Nat) (g : D -> List Sl -> Option (List Sl)) : Prop where
 pg : PG X tg (tDG (Gx c X) g)
 len : ∀ d ρ ρ',g d ρ = some ρ' -> ρ'.length = ρ.length
 keep : ∀ d ρ ρ' i,g d ρ = some ρ' -> k <= i -> ρ'[i]? = ρ[i]?
structure DGs (c : Str -> Addr) (X : Cx) (tg : List Expr) (k : Nat) (g : List D -> List Sl -> Option (List Sl)) : Prop where
 pg : PGs X tg (z40 (Gx c X) g)
 len : ∀ d ρ ρ',g d ρ = some ρ' -> ρ'.length = ρ.length
 keep : ∀ d ρ ρ' i,g d ρ = some ρ' -> k <= i -> ρ'[i]? = ρ[i]?
 many : ∀ ds ρ ρ',g ds ρ = some ρ' -> ds.length = tg.length
section
variable {c : Str -> Addr} {X : Cx} {e : Expr} {es : List Expr} {pos : Pos}
noncomputable def zaq (i : Nat) (d : D) (ρ : List Sl) : Option (List Sl):=some (ρ.set i (.im d))
theorem zr2 {i k : Nat} (h : PG X e (zhi i)) (hk : i < k) : DG c X e k (zaq i) :=
 ⟨PG.imp h fun v σ H Q ⟨Hf0,H0,Hf,ρ,d,ρ',st,r,eg,q⟩=>by cases eg; exact q _ (st.setIm r),fun d ρ ρ' h=>by cases h; simp,fun d ρ ρ' j h hj=>by
  cases h
  rw [List.getElem?_set_ne (by omega)]⟩
theorem zcb (i k : Nat) {x : Str} (hN : X.N.Nodup) (hk : i < k:=by decide) (hi : X.N[i]? = some x:=by rfl) (hx : Loc X.env.scope x:=by first | exact Or.inl rfl | exact Or.inr rfl) (hf : X.fn x = true \/ X.env.scope.names.lookup x = some .local:=by first | exact .inl rfl | exact .inr rfl) : DG c X (.Name x pos) k (zaq i) :=
 zr2 (zso hN hi hx hf) hk
noncomputable def zcd (ds : List D) (ρ : List Sl) : Option (List Sl):=match ds with
 | []=>some ρ
 | _=>none
noncomputable def za3 (g : D -> List Sl -> Option (List Sl)) (h : List D -> List Sl -> Option (List Sl)) (ds : List D) (ρ : List Sl) : Option (List Sl):=match ds with
 | d :: ds=>(g d ρ).bind fun ρ1=>h ds ρ1
 | []=>none
theorem zcl {k : Nat} : DGs c X [] k zcd:=by
 refine ⟨PGs.imp z32 fun vs σ H Q ⟨Hf0,H0,Hf,ρ,ds,ρ',st,r,eg,q⟩=>?_,fun d ρ ρ' h=>?_,fun d ρ ρ' i h _=>?_,fun d ρ ρ' h=>?_⟩
 ·cases ds with
  | nil=>cases eg; exact ⟨r,q _ st⟩
  | cons d ds=>cases eg
 ·cases d with
  | nil=>cases h; rfl
  | cons a b=>cases h
 ·cases d with
  | nil=>cases h; rfl
  | cons a b=>cases h
 ·cases d with
  | nil=>cases h; rfl
  | cons a b=>cases h
theorem zmy {g : D -> List Sl -> Option (List Sl)} {h : List D -> List Sl -> Option (List Sl)} {ds : List D} {ρ ρ' : List Sl} (e : za3 g h ds ρ = some ρ') : ∃ d r ρ1,ds = d :: r /\ g d ρ = some ρ1 /\ h r ρ1 = some ρ':=by
 cases ds with
 | nil=>cases e
 | cons d r =>
  replace e : (g d ρ).bind _ = _:=e
  cases e1 : g d ρ with
  | none=>rw [e1] at e; cases e
  | some ρ1=>rw [e1] at e; exact ⟨d,r,ρ1,rfl,e1,e⟩
theorem zbc {k : Nat} {g : D -> List Sl -> Option (List Sl)} {h : List D -> List Sl -> Option (List Sl)} (h1 : DG c X e k g) (h2 : DGs c X es k h) (hs : (assignEach (e :: es) X.env).map (·.2) = assign e X.env :: (assignEach es X.env).map (·.2):=by rfl) : DGs c X (e :: es) k (za3 g h):=by
 refine ⟨PGs.imp (z4i h1.pg h2.pg hs) fun vs σ H Q ⟨Hf0,H0,Hf,ρ,ds,ρ',st,r,eg,q⟩=>?_,fun d ρ ρ' h=>?_,fun d ρ ρ' i h hi=>?_,fun d ρ ρ' h=>?_⟩
 ·obtain ⟨d,dr,ρ1,rfl,e1,e2⟩:=zmy eg
  obtain ⟨v,vr,ev,rv,rr⟩:=r
  exact ⟨v,vr,ev,Hf0,H0,Hf,ρ,d,ρ1,st,rv,e1,fun σ1 st1=>⟨Hf0,H0,Hf,ρ1,dr,ρ',st1,rr,e2,q⟩⟩
 ·obtain ⟨d,dr,ρ1,rfl,e1,e2⟩:=zmy h
  rw [h2.len _ _ _ e2,h1.len _ _ _ e1]
 ·obtain ⟨d,dr,ρ1,rfl,e1,e2⟩:=zmy h
  rw [h2.keep _ _ _ _ e2 hi,h1.keep _ _ _ _ e1 hi]
 ·obtain ⟨d,dr,ρ1,rfl,e1,e2⟩:=zmy h
  rw [List.length_cons,List.length_cons,h2.many _ _ _ e2]
noncomputable def tpD : D -> Option (List D)
 | .tup xs=>some xs
 | .kt xs=>some xs
 | _=>none
theorem zr5 {G : Gc} {H : Hp} {d : D} {v : V} {ds : List D} (e : tpD d = some ds) (r : Rep G H d v) : ∃ a vs,v = .ref a /\ SqT G.K H a vs /\ zas G H ds vs:=by
 cases d with
 | tup xs=>cases e; obtain ⟨a,vs,e1,q,r⟩:=r; exact ⟨a,vs,e1,SqT.of q,r⟩
 | kt xs=>cases e; obtain ⟨a,vs,e1,q,r⟩:=r; exact ⟨a,vs,e1,q,r⟩
 | _=>cases e
noncomputable def zb8 (g : List D -> List Sl -> Option (List Sl)) (d : D) (ρ : List Sl) : Option (List Sl):=(tpD d).bind fun ds=>g ds ρ
theorem zoo {g : List D -> List Sl -> Option (List Sl)} {d : D} {ρ ρ' : List Sl} (h : zb8 g d ρ = some ρ') : ∃ ds,tpD d = some ds /\ g ds ρ = some ρ':=by
 unfold zb8 at h
 cases e : tpD d with
 | none=>rw [e] at h; cases h
 | some ds=>rw [e] at h; exact ⟨ds,rfl,h⟩
theorem zck {k : Nat} {g : List D -> List Sl -> Option (List Sl)} {kk : Nat} (hc : X.calm = true) (h : DGs c X es k g) (hn : (assignEach es X.env).length = es.length:=by rfl) (hst : (assignEach es X.env).findIdx? (·.1) = none:=by rfl) : DG c X (.Tuple es kk pos) k (zb8 g):=by
 refine ⟨PG.imp (z64 hc h.pg hn hst) fun v σ H Q ⟨Hf0,H0,Hf,ρ,d,ρ',st,r,eg,q⟩=>?_,fun d ρ ρ' h'=>?_,fun d ρ ρ' i h' hi=>?_⟩
 ·obtain ⟨ds,e1,e2⟩:=zoo eg
  obtain ⟨a,vs,ea,qa,ra⟩:=zr5 e1 r
  exact ⟨a,vs,ea,st.sub.tup qa,by rw [<- ra.length]; exact h.many _ _ _ e2,Hf0,H0,Hf,ρ,ds,ρ',st,ra,e2,q⟩
 ·obtain ⟨ds,e1,e2⟩:=zoo h'
  exact h.len _ _ _ e2
 ·obtain ⟨ds,e1,e2⟩:=zoo h'
  exact h.keep _ _ _ _ e2 hi
end
noncomputable def zmg (G : Gc) (Hf : Hp) (J : It) (ds : List D) : Prop:=∀ Hf' H',za7 Hf Hf' -> za7 Hf' H' -> ∀ i : Nat,
 (∀ d,ds[i]? = some d -> J.go i H' /\ ∀ x H2,J.yld i H' x H2 -> ∃ Hf2,Ext Hf' H' Hf2 H2 /\ Rep G Hf2 d x) /\ (i = ds.length -> J.stop i H')
noncomputable def zp5 (G : Gc) (Hf H : Hp) (J : It) (ds : List D) : Prop:=∀ Hf' H',Ext Hf H Hf' H' -> ∀ i : Nat,
 (∀ d,ds[i]? = some d -> J.go i H' /\ ∀ x H2,J.yld i H' x H2 -> ∃ Hf2,Ext Hf' H' Hf2 H2 /\ Rep G Hf2 d x) /\ (i = ds.length -> J.stop i H')
theorem zmg.toE {G : Gc} {Hf H : Hp} {J : It} {ds : List D} (h : zmg G Hf J ds) : zp5 G Hf H J ds:=fun Hf' H' x i=>h Hf' H' x.f x.s i
noncomputable def tDI (G : Gc) (f : List Sl -> Option (List D)) : TI:=fun σ H R=>∃ Hf0 H0 Hf ρ ds,za1 G Hf0 H0 Hf H σ ρ /\ f ρ = some ds /\ ∀ J Hf' H',Ext Hf H Hf' H' -> zmg G Hf' J ds -> R J H'
noncomputable def zsj (G : Gc) (f : List Sl -> Option (List D)) : TI:=fun σ H R=>∃ Hf0 H0 Hf ρ ds,za1 G Hf0 H0 Hf H σ ρ /\ f ρ = some ds /\ ∀ J Hf' H',Ext Hf H Hf' H' -> zp5 G Hf' H' J ds -> R J H'
noncomputable def DI (c : Str -> Addr) (X : Cx) (tg iter : Expr) (f : List Sl -> Option (List D)) : Prop:=PI X tg iter (tDI (Gx c X) f)
noncomputable def DIe (c : Str -> Addr) (X : Cx) (tg iter : Expr) (f : List Sl -> Option (List D)) : Prop:=PI X tg iter (zsj (Gx c X) f)
section
variable {c : Str -> Addr} {X : Cx} {tg e a b : Expr} {es : List Expr} {pos p : Pos}
theorem DI.de {f : List Sl -> Option (List D)} (h : DI c X tg e f) : DIe c X tg e f:=PI.imp h fun σ H R q_=>by
 obtain ⟨Hf0,H0,Hf,ρ,ds,st,ef,k⟩:=q_
 exact (⟨Hf0,H0,Hf,ρ,ds,st,ef,fun J Hf' H' x i=>k J Hf' H' x i.toE⟩)
theorem zw6 {G : Gc} {Hf H : Hp} {ds : List D} {l : Addr} {vs : List V} (q : SqL G.K H l vs) (r : zas G Hf ds vs) : zp5 G Hf H (Itl G.K l) ds:=fun Hf' H' xx i=>by
 have q' : SqL G.K H' l vs:=xx.h.seq q
 refine ⟨fun d ed=>?_,fun ei=>⟨vs,q',by rw [<- r.length,ei]; exact Nat.le_refl _⟩⟩
 obtain ⟨v,ev,rv⟩:=r.get ed
 refine ⟨⟨vs,v,q',ev⟩,fun x H2 ⟨e2,y⟩=>?_⟩
 subst e2
 have:=y vs q'
 rw [ev] at this
 cases this
 exact ⟨Hf',Ext.refl xx.s,rv.up xx.f⟩
theorem z1i {G : Gc} {Hf : Hp} {ds : List D} {l : Addr} {vs : List V} (q : SqT G.K Hf l vs) (r : zas G Hf ds vs) : zmg G Hf (Itt G.K l) ds:=fun Hf' H' f s i=>by
 have q' : SqT G.K H' l vs:=(f.trans s).tup q
 refine ⟨fun d ed=>?_,fun ei=>⟨vs,q',by rw [<- r.length,ei]; exact Nat.le_refl _⟩⟩
 obtain ⟨v,ev,rv⟩:=r.get ed
 refine ⟨⟨vs,v,q',ev⟩,fun x H2 ⟨e2,y⟩=>?_⟩
 subst e2
 have:=y vs q'
 rw [ev] at this
 cases this
 exact ⟨Hf',Ext.refl s,rv.up f⟩
theorem zb2 {f : List Sl -> Option D} (h : DE c X e f) : DI c X tg e (zbl f):=fun pins s σ H R I q_=>by
 obtain ⟨Hf0,H0,Hf,ρ,ds,st,ef,k⟩:=q_
 unfold zbl at ef
 cases e1 : f ρ with
 | none=>rw [e1] at ef; cases ef
 | some d =>
  rw [e1] at ef
  replace ef : zhe d = some ds:=ef
  have un : ∀ {l : Addr} {H' : Hp} {us vs : List V},SqL X.K H' l us -> SqL X.K H' l vs -> us = vs \/ True:=fun _ _=>.inr trivial
  cases e2 : lsD d with
  | some ds' =>
   have : ds' = ds:=by cases d <;> first | (cases e2; done) | (cases e2; cases ef; rfl)
   subst this
   refine ztl h pins s σ H R I ⟨Hf0,H0,Hf,ρ,d,st,e1,fun v Hf' H' x r=>?_⟩
   obtain ⟨a,vs,ea,q,rs⟩:=zgt e2 r
   exact ⟨a,ea,⟨vs,x.s.seq q⟩,k _ Hf' H' x fun Hf2 H2 f2 s2 i=>by
    have q' : SqL X.K H2 a vs:=(f2.trans s2).seq q
    refine ⟨fun d ed=>?_,fun ei=>⟨vs,q',by rw [<- rs.length,ei]; exact Nat.le_refl _⟩⟩
    obtain ⟨v,ev,rv⟩:=rs.get ed
    refine ⟨⟨vs,v,q',ev⟩,fun x H3 ⟨e3,y⟩=>?_⟩
    subst e3
    have:=y vs q'
    rw [ev] at this
    cases this
    exact ⟨Hf2,Ext.refl s2,rv.up f2⟩⟩
  | none =>
   have e3 : tpD d = some ds:=by cases d <;> first | (cases e2; done) | (cases ef; done) | (cases ef; rfl)
   refine z3c h pins s σ H R I ⟨Hf0,H0,Hf,ρ,d,st,e1,fun v Hf' H' x r=>?_⟩
   obtain ⟨a,vs,ea,q,rs⟩:=zr5 e3 r
   exact ⟨a,ea,⟨vs,x.s.tup q⟩,k _ Hf' H' x (z1i q rs)⟩
noncomputable def rng (lo : Int) (n : Nat) : List D:=(List.range n).map fun (i : Nat)=>.int (lo + i)
theorem z3f {G : Gc} {Hf : Hp} {lo : Int} {n : Nat} : zmg G Hf (Itr lo n) (rng lo n):=fun Hf' H' f s i=>by
 refine ⟨fun d ed=>?_,fun ei=>?_⟩
 ·unfold rng at ed
  rw [List.getElem?_map] at ed
  cases e : (List.range n)[i]? with
  | none=>rw [e] at ed; cases ed
  | some j =>
   rw [e] at ed
   obtain ⟨hi,ej⟩:=List.getElem?_eq_some_iff.mp e
   rw [List.length_range] at hi
   rw [List.getElem_range] at ej
   subst ej
   cases ed
   exact ⟨hi,fun x H2 ⟨e2,y⟩=>by subst e2; exact ⟨Hf',Ext.refl s,y⟩⟩
 ·unfold rng at ei
  rw [List.length_map,List.length_range] at ei
  exact Nat.le_of_eq ei.symm
noncomputable def zq4 : List D -> Option (List D)
 | [.int j]=>if -(2 ^ 62) <= j /\ j < 2 ^ 62 then some (rng 0 j.toNat) else none
 | [.int i,.int j]=>if -(2 ^ 62) <= i /\ i < 2 ^ 62 /\ -(2 ^ 62) <= j /\ j < 2 ^ 62 then some (rng i (j - i).toNat) else none
 | _=>none
noncomputable def zdn (f : List Sl -> Option (List D)) (ρ : List Sl) : Option (List D):=(f ρ).bind zq4
theorem zeu {f : List Sl -> Option (List D)} (hg : Gl X "range") (hm : X.mg "range" = none) (ha : DA c X [a] f) (hs : starEach [a] X.env = [(false,eval a X.env)]:=by rfl) : DI c X tg (.Call (.Name "range" p) [a] [] pos) (zdn f) :=
 PI.imp (z0x hg hm ha.pa hs) fun σ H R q_=>by
  obtain ⟨Hf0,H0,Hf,ρ,ds,st,ef,k⟩:=q_
  unfold zdn at ef
  cases e1 : f ρ with
  | none=>rw [e1] at ef; cases ef
  | some as =>
   rw [e1] at ef
   replace ef : zq4 as = some ds:=ef
   have hl:=ha.len ρ as e1
   refine ⟨Hf0,H0,Hf,ρ,as,st,e1,fun vs Hf' H' x r=>?_⟩
   unfold zq4 at ef
   split at ef
   ·split at ef
    ·rename_i j hj
     cases ef
     obtain ⟨v,ev,rv⟩:=r.one
     cases (show v = V.int j from rv)
     exact ⟨j,ev,hj.1,hj.2,k _ Hf' H' x z3f⟩
    ·cases ef
   ·cases hl
   ·cases ef
end
noncomputable def zdp (k : Nat) (js : List Nat) (ρ : List Sl) : List Sl:=List.replicate k .no ++ js.map fun j=>(ρ[j]?).getD .no
section
variable {G : Gc} {Hf0 H0 Hf H : Hp} {σ : St} {ρ : List Sl}
theorem za1.weak {ρ' : List Sl} (h : za1 G Hf0 H0 Hf H σ ρ) (hl : ρ'.length = ρ.length) (hw : ∀ (i : Nat) (s : Sl),ρ'[i]? = some s -> s = .no \/ ρ[i]? = some s) : za1 G Hf0 H0 Hf H σ ρ':=by
 refine ⟨h.ext,h.len.trans hl.symm,fun i v s a b=>?_,fun i j s t l a b hs ht c d=>?_⟩
 ·rcases hw i s b with e | e
  ·subst e; trivial
  ·exact h.at' i v s a e
 ·rcases hw i s a with e | e
  ·subst e; cases hs
  ·rcases hw j t b with e' | e'
   ·subst e'; cases ht
   ·exact h.inj i j s t l e e' hs ht c d
theorem zn7 {α : Type} {k : Nat} {x : α} {l : List α} {i : Nat} {y : α} (h : (List.replicate k x ++ l)[i]? = some y) : (i < k /\ y = x) \/ (k <= i /\ l[i - k]? = some y):=by
 by_cases hi : i < k
 ·left
  rw [List.getElem?_append_left (by simpa using hi),List.getElem?_replicate,if_pos hi] at h
  exact ⟨hi,(Option.some.inj h).symm⟩
 ·right
  rw [List.getElem?_append_right (by simpa using Nat.le_of_not_lt hi),List.length_replicate] at h
  exact ⟨Nat.le_of_not_lt hi,h⟩
theorem zia {α β : Type} {f : α -> β} {l : List α} {i : Nat} {y : β} (h : (l.map f)[i]? = some y) : ∃ x,l[i]? = some x /\ y = f x:=by
 rw [List.getElem?_map] at h
 cases e : l[i]? with
 | none=>rw [e] at h; cases h
 | some x=>rw [e] at h; exact ⟨x,rfl,(Option.some.inj h).symm⟩
theorem z2j {js : List Nat} (h : js.Nodup) {i j x : Nat} (a : js[i]? = some x) (b : js[j]? = some x) : i = j:=by
 obtain ⟨h1,e1⟩:=List.getElem?_eq_some_iff.mp a
 obtain ⟨h2,e2⟩:=List.getElem?_eq_some_iff.mp b
 exact (List.getElem_inj h).mp (e1.trans e2.symm)
theorem za1.comp (k : Nat) {js : List Nat} (h : za1 G Hf0 H0 Hf H σ ρ) (hj : js.Nodup) : za1 G Hf0 H0 Hf H (zgn k js σ) (zdp k js ρ):=by
 have own : ∀ (i : Nat) (s : Sl),(zdp k js ρ)[i]? = some s -> s.isOwn = true -> ∃ j,k <= i /\ js[i - k]? = some j /\ ρ[j]? = some s:=fun i s a hs=>by
  rcases zn7 a with ⟨_,e⟩ | ⟨hi,a⟩
  ·subst e; cases hs
  ·obtain ⟨j,ej,es⟩:=zia a
   cases e : ρ[j]? with
   | none=>rw [e] at es; subst es; cases hs
   | some t=>rw [e] at es; replace es : s = t:=es; subst es; exact ⟨j,hi,ej,e⟩
 have val : ∀ (i : Nat) (v : Option V) (j : Nat),(zgn k js σ)[i]? = some v -> k <= i -> js[i - k]? = some j -> v = (σ[j]?).getD none:=fun i v j a hi ej=>by
  rcases zn7 a with ⟨hi',_⟩ | ⟨_,a⟩
  ·omega
  ·obtain ⟨j',ej',es⟩:=zia a
   rw [ej] at ej'; cases ej'
   exact es
 refine ⟨h.ext,by simp [zgn,zdp],fun i v s a b=>?_,fun i j s t l a b hs ht c d=>?_⟩
 ·rcases zn7 b with ⟨_,e⟩ | ⟨hi,b⟩
  ·subst e; trivial
  ·obtain ⟨j,ej,es⟩:=zia b
   have ev:=val i v j a hi ej
   cases e : ρ[j]? with
   | none=>rw [e] at es; subst es; trivial
   | some t =>
    rw [e] at es
    replace es : s = t:=es
    subst es
    obtain ⟨u,eu,q⟩:=h.slot e
    rw [eu] at ev
    replace ev : v = u:=ev
    subst ev
    exact q
 ·obtain ⟨i',hi,ei,e1⟩:=own i s a hs
  obtain ⟨j',hj',ej,e2⟩:=own j t b ht
  have v1:=val i _ i' c hi ei
  have v2:=val j _ j' d hj' ej
  obtain ⟨u1,eu1,_⟩:=h.slot e1
  obtain ⟨u2,eu2,_⟩:=h.slot e2
  rw [eu1] at v1
  rw [eu2] at v2
  replace v1 : some (V.ref l) = u1:=v1
  replace v2 : some (V.ref l) = u2:=v2
  subst v1 v2
  have:=h.inj i' j' s t l e1 e2 hs ht eu1 eu2
  subst this
  have:=z2j hj ei ej
  omega
end
noncomputable def zew (h : D -> Option (Option D)) : List D -> Option (List D)
 | []=>some []
 | d :: ds=>(h d).bind fun o=>(zew h ds).map fun r=>match o with
  | some y=>y :: r
  | none=>r
theorem z6f {h : D -> Option (Option D)} {d : D} {ds r : List D} (e : zew h (d :: ds) = some r) : ∃ o r',h d = some o /\ zew h ds = some r' /\ r = (match o with | some y=>y :: r' | none=>r'):=by
 unfold zew at e
 cases e1 : h d with
 | none=>rw [e1] at e; cases e
 | some o =>
  cases e2 : zew h ds with
  | none=>rw [e1,e2] at e; cases e
  | some r' =>
   rw [e1,e2] at e
   cases e
   refine ⟨o,r',rfl,rfl,?_⟩
   cases o <;> rfl
noncomputable def ze6 (g : D -> List Sl -> Option (List Sl)) (ft : List Sl -> Option Bool) (fe : List Sl -> Option D) (ρ : List Sl) (d : D) : Option (Option D):=(g d ρ).bind fun ρ1=>(ft ρ1).bind fun b=>if b then (fe ρ1).map some else some none
noncomputable def za6 (k : Nat) (js : List Nat) (fi : List Sl -> Option (List D)) (g : D -> List Sl -> Option (List Sl)) (ft : List Sl -> Option Bool) (fe : List Sl -> Option D) (ρ : List Sl) : Option (List D) :=
 (fi ρ).bind fun ds=>if ds.length <= 16777216 then zew (ze6 g ft fe (zdp k js ρ)) ds else none
theorem zr1 {α : Type} {l : List α} {i : Nat} (h : i < l.length) : ∃ x,l[i]? = some x /\ l.drop i = x :: l.drop (i + 1):=⟨l[i],by simp [h],(List.drop_eq_getElem_cons h)⟩
noncomputable def DTs (c : Str -> Addr) (X : Cx) (ifs : List Expr) (f : List Sl -> Option Bool) : Prop:=PTs X ifs (tDT (Gx c X) f)
section
variable {c : Str -> Addr} {X : Cx} {elt tg iter e : Expr} {ifs : List Expr} {scope : Scope} {pos : Pos} {Nc : List Str} {k : Nat} {js : List Nat}
 {fi : List Sl -> Option (List D)} {g : D -> List Sl -> Option (List Sl)} {ft : List Sl -> Option Bool} {fe : List Sl -> Option D}
theorem zcm : DTs c X [] (fun _=>some true):=PTs.imp zyu fun σ H Q q_=>by
 obtain ⟨Hf0,H0,Hf,ρ,b,st,ef,k⟩:=q_
 exact (by cases ef; exact k Hf H (Ext.refl st.sub))
theorem zdy {f : List Sl -> Option Bool} (h : DT c X e f) : DTs c X [e] f:=zz7 h
theorem zot {G : Gc} (hj : js.Nodup) (hk : ∀ d ρ ρ' i,g d ρ = some ρ' -> k <= i -> ρ'[i]? = ρ[i]?) (hlen : ∀ d ρ ρ',g d ρ = some ρ' -> ρ'.length = ρ.length) {σ : St} {H : Hp} {Q : VK} (h : tDO G (za6 k js fi g ft fe) σ H Q) :
  zqu k js (zsj G fi) (tDG G g) (tDT G ft) (tD G fe) σ H Q:=by
 obtain ⟨Hf0,H0,Hf,ρ,rs,st,ef,kq⟩:=h
 unfold za6 at ef
 cases e1 : fi ρ with
 | none=>rw [e1] at ef; cases ef
 | some ds =>
  rw [e1] at ef
  replace ef : (if ds.length <= 16777216 then zew (ze6 g ft fe (zdp k js ρ)) ds else none) = some rs:=ef
  by_cases hz : ds.length <= 16777216
  ·rw [if_pos hz] at ef
   refine ⟨Hf0,H0,Hf,ρ,ds,st,e1,fun J Hf1 H1 x1 it=>?_⟩
   refine ⟨fun i m ys σ' H'=>m = ds.length - i /\ i <= ds.length /\ ∃ Hf' as zco,Ext Hf1 H1 Hf' H' /\ za1 G Hf0 H0 Hf' H' σ' (zdp k js ρ) /\ zas G Hf' as ys /\ zew (ze6 g ft fe (zdp k js ρ)) (ds.drop i) = some zco /\ rs = as ++ zco /\ as.length <= i,
    ⟨ds.length,rfl,Nat.zero_le _,Hf1,[],rs,Ext.refl x1.s,(st.step x1).comp k hj,rfl,ef,rfl,Nat.le_refl _⟩,?_⟩
   rintro i m ys σ' H' ⟨rfl,hi,Hf',as,zco,x2,st2,ra,ec,er,hal⟩
   have hys : ys.length <= sizeLine:=by rw [sizeLine_eq,<- ra.length]; omega
   obtain ⟨it1,it2⟩:=it Hf' H' x2 i
   by_cases hlt : i < ds.length
   ·obtain ⟨d,ed,edr⟩:=zr1 hlt
    obtain ⟨go,yl⟩:=it1 d ed
    refine .inr ⟨go,hys,fun ys' σ2 H2=>ds.length - (i + 1) = ds.length - (i + 1) /\ i + 1 <= ds.length /\ ∃ Hf' as zco,Ext Hf1 H1 Hf' H2 /\ za1 G Hf0 H0 Hf' H2 σ2 (zdp k js ρ) /\ zas G Hf' as ys' /\ zew (ze6 g ft fe (zdp k js ρ)) (ds.drop (i + 1)) = some zco /\ rs = as ++ zco /\ as.length <= i + 1,
     fun ys' σ2 H2 w=>⟨ds.length - (i + 1),by omega,w⟩,fun x H2 y=>?_⟩
    obtain ⟨Hf2,x3,rx⟩:=yl x H2 y
    rw [edr] at ec
    obtain ⟨o,r',eo,ec',erest⟩:=z6f ec
    unfold ze6 at eo
    cases eg : g d (zdp k js ρ) with
    | none=>rw [eg] at eo; cases eo
    | some ρ1 =>
     rw [eg] at eo
     replace eo : (ft ρ1).bind _ = _:=eo
     cases et : ft ρ1 with
     | none=>rw [et] at eo; cases eo
     | some b =>
      rw [et] at eo
      replace eo : (if b = true then (fe ρ1).map some else some none) = some o:=eo
      refine ⟨Hf0,H0,Hf2,zdp k js ρ,d,ρ1,st2.step x3,rx,eg,fun σ3 st3=>⟨Hf0,H0,Hf2,ρ1,b,st3,et,fun Hf4 H4 x4=>?_⟩⟩
      have back : ∀ {Hf5 H5 : Hp},za1 G Hf0 H0 Hf5 H5 σ3 ρ1 -> za1 G Hf0 H0 Hf5 H5 σ3 (zdp k js ρ):=fun {Hf5 H5} s5=>s5.weak (hlen _ _ _ eg).symm fun j s hs=>by
       rcases zn7 hs with ⟨_,e⟩ | ⟨hj',_⟩
       ·exact .inl e
       ·exact .inr (by rw [hk _ _ _ _ eg hj']; exact hs)
      cases b with
      | true =>
       rw [if_pos rfl] at eo
       refine zvf ?_
       cases ee : fe ρ1 with
       | none=>rw [ee] at eo; cases eo
       | some y' =>
        rw [ee] at eo
        cases eo
        refine ⟨Hf0,H0,Hf4,ρ1,y',st3.step x4,ee,fun v Hf5 H5 x5 r5=>?_⟩
        have x:=(x3.trans x4).trans x5
        refine ⟨rfl,hlt,Hf5,as ++ [y'],r',x2.trans x,back ((st3.step x4).step x5),(ra.up x.f).append (.cons r5 .nil),ec',?_,by rw [List.length_append,List.length_singleton]; omega⟩
        rw [er,erest,List.append_assoc]
        rfl
      | false =>
       rw [if_neg Bool.false_ne_true] at eo
       refine ztd ?_
       cases eo
       have x:=x3.trans x4
       exact ⟨rfl,hlt,Hf4,as,r',x2.trans x,back (st3.step x4),ra.up x.f,ec',by rw [er,erest],by omega⟩
   ·have ei : i = ds.length:=by omega
    subst ei
    refine .inl ⟨it2 rfl,hys,fun l h1 h2=>?_⟩
    rw [List.drop_eq_nil_of_le (Nat.le_refl _)] at ec
    cases ec
    rw [List.append_nil] at er
    subst er
    have x:=x1.trans x2
    exact kq l ys Hf' (upd H' l (.lst ys)) (x.trans (Ext.tmp x.s h2)) (x.h.free h2) (x.s.free h2) zcg ra
  ·rw [if_neg hz] at ef
   cases ef
theorem zcc (k : Nat) (js : List Nat) (Nc : List Str) (hc : X.calm = true) (hi : DIe c X tg iter fi) (hg : ∀ cl C ex s₂ H₂,DG c (X.comp scope Nc cl C ex s₂ H₂) tg k g) (ht : ∀ cl C ex s₂ H₂,DTs c (X.comp scope Nc cl C ex s₂ H₂) ifs ft)
  (he : ∀ cl C ex s₂ H₂,DE c (X.comp scope Nc cl C ex s₂ H₂) elt fe) (ck : zh9 scope X.env.scope.names X.N Nc k js = true:=by rfl) (hs : ∀ x,foldedSetIterable iter X.env x = pure x:=by intro _; rfl) (hj : js.Nodup:=by decide) :
  DO c X (.ListComp elt [⟨tg,iter,ifs,0⟩] scope pos) (za6 k js fi g ft fe) :=
 PE.imp (zyh (g:=tDG (Gx c X) g) (tt:=tDT (Gx c X) ft) (te:=tD (Gx c X) fe) k js Nc hc hi (fun cl C ex s₂ H₂=>(hg cl C ex s₂ H₂).pg) ht he ck hs) fun σ H Q h =>
  zot hj (hg [] 0 [] X.s₀ X.H₀).keep (hg [] 0 [] X.s₀ X.H₀).len h
end
section
variable {c : Str -> Addr} {X : Cx} {tg : Expr} {scope : Scope} {Nc : List Str} {cl : List (Str × Addr)} {C : Addr} {ex : List Addr} {s₂ : Shared} {H₂ : Hp}
theorem dvc (i : Nat) {x : Str} {pos : Pos} (hN : Nc[i]? = some x:=by rfl) (hv : Vis scope x:=by first | exact Or.inl rfl | exact Or.inr (Or.inl rfl) | exact Or.inr (Or.inr rfl)) (hd : (x == ("__debug__" : Str)) = false:=by decide)
  (hcd : (x == ("__classdict__" : Str)) = false:=by decide) : DE c (X.comp scope Nc cl C ex s₂ H₂) (.Name x pos) (zaa i):=zuw (pvc i hN hv hd hcd)
theorem z3x (i : Nat) {x : Str} {pos : Pos} (hN : Nc[i]? = some x:=by rfl) (hv : Vis scope x:=by first | exact Or.inl rfl | exact Or.inr (Or.inl rfl) | exact Or.inr (Or.inr rfl)) (hd : (x == ("__debug__" : Str)) = false:=by decide)
  (hcd : (x == ("__classdict__" : Str)) = false:=by decide) : DB c (X.comp scope Nc cl C ex s₂ H₂) (.Name x pos) (zg3 i):=zv0 (pvc i hN hv hd hcd)
theorem zc8 (i : Nat) {x : Str} {pos : Pos} (hN : Nc[i]? = some x:=by rfl) (hv : Vis scope x:=by first | exact Or.inl rfl | exact Or.inr (Or.inl rfl) | exact Or.inr (Or.inr rfl)) (hd : (x == ("__debug__" : Str)) = false:=by decide)
  (hcd : (x == ("__classdict__" : Str)) = false:=by decide) : DC c (X.comp scope Nc cl C ex s₂ H₂) (.Name x pos) (zaf i):=zr9 (pvc i hN hv hd hcd)
theorem dgc (i k : Nat) {x : Str} {pos : Pos} (hk : i < k:=by decide) (hN : Nc.Nodup:=by decide +kernel) (hi : Nc[i]? = some x:=by rfl) (hl : scope.names.lookup x = some .local:=by rfl) : DG c (X.comp scope Nc cl C ex s₂ H₂) (.Name x pos) k (zaq i) :=
 zr2 (pgc i hN hi hl) hk
end
inductive Fl where
 | nx (ρ : List Sl)
 | bk (ρ : List Sl)
 | ct (ρ : List Sl)
 | rt (d : D)
 | rtO (ds : List D)
 | rtS (d : D) (ρ : List Sl)
noncomputable def znv (G : Gc) (Hf0 H0 Hf : Hp) (E : zho) : Fl -> Prop
 | .nx ρ'=>∀ σ' Hf' H',za7 Hf Hf' -> za1 G Hf0 H0 Hf' H' σ' ρ' -> E.nx σ' H'
 | .bk ρ'=>∀ σ' Hf' H',za7 Hf Hf' -> za1 G Hf0 H0 Hf' H' σ' ρ' -> E.bk σ' H'
 | .ct ρ'=>∀ σ' Hf' H',za7 Hf Hf' -> za1 G Hf0 H0 Hf' H' σ' ρ' -> E.ct σ' H'
 | .rt d=>∀ v Hf' H',Ext Hf0 H0 Hf' H' -> Rep G Hf' d v -> E.rt v H'
 | .rtO ds=>∀ l vs Hf' H',Ext Hf0 H0 Hf' H' -> H0 l = none -> Hf' l = none -> H' l = some (.lst vs) -> zas G Hf' ds vs -> E.rt (.ref l) H'
 | .rtS d ρ=>∀ v σ' Hf' H',za1 G Hf0 H0 Hf' H' σ' ρ -> Rep G Hf' d v -> E.rt v H'
noncomputable def tDS (G : Gc) (F : List Sl -> Option Fl) : TS:=fun E σ H=>∃ Hf0 H0 Hf ρ o,za1 G Hf0 H0 Hf H σ ρ /\ F ρ = some o /\ znv G Hf0 H0 Hf E o
noncomputable def DS (c : Str -> Addr) (X : Cx) (st : Stmt) (F : List Sl -> Option Fl) : Prop:=PS X st (tDS (Gx c X) F)
noncomputable def DSs (c : Str -> Addr) (X : Cx) (st : List Stmt) (F : List Sl -> Option Fl) : Prop:=PSs X st (tDS (Gx c X) F)
noncomputable def zbg (ρ : List Sl) : Option Fl:=some (.nx ρ)
noncomputable def zai (F F' : List Sl -> Option Fl) (ρ : List Sl) : Option Fl:=(F ρ).bind fun o=>match o with
 | .nx ρ'=>F' ρ'
 | o=>some o
noncomputable def za4 (t : List Sl -> Option Bool) (F F' : List Sl -> Option Fl) (ρ : List Sl) : Option Fl:=(t ρ).bind fun b=>if b then F ρ else F' ρ
noncomputable def zbe (i : Nat) (f : List Sl -> Option D) (ρ : List Sl) : Option Fl:=(f ρ).map fun d=>.nx (ρ.set i (.im d))
noncomputable def zde (i : Nat) (f : List Sl -> Option (List D)) (ρ : List Sl) : Option Fl:=(f ρ).map fun d=>.nx (ρ.set i (.own d))
noncomputable def zav (f : List Sl -> Option D) (ρ : List Sl) : Option Fl:=(f ρ).map .rt
noncomputable def zgv (f : List Sl -> Option (List D)) (ρ : List Sl) : Option Fl:=(f ρ).map .rtO
noncomputable def ze1 (i : Nat) (ρ : List Sl) : Option Fl:=match ρ[i]? with
 | some (.im d)=>some (.rt d)
 | some (.own xs)=>some (.rtO xs)
 | _=>none
noncomputable def zfg (g : D -> List Sl -> Option (List Sl)) (F : List Sl -> Option Fl) : List D -> List Sl -> Option Fl
 | [],ρ=>some (.nx ρ)
 | d :: ds,ρ=>(g d ρ).bind fun ρ1=>(F ρ1).bind fun o=>match o with
  | .nx ρ2=>zfg g F ds ρ2
  | .ct ρ2=>zfg g F ds ρ2
  | .bk ρ2=>some (.nx ρ2)
  | .rt d=>some (.rt d)
  | .rtO d=>some (.rtO d)
  | .rtS d ρ2=>some (.rtS d ρ2)
noncomputable def zc9 (fi : List Sl -> Option (List D)) (g : D -> List Sl -> Option (List Sl)) (F : List Sl -> Option Fl) (ρ : List Sl) : Option Fl:=(fi ρ).bind fun ds=>zfg g F ds ρ
noncomputable def zgh (t : List Sl -> Option Bool) (F : List Sl -> Option Fl) : Nat -> List Sl -> Option Fl
 | 0,_=>none
 | n + 1,ρ=>(t ρ).bind fun b=>if b then (F ρ).bind fun o=>match o with
   | .nx ρ2=>zgh t F n ρ2
   | .ct ρ2=>zgh t F n ρ2
   | .bk ρ2=>some (.nx ρ2)
   | .rt d=>some (.rt d)
   | .rtO d=>some (.rtO d)
   | .rtS d ρ2=>some (.rtS d ρ2)
  else some (.nx ρ)
noncomputable def zm5 (i : Nat) (ρ : List Sl) : List Sl:=match ρ[i]? with
 | some (.own xs)=>ρ.set i (.im (.lst xs))
 | some (.ownd ks xs)=>ρ.set i (.im (.dic ks xs))
 | some (.obj c ns xs)=>ρ.set i (.im (.ins c ns xs))
 | _=>ρ
noncomputable def ze9 (i : Nat) (F : List Sl -> Option Fl) (ρ : List Sl) : Option Fl:=F (zm5 i ρ)
noncomputable def ze8 (i : Nat) (f : List Sl -> Option D) (ρ : List Sl) : Option Fl:=(f ρ).bind fun d=>match ρ[i]? with
 | some (.own xs)=>if xs.length < 16777216 then some (.nx (ρ.set i (.own (xs ++ [d])))) else none
 | _=>none
noncomputable def zin (f : List Sl -> Option D) (ρ : List Sl) : Option (List D):=(f ρ).bind fun d=>match d with
 | .lst xs=>some xs
 | _=>none
noncomputable def zh1 (i : Nat) (f : List Sl -> Option (List D)) (ρ : List Sl) : Option Fl:=(f ρ).bind fun ds=>match ρ[i]? with
 | some (.own xs)=>if xs.length + ds.length <= 16777216 then some (.nx (ρ.set i (.own (xs ++ ds)))) else none
 | _=>none
section
variable {c : Str -> Addr} {X : Cx} {st : Stmt} {sts a b : List Stmt} {e cd tg iter : Expr} {pos : Pos} {F F' : List Sl -> Option Fl}
theorem zbj : DSs c X [] zbg:=PSs.imp zvo fun E σ H q_=>by
 obtain ⟨Hf0,H0,Hf,ρ,o,so,ef,k⟩:=q_
 exact (by cases ef; exact k σ Hf H (za7.refl _) so)
theorem znv.up {G : Gc} {Hf0 H0 Hf Hf' : Hp} {E : zho} {o : Fl} (h : znv G Hf0 H0 Hf E o) (s : za7 Hf Hf') : znv G Hf0 H0 Hf' E o:=by
 cases o with
 | nx ρ=>exact fun σ' Hf2 H2 s2 q=>h σ' Hf2 H2 (s.trans s2) q
 | bk ρ=>exact fun σ' Hf2 H2 s2 q=>h σ' Hf2 H2 (s.trans s2) q
 | ct ρ=>exact fun σ' Hf2 H2 s2 q=>h σ' Hf2 H2 (s.trans s2) q
 | rt d=>exact h
 | rtO d=>exact h
 | rtS d ρ=>exact h
theorem zaj (h1 : DS c X st F) (h2 : DSs c X sts F') : DSs c X (st :: sts) (zai F F'):=PSs.imp (zsy h1 h2) fun E σ H q_=>by
 obtain ⟨Hf0,H0,Hf,ρ,o,so,ef,k⟩:=q_
 unfold zai at ef
 cases e1 : F ρ with
 | none=>rw [e1] at ef; cases ef
 | some o1 =>
  rw [e1] at ef
  refine ⟨Hf0,H0,Hf,ρ,o1,so,e1,?_⟩
  cases o1 with
  | nx ρ1=>exact fun σ1 Hf1 H1 s1 so1=>⟨Hf0,H0,Hf1,ρ1,o,so1,ef,k.up s1⟩
  | bk ρ1=>cases ef; exact k
  | ct ρ1=>cases ef; exact k
  | rt d=>cases ef; exact k
  | rtO d=>cases ef; exact k
  | rtS d ρ1=>cases ef; exact k
theorem zan (h1 : DS c X st F) : DSs c X [st] F:=z2f h1
theorem zbf {t : List Sl -> Option Bool} (hc : DT c X cd t) (ha : DSs c X a F) (hb : DSs c X b F') : DS c X (.If cd a b pos) (za4 t F F'):=PS.imp (z34 hc ha hb) fun E σ H q_=>by
 obtain ⟨Hf0,H0,Hf,ρ,o,so,ef,k⟩:=q_
 unfold za4 at ef
 cases e1 : t ρ with
 | none=>rw [e1] at ef; cases ef
 | some x =>
  rw [e1] at ef
  refine ⟨Hf0,H0,Hf,ρ,x,so,e1,fun Hf1 H1 x1=>?_⟩
  cases x with
  | true=>rw [if_pos rfl]; exact ⟨Hf0,H0,Hf1,ρ,o,so.step x1,ef,k.up x1.f⟩
  | false=>rw [if_neg Bool.false_ne_true]; exact ⟨Hf0,H0,Hf1,ρ,o,so.step x1,ef,k.up x1.f⟩
theorem zu6 {te : TE} {i : Nat} {f : List Sl -> Option D} (hp : PS X st (ziu te (zhi i))) (hi : ∀ σ H Q,tD (Gx c X) f σ H Q -> te σ H Q) : DS c X st (zbe i f):=PS.imp hp fun E σ H q_=>by
 obtain ⟨Hf0,H0,Hf,ρ,o,so,ef,k⟩:=q_
 unfold zbe at ef
 cases e1 : f ρ with
 | none=>rw [e1] at ef; cases ef
 | some d =>
  rw [e1] at ef
  cases ef
  exact hi _ _ _ ⟨Hf0,H0,Hf,ρ,d,so,e1,fun v Hf' H' x r=>k _ Hf' H' x.f ((so.step x).setIm r)⟩
theorem zt1 {te : TE} {i : Nat} {f : List Sl -> Option (List D)} (hp : PS X st (ziu te (zhi i))) (hi : ∀ σ H Q,tDO (Gx c X) f σ H Q -> te σ H Q) : DS c X st (zde i f):=PS.imp hp fun E σ H q_=>by
 obtain ⟨Hf0,H0,Hf,ρ,o,so,ef,k⟩:=q_
 unfold zde at ef
 cases e1 : f ρ with
 | none=>rw [e1] at ef; cases ef
 | some d =>
  rw [e1] at ef
  cases ef
  exact hi _ _ _ ⟨Hf0,H0,Hf,ρ,d,so,e1,fun l vs Hf' H' x hn hf hl r=>k _ Hf' H' x.f (so.setOwn (s:=.own d) rfl x hn hf ⟨vs,hl,r⟩)⟩
theorem zb5 (i : Nat) {x : Str} {f : List Sl -> Option D} {pos' : Pos} (hN : X.N.Nodup) (he : DE c X e f) (hi : X.N[i]? = some x:=by rfl) (hx : Loc X.env.scope x:=by first | exact Or.inl rfl | exact Or.inr rfl) (hs : swapsWith e (some (.Name x pos')) pos.line X.env = pure false:=by rfl) (hf : X.fn x = true \/ X.env.scope.names.lookup x = some .local:=by first | exact .inl rfl | exact .inr rfl) :
  DS c X (.Assign [.Name x pos'] e pos) (zbe i f):=zu6 (zoe hN hi hx he hs hf) fun _ _ _ h=>h
theorem zfj (i : Nat) {x : Str} {f : List Sl -> Option (List D)} {pos' : Pos} (hN : X.N.Nodup) (he : DO c X e f) (hi : X.N[i]? = some x:=by rfl) (hx : Loc X.env.scope x:=by first | exact Or.inl rfl | exact Or.inr rfl) (hs : swapsWith e (some (.Name x pos')) pos.line X.env = pure false:=by rfl) (hf : X.fn x = true \/ X.env.scope.names.lookup x = some .local:=by first | exact .inl rfl | exact .inr rfl) :
  DS c X (.Assign [.Name x pos'] e pos) (zde i f):=zt1 (zoe hN hi hx he hs hf) fun _ _ _ h=>h
theorem zzv {G : Gc} {f : List Sl -> Option (List D)} {σ : St} {H : Hp} {Q : VK} (h : tD G (zal f) σ H Q) : tDO G f σ H Q:=by
 obtain ⟨Hf0,H0,Hf,ρ,d,st,ef,k⟩:=h
 unfold zal at ef
 cases ed : f ρ with
 | none=>rw [ed] at ef; cases ef
 | some ds =>
  rw [ed] at ef
  have ef : D.lst ds = d:=Option.some.inj ef
  subst ef
  exact ⟨Hf0,H0,Hf,ρ,ds,st,ed,fun l vs Hf' H' x hn hf hl r=>k _ (upd Hf' l (.lst vs)) H' (x.fix hn hf hl) ⟨l,vs,rfl,zcg,r.up (zc2 hf)⟩⟩
theorem zoh (i : Nat) {x : Str} {pos' spos : Pos} {elt : Expr} {ifs : List Expr} {scope : Scope} {fi : List Sl -> Option (List D)} {g : D -> List Sl -> Option (List Sl)} {ft : List Sl -> Option Bool} {fe : List Sl -> Option D} (k : Nat) (js : List Nat) (Nc : List Str) (hN : X.N.Nodup) (hc : X.calm = true) (hi : DIe c X tg iter fi)
  (hg : ∀ cl C ex s₂ H₂,DG c (X.comp scope Nc cl C ex s₂ H₂) tg k g) (ht : ∀ cl C ex s₂ H₂,DTs c (X.comp scope Nc cl C ex s₂ H₂) ifs ft) (he : ∀ cl C ex s₂ H₂,DE c (X.comp scope Nc cl C ex s₂ H₂) elt fe)
  (hi' : X.N[i]? = some x:=by rfl) (hx : Loc X.env.scope x:=by first | exact Or.inl rfl | exact Or.inr rfl)
  (hsw : swapsWith (.ListComp elt [⟨tg,iter,ifs,0⟩] scope pos) (some (.Name x pos')) spos.line X.env = pure true:=by rfl)
  (ck : zh9 scope X.env.scope.names X.N Nc k js = true:=by rfl) (hs : ∀ x,foldedSetIterable iter X.env x = pure x:=by intro _; rfl) (hj : js.Nodup:=by decide)
  (hf : X.fn x = true \/ X.env.scope.names.lookup x = some .local:=by first | exact .inl rfl | exact .inr rfl) :
  DS c X (.Assign [.Name x pos'] (.ListComp elt [⟨tg,iter,ifs,0⟩] scope pos) spos) (zde i (za6 k js fi g ft fe)) :=
 zt1 (zvy (g:=tDG (Gx c X) g) (tt:=tDT (Gx c X) ft) (te:=tD (Gx c X) fe) k js Nc hN hi' hx hc hi (fun cl C ex s₂ H₂=>(hg cl C ex s₂ H₂).pg) ht he hsw ck hs hf) fun σ H Q h=>zot hj (hg [] 0 [] X.s₀ X.H₀).keep (hg [] 0 [] X.s₀ X.H₀).len h
theorem zf6 (i : Nat) {x : Str} {pos' spos : Pos} {elt : Expr} {ifs : List Expr} {scope : Scope} {fi : List Sl -> Option (List D)} {g : D -> List Sl -> Option (List Sl)} {ft : List Sl -> Option Bool} {fe : List Sl -> Option D} (k : Nat) (js : List Nat) (Nc : List Str) (hN : X.N.Nodup) (hc : X.calm = true) (hi : DIe c X tg iter fi)
  (hg : ∀ cl C ex s₂ H₂,DG c (X.comp scope Nc cl C ex s₂ H₂) tg k g) (ht : ∀ cl C ex s₂ H₂,DTs c (X.comp scope Nc cl C ex s₂ H₂) ifs ft) (he : ∀ cl C ex s₂ H₂,DE c (X.comp scope Nc cl C ex s₂ H₂) elt fe)
  (hi' : X.N[i]? = some x:=by rfl) (hx : Loc X.env.scope x:=by first | exact Or.inl rfl | exact Or.inr rfl)
  (hsw : swapsWith (.ListComp elt [⟨tg,iter,ifs,0⟩] scope pos) (some (.Name x pos')) spos.line X.env = pure true:=by rfl)
  (ck : zh9 scope X.env.scope.names X.N Nc k js = true:=by rfl) (hs : ∀ x,foldedSetIterable iter X.env x = pure x:=by intro _; rfl) (hj : js.Nodup:=by decide)
  (hf : X.fn x = true \/ X.env.scope.names.lookup x = some .local:=by first | exact .inl rfl | exact .inr rfl) :
  DS c X (.Assign [.Name x pos'] (.ListComp elt [⟨tg,iter,ifs,0⟩] scope pos) spos) (zbe i (zal (za6 k js fi g ft fe))) :=
 zu6 (zvy (g:=tDG (Gx c X) g) (tt:=tDT (Gx c X) ft) (te:=tD (Gx c X) fe) k js Nc hN hi' hx hc hi (fun cl C ex s₂ H₂=>(hg cl C ex s₂ H₂).pg) ht he hsw ck hs hf) fun σ H Q h=>zot hj (hg [] 0 [] X.s₀ X.H₀).keep (hg [] 0 [] X.s₀ X.H₀).len (zzv h)
theorem zaw {f : List Sl -> Option D} (he : DE c X e f) : DS c X (.Return (some e) pos) (zav f):=PS.imp (zn1 he) fun E σ H q_=>by
 obtain ⟨Hf0,H0,Hf,ρ,o,so,ef,k⟩:=q_
 unfold zav at ef
 cases e1 : f ρ with
 | none=>rw [e1] at ef; cases ef
 | some d =>
  rw [e1] at ef
  cases ef
  exact ⟨Hf0,H0,Hf,ρ,d,so,e1,fun v Hf' H' x r=>k v Hf' H' (so.ext.trans x) r⟩
noncomputable def zk7 (f : List Sl -> Option D) (ρ : List Sl) : Option Fl:=(f ρ).map fun d=>.rtS d ρ
theorem zwc {f : List Sl -> Option D} (he : DE c X e f) : DS c X (.Return (some e) pos) (zk7 f):=PS.imp (zn1 he) fun E σ H q_=>by
 obtain ⟨Hf0,H0,Hf,ρ,o,so,ef,k⟩:=q_
 unfold zk7 at ef
 cases e1 : f ρ with
 | none=>rw [e1] at ef; cases ef
 | some d =>
  rw [e1] at ef
  cases ef
  exact ⟨Hf0,H0,Hf,ρ,d,so,e1,fun v Hf' H' x r=>k v σ Hf' H' (so.step x) r⟩
theorem zlg {f : List Sl -> Option (List D)} (he : DO c X e f) : DS c X (.Return (some e) pos) (zgv f):=PS.imp (zn1 he) fun E σ H q_=>by
 obtain ⟨Hf0,H0,Hf,ρ,o,so,ef,k⟩:=q_
 unfold zgv at ef
 cases e1 : f ρ with
 | none=>rw [e1] at ef; cases ef
 | some d =>
  rw [e1] at ef
  cases ef
  exact ⟨Hf0,H0,Hf,ρ,d,so,e1,fun l vs Hf' H' x hn hf hl r=>k l vs Hf' H' (so.ext.trans x) (so.ext.h.free hn) hf hl r⟩
theorem zy8 {i : Nat} (he : PE X e (zeh i)) : DS c X (.Return (some e) pos) (ze1 i):=PS.imp (zn1 he) fun E σ H q_=>by
 obtain ⟨Hf0,H0,Hf,ρ,o,so,ef,k⟩:=q_
 unfold ze1 at ef
 cases es : ρ[i]? with
 | none=>rw [es] at ef; cases ef
 | some s =>
  rw [es] at ef
  cases s with
  | im d =>
   cases ef
   obtain ⟨v,e1,r⟩:=so.imm es
   exact ⟨_,e1,k v Hf H so.ext r⟩
  | own xs =>
   cases ef
   obtain ⟨l,e1,h0,hf,vs,q,r⟩:=so.ownAt rfl es
   exact ⟨_,e1,k l vs Hf H so.ext h0 hf q r⟩
  | _=>cases ef
theorem zg4 (i : Nat) {x : Str} {p : Pos} (hN : X.N[i]? = some x:=by rfl) (hv : Vis X.env.scope x:=by first | exact Or.inl rfl | exact Or.inr (Or.inl rfl) | exact Or.inr (Or.inr rfl)) (hd : (x == ("__debug__" : Str)) = false:=by decide)
  (hcd : (x == ("__classdict__" : Str)) = false:=by decide) : DS c X (.Return (some (.Name x p)) pos) (ze1 i):=zy8 (zg0 hN hv hd hcd)
theorem zd4 {fi : List Sl -> Option (List D)} {g : D -> List Sl -> Option (List Sl)} {kk : Nat} (hp : PassesOwn (model X.prog X.w) X.A X.env X.xe) (hc : X.calm = true) (hi : DI c X tg iter fi) (hg : DG c X tg kk g) (hb : DSs c X a F) (hs : ∀ x,foldedSetIterable iter X.env x = pure x:=by intro _; rfl) :
  DS c X (.For tg iter a [] pos) (zc9 fi g F):=PS.imp (z13 hp hc hi hg.pg hb hs) fun E σ H q_=>by
 obtain ⟨Hf0,H0,Hf,ρ,o,so,ef,k⟩:=q_
 unfold zc9 at ef
 cases e1 : fi ρ with
 | none=>rw [e1] at ef; cases ef
 | some ds =>
  rw [e1] at ef
  replace ef : zfg g F ds ρ = some o:=ef
  refine ⟨Hf0,H0,Hf,ρ,ds,so,e1,fun J Hf1 H1 x1 it=>?_⟩
  refine ⟨fun i m σ' H'=>m = ds.length - i /\ i <= ds.length /\ ∃ Hf' ρ',za1 (Gx c X) Hf0 H0 Hf' H' σ' ρ' /\ za7 Hf1 Hf' /\ zfg g F (ds.drop i) ρ' = some o,⟨ds.length,rfl,Nat.zero_le _,Hf1,ρ,so.step x1,za7.refl _,ef⟩,?_⟩
  rintro i m σ' H' ⟨rfl,hi',Hf',ρ',so',s1,em⟩
  obtain ⟨it1,it2⟩:=it Hf' H' s1 so'.sub i
  by_cases hlt : i < ds.length
  ·obtain ⟨d,ed,edr⟩:=zr1 hlt
   obtain ⟨go,yl⟩:=it1 d ed
   rw [edr] at em
   unfold zfg at em
   refine .inr ⟨go,fun σ2 H2=>ds.length - (i + 1) = ds.length - (i + 1) /\ i + 1 <= ds.length /\ ∃ Hf' ρ',za1 (Gx c X) Hf0 H0 Hf' H2 σ2 ρ' /\ za7 Hf1 Hf' /\ zfg g F (ds.drop (i + 1)) ρ' = some o,fun σ2 H2 w=>⟨ds.length - (i + 1),by omega,w⟩,fun x H2 y=>?_⟩
   obtain ⟨Hf2,x2,rx⟩:=yl x H2 y
   cases eg : g d ρ' with
   | none=>rw [eg] at em; cases em
   | some ρ1 =>
    rw [eg] at em
    replace em : (F ρ1).bind _ = _:=em
    cases eF : F ρ1 with
    | none=>rw [eF] at em; cases em
    | some o1 =>
     rw [eF] at em
     refine ⟨Hf0,H0,Hf2,ρ',d,ρ1,so'.step x2,rx,eg,fun σ3 so3=>⟨Hf0,H0,Hf2,ρ1,o1,so3,eF,?_⟩⟩
     have sf:=s1.trans x2.f
     cases o1 with
     | nx ρ2=>exact fun σ4 Hf4 H4 s4 so4=>⟨rfl,hlt,Hf4,ρ2,so4,sf.trans s4,em⟩
     | ct ρ2=>exact fun σ4 Hf4 H4 s4 so4=>⟨rfl,hlt,Hf4,ρ2,so4,sf.trans s4,em⟩
     | bk ρ2=>cases em; exact fun σ4 Hf4 H4 s4 so4=>k σ4 Hf4 H4 ((x1.f.trans sf).trans s4) so4
     | rt d=>cases em; exact k
     | rtO d=>cases em; exact k
     | rtS d ρ2=>cases em; exact k
  ·have ei : i = ds.length:=by omega
   subst ei
   rw [List.drop_eq_nil_of_le (Nat.le_refl _)] at em
   cases em
   exact .inl ⟨it2 rfl,k σ' Hf' H' (x1.f.trans s1) so'⟩
theorem z6g (n : Nat) {t : List Sl -> Option Bool} (hp : PassesOwn (model X.prog X.w) X.A X.env X.xe) (hc : DT c X cd t) (hb : DSs c X a F) : DS c X (.While cd a [] pos) (zgh t F n):=PS.imp (z15 hp hc hb) fun E σ H q_=>by
 obtain ⟨Hf0,H0,Hf,ρ,o,so,ef,k⟩:=q_
 refine ⟨fun m σ' H'=>∃ Hf' ρ',za1 (Gx c X) Hf0 H0 Hf' H' σ' ρ' /\ za7 Hf Hf' /\ zgh t F m ρ' = some o,⟨n,Hf,ρ,so,za7.refl _,ef⟩,?_⟩
 rintro m σ' H' ⟨Hf',ρ',so',s1,em⟩
 cases m with
 | zero=>cases em
 | succ m =>
  unfold zgh at em
  cases et : t ρ' with
  | none=>rw [et] at em; cases em
  | some b =>
   rw [et] at em
   replace em : (if b = true then (F ρ').bind _ else some (.nx ρ')) = some o:=em
   refine ⟨Hf0,H0,Hf',ρ',b,so',et,fun Hf2 H2 x2=>?_⟩
   cases b with
   | false =>
    rw [if_neg Bool.false_ne_true] at em
    refine ztd ?_
    cases em
    exact k σ' Hf2 H2 (s1.trans x2.f) (so'.step x2)
   | true =>
    rw [if_pos rfl] at em
    refine zvf ?_
    cases eF : F ρ' with
    | none=>rw [eF] at em; cases em
    | some o1 =>
     rw [eF] at em
     refine ⟨fun σ3 H3=>∃ Hf' ρ',za1 (Gx c X) Hf0 H0 Hf' H3 σ3 ρ' /\ za7 Hf Hf' /\ zgh t F m ρ' = some o,fun σ3 H3 w=>⟨m,Nat.lt_succ_self _,w⟩,Hf0,H0,Hf2,ρ',o1,so'.step x2,eF,?_⟩
     have sf:=s1.trans x2.f
     cases o1 with
     | nx ρ2=>exact fun σ4 Hf4 H4 s4 so4=>⟨Hf4,ρ2,so4,sf.trans s4,em⟩
     | ct ρ2=>exact fun σ4 Hf4 H4 s4 so4=>⟨Hf4,ρ2,so4,sf.trans s4,em⟩
     | bk ρ2=>cases em; exact fun σ4 Hf4 H4 s4 so4=>k σ4 Hf4 H4 (sf.trans s4) so4
     | rt d=>cases em; exact k
     | rtO d=>cases em; exact k
     | rtS d ρ2=>cases em; exact k
theorem zws {G : Gc} {i : Nat} {E : zho} {σ : St} {H : Hp} (h : tDS G (ze9 i F) E σ H) : tDS G F E σ H:=by
 obtain ⟨Hf0,H0,Hf,ρ,o,so,ef,k⟩:=h
 unfold ze9 zm5 at ef
 split at ef
 ·rename_i xs es
  obtain ⟨l,e1,h0,hf,vs,q,r⟩:=so.ownAt rfl es
  exact ⟨Hf0,H0,_,_,o,so.fixd (d:=.lst xs) rfl es e1 q ⟨l,vs,rfl,zcg,r.up (zc2 hf)⟩,ef,k.up (zc2 hf)⟩
 ·rename_i ks xs es
  obtain ⟨l,e1,h0,hf,vs,q,z,r⟩:=so.ownAt rfl es
  exact ⟨Hf0,H0,_,_,o,so.fixd (d:=.dic ks xs) rfl es e1 q ⟨l,vs,rfl,zcg,z,r.up (zc2 hf)⟩,ef,k.up (zc2 hf)⟩
 ·rename_i c' ns xs es
  obtain ⟨l,e1,h0,hf,dx,vs,q,z,r⟩:=so.ownAt rfl es
  exact ⟨Hf0,H0,_,_,o,so.fixd (d:=.ins c' ns xs) rfl es e1 q ⟨l,dx,vs,rfl,zcg,z,r.up (zc2 hf)⟩,ef,k.up (zc2 hf)⟩
 ·exact ⟨Hf0,H0,Hf,ρ,o,so,ef,k⟩
theorem zg5 (i : Nat) (h : DS c X st F) : DS c X st (ze9 i F):=PS.imp h fun _ _ _=>zws
theorem zhk {i : Nat} {f : List Sl -> Option D} (h : PS X st (znf (tBM X.K "list" zp3 (zeh i) (zms (tD (Gx c X) f) zm3)))) : DS c X st (ze8 i f):=PS.imp h fun E σ H q_=>by
 obtain ⟨Hf0,H0,Hf,ρ,o,so,ef,k⟩:=q_
 unfold ze8 at ef
 cases e1 : f ρ with
 | none=>rw [e1] at ef; cases ef
 | some d =>
  rw [e1] at ef
  replace ef : (match ρ[i]? with | some (.own xs)=>if xs.length < 16777216 then some (Fl.nx (ρ.set i (.own (xs ++ [d])))) else none | _=>none) = some o:=ef
  split at ef
  ·rename_i xs es
   split at ef
   ·rename_i hl
    cases ef
    obtain ⟨l,e2,h0,hf,vs,q,r⟩:=so.ownAt rfl es
    refine ⟨_,e2,.inl ⟨rfl,_,SqL.of q⟩,Hf0,H0,Hf,ρ,d,so,e1,fun v Hf' H' x r'=>?_⟩
    have so':=so.step x
    have q':=x.h _ _ q
    refine ⟨l,vs,v,rfl,rfl,q',by rw [sizeLine_eq,<- r.length]; exact hl,k σ Hf' _ x.f (so'.mutd (s:=.own xs) (s':=.own (xs ++ [d])) rfl rfl es e2 ⟨vs ++ [v],zcg,(r.up x.f).append (.cons r' .nil)⟩)⟩
   ·cases ef
  ·cases ef
theorem zr0 {i : Nat} {f : List Sl -> Option D} (h : PS X st (znf (tBM X.K "list" zwk (zeh i) (zms (tD (Gx c X) f) zm3)))) : DS c X st (zh1 i (zin f)):=PS.imp h fun E σ H q_=>by
 obtain ⟨Hf0,H0,Hf,ρ,o,so,ef,k⟩:=q_
 unfold zh1 zin at ef
 cases e1 : f ρ with
 | none=>rw [e1] at ef; cases ef
 | some d =>
  rw [e1] at ef
  cases d with
  | lst ds =>
   replace ef : (match ρ[i]? with | some (.own xs)=>if xs.length + ds.length <= 16777216 then some (Fl.nx (ρ.set i (.own (xs ++ ds)))) else none | _=>none) = some o:=ef
   split at ef
   ·rename_i xs es
    split at ef
    ·rename_i hl
     cases ef
     obtain ⟨l,e2,h0,hf,vs,q,r⟩:=so.ownAt rfl es
     refine ⟨_,e2,.inl ⟨rfl,_,SqL.of q⟩,Hf0,H0,Hf,ρ,.lst ds,so,e1,fun v Hf' H' x r'=>?_⟩
     obtain ⟨a,us,ea,qa,ra⟩:=r'
     subst ea
     have so':=so.step x
     have q':=x.h _ _ q
     refine ⟨l,a,vs,us,rfl,rfl,q',x.s _ _ qa,by rw [sizeLine_eq,<- r.length,<- ra.length]; exact hl,k σ Hf' _ x.f (so'.mutd (s:=.own xs) (s':=.own (xs ++ ds)) rfl rfl es e2 ⟨vs ++ us,zcg,(r.up x.f).append ra⟩)⟩
    ·cases ef
   ·cases ef
  | _=>cases ef
end
noncomputable def zq5 : Fl -> Option D
 | .rt d=>some d
 | .rtO ds=>some (.lst ds)
 | .rtS d _=>some d
 | .nx _=>some .non
 | _=>none
noncomputable def zdt (n : Nat) (ds : List D) : List Sl:=ds.map .im ++ List.replicate (n - ds.length) .no
noncomputable def zbk (n : Nat) (F : List Sl -> Option Fl) (ds : List D) : Option D:=(F (zdt n ds)).bind zq5
noncomputable def zjr (n : Nat) (F : List Sl -> Option Fl) (ds : List D) : Option (List D):=(F (zdt n ds)).bind fun o=>match o with
 | .rtO ds=>some ds
 | _=>none
noncomputable def spD (G : Gc) (n : Nat) (m : List D -> Option D) : Sp:=fun vs H Q _=>∃ Hf ds d,za7 Hf H /\ zas G Hf ds vs /\ ds.length = n /\ m ds = some d /\ ∀ v Hf' H',Ext Hf H Hf' H' -> Rep G Hf' d v -> Q v H'
noncomputable def spO (G : Gc) (n : Nat) (m : List D -> Option (List D)) : Sp:=fun vs H Q _=>∃ Hf ds rs,za7 Hf H /\ zas G Hf ds vs /\ ds.length = n /\ m ds = some rs /\
 ∀ l us Hf' H',Ext Hf H Hf' H' -> H l = none -> Hf' l = none -> H' l = some (.lst us) -> zas G Hf' rs us -> Q (.ref l) H'
theorem za1.start {G : Gc} {Hf H : Hp} {N : List Str} {ds : List D} {vs : List V} (s0 : za7 Hf H) (r : zas G Hf ds vs) : za1 G Hf H Hf H (start N vs) (zdt N.length ds):=by
 have hl:=r.length
 have im : ∀ (i : Nat) (s : Sl),(zdt N.length ds)[i]? = some s -> s = .no \/ ∃ d,ds[i]? = some d /\ s = .im d:=fun i s b=>by
  unfold zdt at b
  by_cases hi : i < ds.length
  ·rw [List.getElem?_append_left (by simpa using hi)] at b
   obtain ⟨d,ed,es⟩:=zia b
   exact .inr ⟨d,ed,es⟩
  ·rw [List.getElem?_append_right (by simpa using Nat.le_of_not_lt hi)] at b
   obtain ⟨_,e⟩:=List.getElem?_eq_some_iff.mp b
   rw [List.getElem_replicate] at e
   exact .inl e.symm
 refine ⟨Ext.refl s0,by simp [L2.start,zdt,hl],fun i v s a b=>?_,fun i j s t l a b hs ht c d=>?_⟩
 ·rcases im i s b with e | ⟨d,ed,es⟩
  ·subst e; trivial
  ·subst es
   obtain ⟨u,eu,ru⟩:=r.get ed
   refine ⟨u,?_,ru⟩
   have hi : i < vs.length:=(List.getElem?_eq_some_iff.mp eu).1
   unfold L2.start at a
   rw [List.getElem?_append_left (by simpa using hi),List.getElem?_map,eu] at a
   exact (Option.some.inj a).symm
 ·rcases im i s a with e | ⟨d,ed,es⟩
  ·subst e; cases hs
  ·subst es; cases hs
section
variable {P : Program} {w : World} {K : PySem.W.Frag} {mg : Str -> Option Value} {base : Heap} {c : Str -> Addr}
theorem zbt {x qual : Str} {st : Stmt} {f : Addr} {fd : FuncData} {N ps : List Str} {k : Nat} {F : List Sl -> Option Fl} (Fn : Fun K x qual st f fd) (S : zba N ps (zao st))
  (h : ∀ (cdv : Value) (A : Around) (outer : List Env) (s : Shared) (H : Hp) (E : XK),zcf k (A.deeper (envOfC qual (zao st) s.heap.objs.size f cdv)) -> DSs c (zgf CX0 P w K mg base N qual (zao st) f cdv A outer s H E).nox (za9 st) F) :
  zax P w K mg base CX0 (k + 1) f fd ps (spD ⟨K,c⟩ ps.length (zbk N.length F)):=by
 refine Fn.ok S (fun vs H Q E ⟨Hf,ds,d,s0,r,hl,_⟩=>by rw [<- r.length]; exact hl) fun cdv A outer s H vs Q E hr ⟨Hf,ds,d,s0,r,hl,e,kq⟩=>⟨_,h cdv A outer s H E hr,?_⟩
 unfold zbk at e
 cases eF : F (zdt N.length ds) with
 | none=>rw [eF] at e; cases e
 | some o =>
  rw [eF] at e
  replace e : zq5 o = some d:=e
  refine ⟨Hf,H,Hf,_,o,za1.start s0 r,eF,?_⟩
  cases o with
  | nx ρ=>cases e; exact fun σ' Hf' H' _ so=>kq _ Hf' H' so.ext rfl
  | bk ρ=>cases e
  | ct ρ=>cases e
  | rt d=>cases e; exact kq
  | rtO rs=>cases e; exact fun l vs Hf' H' x hn hf hl r=>kq _ (upd Hf' l (.lst vs)) H' (x.fix hn hf hl) ⟨l,vs,rfl,zcg,r.up (zc2 hf)⟩
  | rtS d ρ=>cases e; exact fun v σ' Hf' H' so r=>kq v Hf' H' so.ext r
theorem zwb {x qual : Str} {st : Stmt} {f : Addr} {fd : FuncData} {N ps : List Str} {k : Nat} {F : List Sl -> Option Fl} (Fn : Fun K x qual st f fd) (S : zba N ps (zao st))
  (h : ∀ (cdv : Value) (A : Around) (outer : List Env) (s : Shared) (H : Hp) (E : XK),zcf k (A.deeper (envOfC qual (zao st) s.heap.objs.size f cdv)) -> DSs c (zgf CX0 P w K mg base N qual (zao st) f cdv A outer s H E).nox (za9 st) F) :
  zax P w K mg base CX0 (k + 1) f fd ps (spO ⟨K,c⟩ ps.length (zjr N.length F)):=by
 refine Fn.ok S (fun vs H Q E ⟨Hf,ds,d,s0,r,hl,_⟩=>by rw [<- r.length]; exact hl) fun cdv A outer s H vs Q E hr ⟨Hf,ds,rs,s0,r,hl,e,kq⟩=>⟨_,h cdv A outer s H E hr,?_⟩
 unfold zjr at e
 cases eF : F (zdt N.length ds) with
 | none=>rw [eF] at e; cases e
 | some o =>
  rw [eF] at e
  refine ⟨Hf,H,Hf,_,o,za1.start s0 r,eF,?_⟩
  cases o with
  | rtO rs'=>cases e; exact kq
  | _=>cases e
end
section
variable {c : Str -> Addr} {X : Cx} {k : Nat} {f C : Addr} {fd : FuncData} {ps : List Str} {x : Str} {p pos apos : Pos} {e o : Expr} {es : List Expr} {fa : List Sl -> Option (List D)}
theorem zbp {m : List D -> Option D} (F : zax X.prog X.w X.K X.mg X.base CX0 k f fd ps (spD (Gx c X) ps.length m)) (hr : zcf k X.A) (hg : Gl X x) (hm : X.mg x = some (.ref f)) (hk : PySem.W.keepIn X.K (.ref f) = true) (hb : za2 X.K fd ps []) (ha : DA c X (e :: es) fa)
  (hl : (e :: es).length = ps.length:=by rfl) (hdb : (x == ("__debug__" : Str)) = false:=by decide) (he : starEach (e :: es) X.env = (false,eval e X.env) :: starEach es X.env:=by rfl) (hpl : (backTo pos (starEach es X.env)).any (·.1) = false:=by rfl) :
  DE c X (.Call (.Name x p) (e :: es) [] pos) (zap m fa):=PE.imp (zih F hr hg hm hk hb .nil zgo ha.pa hdb he hpl) fun σ H Q q_=>by
 obtain ⟨Hf0,H0,Hf,ρ,d,st,ef,kq⟩:=q_
 obtain ⟨ds,e1,e2⟩:=zqd ef
 refine ⟨Hf0,H0,Hf,ρ,ds,st,e1,fun vs Hf' H' x r=>?_⟩
 dsimp only
 rw [List.append_nil]
 exact ⟨Hf',ds,d,x.s,r,(ha.len ρ ds e1).trans hl,e2,fun v Hf2 H2 x2 r2=>kq v Hf2 H2 (x.trans x2) r2⟩
noncomputable def zjq (m : List D -> Option (List D)) (f : List Sl -> Option (List D)) (ρ : List Sl) : Option (List D):=(f ρ).bind m
theorem zwe {m : List D -> Option (List D)} (F : zax X.prog X.w X.K X.mg X.base CX0 k f fd ps (spO (Gx c X) ps.length m)) (hr : zcf k X.A) (hg : Gl X x) (hm : X.mg x = some (.ref f)) (hk : PySem.W.keepIn X.K (.ref f) = true) (hb : za2 X.K fd ps []) (ha : DA c X (e :: es) fa)
  (hl : (e :: es).length = ps.length:=by rfl) (hdb : (x == ("__debug__" : Str)) = false:=by decide) (he : starEach (e :: es) X.env = (false,eval e X.env) :: starEach es X.env:=by rfl) (hpl : (backTo pos (starEach es X.env)).any (·.1) = false:=by rfl) :
  DO c X (.Call (.Name x p) (e :: es) [] pos) (zjq m fa):=PE.imp (zih F hr hg hm hk hb .nil zgo ha.pa hdb he hpl) fun σ H Q q_=>by
 obtain ⟨Hf0,H0,Hf,ρ,rs,st,ef,kq⟩:=q_
 unfold zjq at ef
 cases e1 : fa ρ with
 | none=>rw [e1] at ef; cases ef
 | some ds =>
  rw [e1] at ef
  refine ⟨Hf0,H0,Hf,ρ,ds,st,e1,fun vs Hf' H' x r=>?_⟩
  dsimp only
  rw [List.append_nil]
  exact ⟨Hf',ds,rs,x.s,r,(ha.len ρ ds e1).trans hl,ef,fun l us Hf2 H2 x2 hn hf hl' r2=>kq l us Hf2 H2 (x.trans x2) (x.h.free hn) hf hl' r2⟩
noncomputable def zhh (m : List D -> Option D) (f : List Sl -> Option (List D)) (ρ : List Sl) : Option D:=(f ρ).bind fun ds=>(m ds).bind fun d=>if d.scalar then some d else none
theorem zns {m : List D -> Option D} (F : zax X.prog X.w X.K X.mg X.base CX0 k f fd ps (spD (Gx c X) ps.length m)) (hr : zcf k X.A) (hg : Gl X x) (hm : X.mg x = some (.ref f)) (hk : PySem.W.keepIn X.K (.ref f) = true) (hb : za2 X.K fd ps []) (ha : DAB c X (e :: es) fa)
  (hl : (e :: es).length = ps.length:=by rfl) (hdb : (x == ("__debug__" : Str)) = false:=by decide) (he : starEach (e :: es) X.env = (false,eval e X.env) :: starEach es X.env:=by rfl) (hpl : (backTo pos (starEach es X.env)).any (·.1) = false:=by rfl) :
  DE c X (.Call (.Name x p) (e :: es) [] pos) (zhh m fa):=PE.imp (zih F hr hg hm hk hb .nil zgo ha.pa hdb he hpl) fun σ H Q q_=>by
 obtain ⟨Hf0,H0,Hf,ρ,d,st,ef,kq⟩:=q_
 unfold zhh at ef
 cases e1 : fa ρ with
 | none=>rw [e1] at ef; cases ef
 | some ds =>
  rw [e1] at ef
  replace ef : (m ds).bind _ = _:=ef
  cases e2 : m ds with
  | none=>rw [e2] at ef; cases ef
  | some d' =>
   rw [e2] at ef
   replace ef : (if d'.scalar = true then some d' else none) = some d:=ef
   split at ef
   ·rename_i hs
    cases ef
    refine ⟨Hf0,H0,Hf,ρ,ds,st,e1,fun vs Hf' H' x r=>?_⟩
    dsimp only
    rw [List.append_nil]
    exact ⟨H',ds,_,za7.refl _,r,(ha.len ρ ds e1).trans hl,e2,fun v Hf2 H2 x2 r2=>kq v Hf' H2 (x.trans (Ext.grow x.s x2.h)) (r2.sc hs)⟩
   ·cases ef
end
theorem zur {G : Gc} {H : Hp} {f : Str} {d : D} : ∀ {ns : List Str} {ds : List D} {vs : List V},(ns.zip ds).lookup f = some d -> zas G H ds vs -> ∃ v,(ns.zip vs).lookup f = some v /\ Rep G H d v
 | [],_,_,e,_=>by simp at e
 | n :: ns,[],_,e,_=>by simp at e
 | n :: ns,x :: ds,_,e,⟨v,r,ev,h1,h2⟩=>by
  subst ev
  rw [List.zip_cons_cons,List.lookup_cons] at e
  rw [List.zip_cons_cons,List.lookup_cons]
  cases hf : f == n with
  | true=>rw [hf] at e; cases e; exact ⟨v,rfl,h1⟩
  | false=>rw [hf] at e; exact zur e h2
theorem zv5 {f : Str} : ∀ {ns : List Str} {vs : List V},ns.contains f = false -> (ns.zip vs).lookup f = none
 | [],_,_=>by simp
 | n :: ns,[],_=>by simp
 | n :: ns,v :: vs,h=>by
  rw [List.contains_cons,Bool.or_eq_false_iff] at h
  rw [List.zip_cons_cons,List.lookup_cons,h.1]
  exact zv5 h.2
noncomputable def zsv (cn f : Str) : D -> Option D
 | .ins c' ns ds=>if c' = cn then (ns.zip ds).lookup f else none
 | _=>none
noncomputable def zep (cn f : Str) (m : List Sl -> Option D) (ρ : List Sl) : Option D:=(m ρ).bind (zsv cn f)
noncomputable def zdf (cn f : Str) (m : List D -> Option D) (fo : List Sl -> Option D) (fa : List Sl -> Option (List D)) (ρ : List Sl) : Option D:=(fo ρ).bind fun d=>match d with
 | .ins c' ns ds=>if c' = cn /\ ns.contains f = false then (fa ρ).bind fun as=>m (.ins c' ns ds :: as) else none
 | _=>none
section
variable {c : Str -> Addr} {X : Cx} {k : Nat} {f C : Addr} {fd : FuncData} {ps : List Str} {x fl cn : Str} {p pos apos : Pos} {e o : Expr} {es : List Expr} {fo : List Sl -> Option D} {fa : List Sl -> Option (List D)}
theorem ze3 (cn : Str) (hc : Cls X.K (c cn)) (hn : zdo X.K (c cn) fl) (ho : DE c X o fo) (hb : attributeBase o fl X.env (eval o X.env) = eval o X.env:=by rfl) : DE c X (.Attribute o fl pos) (zep cn fl fo) :=
 PE.imp (z5h ho hb) fun σ H Q q_=>by
  obtain ⟨Hf0,H0,Hf,ρ,d,st,ef,k⟩:=q_
  unfold zep at ef
  cases e1 : fo ρ with
  | none=>rw [e1] at ef; cases ef
  | some y =>
   rw [e1] at ef
   replace ef : zsv cn fl y = some d:=ef
   cases y with
   | ins c' ns ds =>
    replace ef : (if c' = cn then (ns.zip ds).lookup fl else none) = some d:=ef
    split at ef
    ·rename_i hcc
     subst hcc
     refine ⟨Hf0,H0,Hf,ρ,_,st,e1,fun v Hf' H' x r=>?_⟩
     obtain ⟨a,dx,vs,ev,q,hl,rs⟩:=r
     obtain ⟨u,eu,ru⟩:=zur ef rs
     exact ⟨a,c c',dx,ns.zip vs,u,ev,x.s _ _ q,hc,hn,eu,k u Hf' H' x ru⟩
    ·cases ef
   | _=>cases ef
theorem zhs {m : List D -> Option D} {pl : Sem Bool} (cn : Str) (ho : DE c X o fo) (hc : Cls X.K (c cn)) (hm : zd1 X.K (c cn) fl f) (F : zax X.prog X.w X.K X.mg X.base CX0 k f fd ps (spD (Gx c X) ps.length m)) (hr : zcf k X.A) (hb : za2 X.K fd ps []) (ha : DA c X (e :: es) fa)
  (hl : (e :: es).length + 1 = ps.length:=by rfl)
  (hst : starEach (e :: es) X.env = (false,eval e X.env) :: starEach es X.env:=by rfl) (hpl : (backTo pos (starEach es X.env)).any (·.1) = false:=by rfl)
  (ht : eval (.Call (.Attribute o fl apos) (e :: es) [] pos) X.env = (do
   let ov <- eval o X.env
   standAt apos.atName
   let (f,first) <- holding [ov] (getMethod ov fl pl)
   callWith pos f first (backTo pos (starEach (e :: es) X.env)) (backToKw pos (keywordEach [] X.env))):=by rfl) :
  DE c X (.Call (.Attribute o fl apos) (e :: es) [] pos) (zdf cn fl m fo fa):=PE.imp (z2h ho hc hm F hr hb .nil zgo ha.pa hst hpl ht) fun σ H Q q_=>by
 obtain ⟨Hf0,H0,Hf,ρ,d,st,ef,kq⟩:=q_
 unfold zdf at ef
 cases e1 : fo ρ with
 | none=>rw [e1] at ef; cases ef
 | some y =>
  rw [e1] at ef
  cases y with
  | ins c' ns ds =>
   replace ef : (if c' = cn /\ ns.contains fl = false then (fa ρ).bind fun as=>m (.ins c' ns ds :: as) else none) = some d:=ef
   split at ef
   ·rename_i hcc
    obtain ⟨rfl,hno⟩:=hcc
    cases e2 : fa ρ with
    | none=>rw [e2] at ef; cases ef
    | some as =>
     rw [e2] at ef
     replace ef : m (.ins c' ns ds :: as) = some d:=ef
     refine ⟨Hf0,H0,Hf,ρ,_,st,e1,fun v Hf' H' x r=>?_⟩
     obtain ⟨a,dx,vs,ev,q,hlen,rs⟩:=id r
     refine ⟨a,dx,ns.zip vs,ev,x.s _ _ q,zv5 hno,Hf0,H0,Hf',ρ,as,st.step x,e2,fun ws Hf2 H2 x2 r2=>?_⟩
     dsimp only
     rw [List.append_nil]
     exact ⟨Hf2,.ins c' ns ds :: as,d,x2.s,.cons (r.up x2.f) r2,by rw [List.length_cons,ha.len ρ as e2]; exact hl,ef,fun u Hf3 H3 x3 r3=>kq u Hf3 H3 ((x.trans x2).trans x3) r3⟩
   ·cases ef
  | _=>cases ef
end
noncomputable def zl3 : List (Str × (List Sl -> Option D)) -> List Sl -> List Str -> List D -> Option (List Str × List D)
 | [],_,ns,ds=>some (ns,ds)
 | (f,m) :: r,ρ,ns,ds=>(m ρ).bind fun d=>if ns.contains f then none else zl3 r ρ (ns ++ [f]) (ds ++ [d])
noncomputable def zxf (G : Gc) (cn : Str) (fs : List (Str × (List Sl -> Option D))) : TS:=fun E σ H=>∃ x dx Hf0 H0 Hf ρ ns us ds r,σ[0]? = some (some (.ref x)) /\ (∀ s ∈ ρ,Sl.isOwn s = false) /\ za1 G Hf0 H0 Hf H σ ρ /\ H0 x = none /\ Hf x = none /\
 H x = some (.ins (G.cl cn) dx (ns.zip us)) /\ ns.length = us.length /\ ns.length + fs.length <= 900 /\ zas G Hf ds us /\ zl3 fs ρ ns ds = some r /\
 ∀ us' Hf' H',Ext Hf0 H0 Hf' H' -> Hf' x = none -> H' x = some (.ins (G.cl cn) dx (r.1.zip us')) -> r.1.length = us'.length -> zas G Hf' r.2 us' -> E.nx σ H'
noncomputable def DSI (c : Str -> Addr) (X : Cx) (cn : Str) (sts : List Stmt) (fs : List (Str × (List Sl -> Option D))) : Prop:=PSs X sts (zxf (Gx c X) cn fs)
theorem zlz {f : Str} {v : V} : ∀ {ns : List Str} {us : List V},ns.length = us.length -> ns.contains f = false -> zdz f v (ns.zip us) = (ns ++ [f]).zip (us ++ [v])
 | [],[],_,_=>rfl
 | n :: ns,u :: us,hl,h=>by
  rw [List.contains_cons,Bool.or_eq_false_iff] at h
  have h1 : ¬ (n = f):=fun z=>by rw [z,beq_self_eq_true] at h; cases h.1
  rw [List.zip_cons_cons]
  unfold zdz
  first
   | (rw [if_neg h1,zlz (by simpa using hl) h.2]; rfl)
   | (rw [if_neg (fun z=>h1 (Eq.symm z)),zlz (by simpa using hl) h.2]; rfl)
   | (rw [if_neg (by simpa using h1),zlz (by simpa using hl) h.2]; rfl)
   | (rw [if_neg (by simpa using fun z=>h1 (Eq.symm z)),zlz (by simpa using hl) h.2]; rfl)
 | [],_ :: _,hl,_=>by cases hl
 | _ :: _,[],hl,_=>by cases hl
section
variable {c : Str -> Addr} {X : Cx} {cn fl : Str} {e o : Expr} {sts : List Stmt} {pos pos' : Pos} {m : List Sl -> Option D} {fs : List (Str × (List Sl -> Option D))}
theorem zmp : DSI c X cn [] []:=PSs.imp zvo fun E σ H q=>by
 obtain ⟨x,dx,Hf0,H0,Hf,ρ,ns,us,ds,r,e0,no,so,h0,hf,hx,hl,hz,rd,em,k⟩:=q
 cases em
 exact k us Hf H so.ext hf hx hl rd
theorem zjy (hc : Cls X.K (c cn)) (hn : zdo X.K (c cn) fl) (ho : PE X o (zeh 0)) (he : DE c X e m) (h : DSI c X cn sts fs) (hs : swapsWith e (some (.Attribute o fl pos')) pos.line X.env = pure false:=by rfl) :
  DSI c X cn (.Assign [.Attribute o fl pos'] e pos :: sts) ((fl,m) :: fs):=PSs.imp (zsy (z7b ho he hs) h) fun E σ H q=>by
 obtain ⟨x,dx,Hf0,H0,Hf,ρ,ns,us,ds,r,e0,no,so,h0,hf,hx,hl,hz,rd,em,k⟩:=q
 unfold zl3 at em
 cases e1 : m ρ with
 | none=>rw [e1] at em; cases em
 | some d =>
  rw [e1] at em
  replace em : (if ns.contains fl = true then none else zl3 fs ρ (ns ++ [fl]) (ds ++ [d])) = some r:=em
  split at em
  ·cases em
  ·rename_i hnc
   have hnc : ns.contains fl = false:=by simpa using hnc
   refine ⟨Hf0,H0,Hf,ρ,d,so,e1,fun v Hf' H' xx rv=>⟨_,e0,x,c cn,dx,ns.zip us,rfl,xx.h _ _ hx,hc,hn,?_,?_⟩⟩
   ·have h1:=List.length_zip (l₁:=ns) (l₂:=us)
    rw [List.length_cons] at hz
    omega
   ·have hf' : Hf' x = none:=by rw [xx.n _ _ hx rfl]; exact hf
    have so':=so.step xx
    have so2 : za1 (Gx c X) Hf0 H0 Hf' (upd H' x (.ins (c cn) dx (zdz fl v (ns.zip us)))) σ ρ:=by
     refine ⟨⟨so'.ext.f,fun b u e=>?_,fun b u e=>?_,so'.ext.n⟩,so'.len,fun i w s a b=>?_,so'.inj⟩
     ·rw [zb1 (zdm e h0)]; exact so'.ext.h b u e
     ·rw [zb1 (zdm e hf')]; exact so'.ext.s b u e
     ·have hs:=no s (List.mem_of_getElem? b)
      have q:=so'.at' i w s a b
      cases s with
      | no=>trivial
      | im d=>exact q
      | _=>cases hs
    refine ⟨x,dx,Hf0,H0,Hf',ρ,ns ++ [fl],us ++ [v],ds ++ [d],r,e0,no,so2,h0,hf',?_,by rw [List.length_append,List.length_append,hl]; rfl,by rw [List.length_cons] at hz; rw [List.length_append,List.length_singleton]; omega,(rd.up xx.f).append (.cons rv .nil),em,k⟩
    rw [zcg,zlz hl hnc]
end
noncomputable def del (H : Hp) (x : Addr) : Hp:=fun b=>if b = x then none else H b
theorem zr4 {H : Hp} {x : Addr} : del H x x = none:=if_pos rfl
theorem zr6 {H : Hp} {x b : Addr} (h : b ≠ x) : del H x b = H b:=if_neg h
noncomputable def zlw (n : Nat) (fs : List (Str × (List Sl -> Option D))) (as : List D) : Option (List Str × List D):=zl3 fs (.no :: (as.map .im ++ List.replicate (n - 1 - as.length) .no)) [] []
noncomputable def spI (G : Gc) (cn : Str) (n : Nat) (m : List D -> Option (List Str × List D)) : Sp:=fun vs H Q _=>∃ x dx Hf as vs' r,vs = .ref x :: vs' /\ H x = some (.ins (G.cl cn) dx []) /\ Hf x = none /\ za7 Hf H /\ zas G Hf as vs' /\ as.length + 1 = n /\ m as = some r /\
 ∀ us Hf' H',Ext Hf (del H x) Hf' H' -> Hf' x = none -> H' x = some (.ins (G.cl cn) dx (r.1.zip us)) -> r.1.length = us.length -> zas G Hf' r.2 us -> Q .non H'
section
variable {P : Program} {w : World} {K : PySem.W.Frag} {mg : Str -> Option Value} {base : Heap} {c : Str -> Addr}
theorem zmt {x qual cn : Str} {st : Stmt} {f : Addr} {fd : FuncData} {N ps : List Str} {k : Nat} {fs : List (Str × (List Sl -> Option D))} (Fn : Fun K x qual st f fd) (S : zba N ps (zao st))
  (h : ∀ (cdv : Value) (A : Around) (outer : List Env) (s : Shared) (H : Hp) (E : XK),zcf k (A.deeper (envOfC qual (zao st) s.heap.objs.size f cdv)) -> DSI c (zgf CX0 P w K mg base N qual (zao st) f cdv A outer s H E).nox cn (za9 st) fs)
  (hz : fs.length <= 900:=by decide) : zax P w K mg base CX0 (k + 1) f fd ps (spI ⟨K,c⟩ cn ps.length (zlw N.length fs)):=by
 refine Fn.ok S (fun vs H Q E q=>by obtain ⟨x,dx,Hf,as,vs',r,ev,_,_,_,ra,hl,_⟩:=q; subst ev; rw [List.length_cons,<- ra.length]; exact hl) fun cdv A outer s H vs Q E hr q=>⟨_,h cdv A outer s H E hr,?_⟩
 obtain ⟨x,dx,Hf,as,vs',r,ev,hx,hf,s0,ra,hl,e,kq⟩:=q
 subst ev
 have la:=ra.length
 have im : ∀ (i : Nat) (s : Sl),(Sl.no :: (as.map Sl.im ++ List.replicate (N.length - 1 - as.length) .no))[i]? = some s -> s = .no \/ ∃ d j,i = j + 1 /\ as[j]? = some d /\ s = .im d:=fun i s b=>by
  cases i with
  | zero=>left; simpa using b.symm
  | succ i =>
   rw [List.getElem?_cons_succ] at b
   by_cases hi : i < as.length
   ·rw [List.getElem?_append_left (by simpa using hi)] at b
    obtain ⟨d,ed,es⟩:=zia b
    exact .inr ⟨d,i,rfl,ed,es⟩
   ·rw [List.getElem?_append_right (by simpa using Nat.le_of_not_lt hi)] at b
    obtain ⟨_,e⟩:=List.getElem?_eq_some_iff.mp b
    rw [List.getElem_replicate] at e
    exact .inl e.symm
 have no : ∀ s ∈ (Sl.no :: (as.map Sl.im ++ List.replicate (N.length - 1 - as.length) .no)),Sl.isOwn s = false:=fun s hs=>by
  obtain ⟨i,hi⟩:=List.getElem?_of_mem hs
  rcases im i s hi with e | ⟨d,_,_,_,e⟩ <;> (subst e; rfl)
 refine ⟨x,dx,Hf,del H x,Hf,_,[],[],[],r,rfl,no,⟨⟨za7.refl _,fun b o e=>?_,s0,fun _ _ _ _=>rfl⟩,?_,fun i v s a b=>?_,fun i j s t l a b hs ht _ _=>?_⟩,zr4,hf,hx,rfl,by simpa using hz,rfl,e,fun us Hf' H' xx h1 h2 h3 h4=>kq us Hf' H' xx h1 h2 h3 h4⟩
 ·by_cases hb : b = x
  ·subst hb; rw [zr4] at e; cases e
  ·rw [zr6 hb] at e; exact e
 ·unfold L2.start
  simp only [List.length_append,List.length_map,List.length_cons,List.length_replicate]
  omega
 ·rcases im i s b with e | ⟨d,j,ei,ed,es⟩
  ·subst e; trivial
  ·subst es ei
   obtain ⟨u,eu,ru⟩:=ra.get ed
   refine ⟨u,?_,ru⟩
   have hi : j < vs'.length:=(List.getElem?_eq_some_iff.mp eu).1
   unfold L2.start at a
   rw [List.map_cons,List.cons_append,List.getElem?_cons_succ,List.getElem?_append_left (by simpa using hi),List.getElem?_map,eu] at a
   exact (Option.some.inj a).symm
 ·have:=no s (List.mem_of_getElem? a)
  rw [this] at hs; cases hs
end
section
variable {c : Str -> Addr} {X : Cx} {k : Nat} {f : Addr} {fd : FuncData} {ps : List Str} {x cn : Str} {p pos : Pos} {e : Expr} {es : List Expr} {fa : List Sl -> Option (List D)}
noncomputable def zkm (cn : Str) (m : List D -> Option (List Str × List D)) (fa : List Sl -> Option (List D)) (ρ : List Sl) : Option D:=(fa ρ).bind fun as=>(m as).map fun r=>.ins cn r.1 r.2
theorem znc {m : List D -> Option (List Str × List D)} (cn : Str) (M : Mk X.K (c cn) f) (F : zax X.prog X.w X.K X.mg X.base CX0 k f fd ps (spI (Gx c X) cn ps.length m)) (hr : zcf (k + 1) X.A) (hg : Gl X x) (hm : X.mg x = some (.ref (c cn))) (hb : za2 X.K fd ps []) (ha : DA c X (e :: es) fa)
  (hl : (e :: es).length + 1 = ps.length:=by rfl) (hdb : (x == ("__debug__" : Str)) = false:=by decide) (he : starEach (e :: es) X.env = (false,eval e X.env) :: starEach es X.env:=by rfl) (hpl : (backTo pos (starEach es X.env)).any (·.1) = false:=by rfl) :
  DE c X (.Call (.Name x p) (e :: es) [] pos) (zkm cn m fa):=PE.imp (z2q M F hr hg hm hb .nil zgo ha.pa hdb he hpl) fun σ H Q q_=>by
 obtain ⟨Hf0,H0,Hf,ρ,d,st,ef,kq⟩:=q_
 unfold zkm at ef
 cases e1 : fa ρ with
 | none=>rw [e1] at ef; cases ef
 | some as =>
  rw [e1] at ef
  replace ef : (m as).map _ = _:=ef
  cases e2 : m as with
  | none=>rw [e2] at ef; cases ef
  | some r =>
   rw [e2] at ef
   cases ef
   refine ⟨Hf0,H0,Hf,ρ,as,st,e1,fun vs Hf' H' xx rv y dx ny ndx nex=>?_⟩
   try dsimp only
   rw [List.append_nil]
   have hy : (upd H' dx (.own y)) y = none:=by rw [zb1 nex.symm]; exact ny
   have s1 : za7 H' (upd H' dx (.own y)):=zc2 ndx
   have s2:=s1.trans (zc2 (o:=.ins (c cn) dx []) hy)
   have s3 : za7 H' (del (upd (upd H' dx (.own y)) y (.ins (c cn) dx [])) y):=fun b u q=>by
    have:=zdm q ny
    rw [zr6 this]
    exact s2 b u q
   refine ⟨y,dx,Hf',as,vs,r,rfl,zcg,xx.s.free ny,xx.s.trans s2,rv,by rw [ha.len ρ as e1]; exact hl,e2,fun us Hf2 H2 x2 hf2 hy2 hlen r2=>⟨rfl,?_⟩⟩
   have x3 : Ext Hf' H' Hf2 H2:=⟨x2.f,s3.trans x2.h,x2.s,fun l u q t=>x2.n l u (s3 l u q) t⟩
   exact kq _ _ H2 ((xx.trans x3).fix (xx.h.free ny) hf2 hy2) ⟨y,dx,us,rfl,zcg,hlen,r2.up (zc2 hf2)⟩
end
theorem zcr {F F' : List Sl -> Option Fl} {ρ ρ' : List Sl} {r : Option Fl} (h : F ρ = some (.nx ρ')) (h' : F' ρ' = r) : zai F F' ρ = r:=by
 unfold zai
 rw [h]
 exact h'
theorem zez {F F' : List Sl -> Option Fl} {ρ : List Sl} {d : D} (h : F ρ = some (.rt d)) : zai F F' ρ = some (.rt d):=by
 unfold zai
 rw [h]
 rfl
theorem zex {t : List Sl -> Option Bool} {F F' : List Sl -> Option Fl} {ρ : List Sl} {r : Option Fl} (h : t ρ = some true) (h' : F ρ = r) : za4 t F F' ρ = r:=by
 unfold za4
 rw [h]
 exact h'
theorem zc0 {t : List Sl -> Option Bool} {F F' : List Sl -> Option Fl} {ρ : List Sl} {r : Option Fl} (h : t ρ = some false) (h' : F' ρ = r) : za4 t F F' ρ = r:=by
 unfold za4
 rw [h]
 exact h'
theorem zuk {i : Nat} {f : List Sl -> Option D} {ρ : List Sl} {d : D} (h : f ρ = some d) : zbe i f ρ = some (.nx (ρ.set i (.im d))):=by
 unfold zbe
 rw [h]
 rfl
theorem z69 {i : Nat} {f : List Sl -> Option (List D)} {ρ : List Sl} {d : List D} (h : f ρ = some d) : zde i f ρ = some (.nx (ρ.set i (.own d))):=by
 unfold zde
 rw [h]
 rfl
theorem zcj {f : List Sl -> Option D} {ρ : List Sl} {d : D} (h : f ρ = some d) : zav f ρ = some (.rt d):=by
 unfold zav
 rw [h]
 rfl
theorem zca {n : Nat} {F : List Sl -> Option Fl} {ds : List D} {d : D} (h : F (zdt n ds) = some (.rt d)) : zbk n F ds = some d:=by
 unfold zbk
 rw [h]
 rfl
theorem zj6 {n : Nat} {F : List Sl -> Option Fl} {ds : List D} {d : List D} (h : F (zdt n ds) = some (.rtO d)) : zbk n F ds = some (.lst d):=by
 unfold zbk
 rw [h]
 rfl
theorem zau {m : List D -> Option D} {f : List Sl -> Option (List D)} {ρ : List Sl} {ds : List D} {d : D} (h : f ρ = some ds) (h' : m ds = some d) : zap m f ρ = some d:=by
 unfold zap
 rw [h]
 exact h'
theorem zo8 {α : Type} {h : D -> Option (Option D)} (f : α -> D) (p : α -> Bool) (q : α -> D) : ∀ (xs : List α),(∀ x ∈ xs,h (f x) = some (if p x then some (q x) else none)) -> zew h (xs.map f) = some ((xs.filter p).map q)
 | [],_=>rfl
 | x :: xs,hh=>by
  rw [List.map_cons]
  unfold zew
  rw [hh x List.mem_cons_self,zo8 f p q xs fun y hy=>hh y (List.mem_cons_of_mem _ hy)]
  cases hp : p x with
  | true=>rw [List.filter_cons_of_pos hp]; rfl
  | false=>rw [List.filter_cons_of_neg (by rw [hp]; exact Bool.false_ne_true)]; rfl
theorem z5d {α : Type} {h : D -> Option (Option D)} (f : α -> D) (q : α -> D) (xs : List α) (hh : ∀ x ∈ xs,h (f x) = some (some (q x))) : zew h (xs.map f) = some (xs.map q):=by
 have:=zo8 (h:=h) f (fun _=>true) q xs fun x hx=>(hh x hx).trans rfl
 rw [this,List.filter_eq_self.mpr fun _ _=>rfl]
theorem zd3 {α : Type} {k : Nat} {js : List Nat} {fi : List Sl -> Option (List D)} {g : D -> List Sl -> Option (List Sl)} {ft : List Sl -> Option Bool} {fe : List Sl -> Option D} {ρ : List Sl} (xs : List α) (f : α -> D) (p : α -> Bool) (q : α -> D)
  (hi : fi ρ = some (xs.map f)) (hz : xs.length <= 16777216) (hh : ∀ x ∈ xs,ze6 g ft fe (zdp k js ρ) (f x) = some (if p x then some (q x) else none)) : za6 k js fi g ft fe ρ = some ((xs.filter p).map q):=by
 unfold za6
 rw [hi]
 show (if (xs.map f).length <= 16777216 then _ else none) = _
 rw [List.length_map,if_pos hz]
 exact zo8 f p q xs hh
theorem zcs {α : Type} {k : Nat} {js : List Nat} {fi : List Sl -> Option (List D)} {g : D -> List Sl -> Option (List Sl)} {ft : List Sl -> Option Bool} {fe : List Sl -> Option D} {ρ : List Sl} (xs : List α) (f : α -> D) (q : α -> D)
  (hi : fi ρ = some (xs.map f)) (hz : xs.length <= 16777216) (hh : ∀ x ∈ xs,ze6 g ft fe (zdp k js ρ) (f x) = some (some (q x))) : za6 k js fi g ft fe ρ = some (xs.map q):=by
 unfold za6
 rw [hi]
 show (if (xs.map f).length <= 16777216 then _ else none) = _
 rw [List.length_map,if_pos hz]
 exact z5d f q xs hh
theorem zr8 {α : Type} {g : D -> List Sl -> Option (List Sl)} {F : List Sl -> Option Fl} (f : α -> D) (I : List α -> List Sl -> Prop) : ∀ (post pre : List α) (ρ : List Sl),I pre ρ ->
  (∀ pre' x post' ρ,pre ++ post = pre' ++ x :: post' -> I pre' ρ -> ∃ ρ1 ρ2,g (f x) ρ = some ρ1 /\ (F ρ1 = some (.nx ρ2) \/ F ρ1 = some (.ct ρ2)) /\ I (pre' ++ [x]) ρ2) -> ∃ ρ',zfg g F (post.map f) ρ = some (.nx ρ') /\ I (pre ++ post) ρ'
 | [],pre,ρ,h,_=>⟨ρ,rfl,by rw [List.append_nil]; exact h⟩
 | x :: post,pre,ρ,h,hs=>by
  obtain ⟨ρ1,ρ2,e1,e2,h2⟩:=hs pre x post ρ rfl h
  obtain ⟨ρ',e3,h3⟩:=zr8 f I post (pre ++ [x]) ρ2 h2 (by rw [List.append_assoc]; exact hs)
  refine ⟨ρ',?_,by rw [List.append_assoc] at h3; exact h3⟩
  rw [List.map_cons]
  unfold zfg
  rw [e1]
  show (F ρ1).bind _ = _
  rcases e2 with e2 | e2
  ·rw [e2]; exact e3
  ·rw [e2]; exact e3
theorem z7z {α : Type} {fi : List Sl -> Option (List D)} {g : D -> List Sl -> Option (List Sl)} {F : List Sl -> Option Fl} {ρ : List Sl} (xs : List α) (f : α -> D) (I : List α -> List Sl -> Prop) (hi : fi ρ = some (xs.map f)) (h0 : I [] ρ)
  (hs : ∀ pre x post ρ,xs = pre ++ x :: post -> I pre ρ -> ∃ ρ1 ρ2,g (f x) ρ = some ρ1 /\ (F ρ1 = some (.nx ρ2) \/ F ρ1 = some (.ct ρ2)) /\ I (pre ++ [x]) ρ2) : ∃ ρ',zc9 fi g F ρ = some (.nx ρ') /\ I xs ρ':=by
 unfold zc9
 rw [hi]
 exact zr8 f I xs [] ρ h0 hs
theorem zzb (lo : Int) (n : Nat) : rng lo n = (List.range n).map fun (i : Nat)=>D.int (lo + i):=rfl
theorem zva {ns : List Int} : zd5 [.lst (ns.map D.int)] = some (.int ns.sum):=by
 unfold zd5 lsD
 show (zet (ns.map D.int)).map _ = _
 rw [z0w]
 rfl
theorem zb4 {α : Type} {f : α -> D} {xs : List α} {i : Int} (h0 : 0 <= i) (h1 : i < xs.length) : ∃ x,xs[i.toNat]? = some x /\ atI (xs.map f) i = some (f x):=by
 have hl : i.toNat < xs.length:=by omega
 refine ⟨xs[i.toNat],by simp [hl],?_⟩
 have:=zxt (xs:=xs.map f) (j:=i.toNat) (v:=f xs[i.toNat]) (by simp [hl])
 rw [show ((i.toNat : Nat) : Int) = i by omega] at this
 exact this
theorem zu3 {α : Type} {f : α -> D} {xs : List α} {i : Int} (d : α) (h0 : 0 <= i) (h1 : i < xs.length) : atI (xs.map f) i = some (f (xs.getD i.toNat d)):=by
 obtain ⟨x,e1,e2⟩:=zb4 (f:=f) h0 h1
 rw [e2,List.getD_eq_getElem?_getD,e1]
 rfl
noncomputable def zc1 : Nat -> D -> Prop
 | 0,_=>False
 | n + 1,d=>match d with
  | .lst xs=>∀ x ∈ xs,zc1 n x
  | .tup xs=>∀ x ∈ xs,zc1 n x
  | d=>d.scalar = true
theorem zqz {f : D -> D -> Option Bool} : ∀ (xs : List D),(∀ x ∈ xs,f x x = some true) -> zcy f xs xs = some true
 | [],_=>rfl
 | x :: xs,h=>by
  unfold zcy
  rw [h x List.mem_cons_self,zqz xs fun y hy=>h y (List.mem_cons_of_mem _ hy)]
  rfl
theorem zqv : ∀ (n : Nat) (d : D),zc1 n d -> deq n d d = some true
 | 0,_,h=>h.elim
 | n + 1,d,h=>by
  show zm8 (deq n) d d = some true
  cases d with
  | lst xs =>
   show (if xs.length = xs.length then zcy (deq n) xs xs else some false) = _
   rw [if_pos rfl]
   exact zqz xs fun x hx=>zqv n x (h x hx)
  | tup xs =>
   show (if xs.length = xs.length then zcy (deq n) xs xs else none) = _
   rw [if_pos rfl]
   exact zqz xs fun x hx=>zqv n x (h x hx)
  | non=>rfl
  | bl b=>show some (b == b) = _; rw [beq_self_eq_true]
  | int b=>show some (b == b) = _; rw [beq_self_eq_true]
  | str b=>show some (b == b) = _; rw [beq_self_eq_true]
  | _=>cases h
theorem zc1.mono : ∀ (n : Nat) (d : D),zc1 n d -> zc1 (n + 1) d
 | 0,_,h=>h.elim
 | n + 1,d,h=>by
  cases d with
  | lst xs=>exact fun x hx=>zc1.mono n x (h x hx)
  | tup xs=>exact fun x hx=>zc1.mono n x (h x hx)
  | _=>exact h
theorem zc1.le {n m : Nat} {d : D} (h : zc1 n d) (hm : n <= m) : zc1 m d:=by
 induction hm with
 | refl=>exact h
 | step _ ih=>exact zc1.mono _ _ ih
theorem zsn {d : D} (h : zc1 20 d) : dEq d d = some (.bl true):=by
 unfold dEq
 rw [zqv 20 d h]
 rfl
theorem zdx (i j : Int) : dEq (.int i) (.int j) = some (.bl (i == j)):=rfl
theorem zmw (i j : Str) : dEq (.str i) (.str j) = some (.bl (i == j)):=rfl
theorem zs1 (i j : Int) : dNe (.int i) (.int j) = some (.bl (!(i == j))):=rfl
theorem z0s (i j : Bool) : dNe (.bl i) (.bl j) = some (.bl (!(i == j))):=rfl
theorem zar {m : D -> D -> Option D} {f g : List Sl -> Option D} {ρ : List Sl} {x y d : D} (h1 : f ρ = some x) (h2 : g ρ = some y) (h3 : m x y = some d) : m2 m f g ρ = some d:=by
 unfold m2
 rw [h1,h2]
 exact h3
theorem zb0 {f : List Sl -> Option D} {ρ : List Sl} {b : Bool} (h : f ρ = some (.bl b)) : mB f ρ = some b:=by
 unfold mB
 rw [h]
 rfl
theorem zdc {f : List Sl -> Option D} {ρ : List Sl} {d : D} {b : Bool} (h : f ρ = some d) (h' : zqa d = some b) : zcn f ρ = some b:=by
 unfold zcn
 rw [h]
 exact h'
theorem zfl {f : List Sl -> Option Bool} {ρ : List Sl} {b : Bool} (h : f ρ = some b) : zee f ρ = some (!b):=by
 unfold zee
 rw [h]
 rfl
theorem ziq {f g : List Sl -> Option Bool} {ρ : List Sl} {r : Option Bool} (h : f ρ = some true) (h' : g ρ = r) : zdj f g ρ = r:=by
 unfold zdj
 rw [h]
 exact h'
theorem zls {f g : List Sl -> Option Bool} {ρ : List Sl} (h : f ρ = some false) : zdj f g ρ = some false:=by
 unfold zdj
 rw [h]
 rfl
theorem zla {f g : List Sl -> Option Bool} {ρ : List Sl} (h : f ρ = some true) : mOr f g ρ = some true:=by
 unfold mOr
 rw [h]
 rfl
theorem zhd {f g : List Sl -> Option Bool} {ρ : List Sl} {r : Option Bool} (h : f ρ = some false) (h' : g ρ = r) : mOr f g ρ = r:=by
 unfold mOr
 rw [h]
 exact h'
theorem zh2 {f g : List Sl -> Option Bool} {ρ : List Sl} {a b : Bool} (h : f ρ = some a) (h' : g ρ = some b) : zdj f g ρ = some (a && b):=by
 cases a with
 | true=>exact ziq h h'
 | false=>exact zls h
theorem zml {f g : List Sl -> Option Bool} {ρ : List Sl} {a b : Bool} (h : f ρ = some a) (h' : g ρ = some b) : mOr f g ρ = some (a || b):=by
 cases a with
 | true=>exact zla h
 | false=>exact zhd h h'
theorem zhq {f g : List Sl -> Option D} {ρ : List Sl} {a b : Bool} (h : f ρ = some (.bl a)) (h' : g ρ = some (.bl b)) : zd2 f g ρ = some (.bl (a && b)):=by
 unfold zd2
 rw [zb0 h]
 cases a with
 | true=>exact h'
 | false=>rfl
theorem zol {f g : List Sl -> Option D} {ρ : List Sl} {a b : Bool} (h : f ρ = some (.bl a)) (h' : g ρ = some (.bl b)) : vOr f g ρ = some (.bl (a || b)):=by
 unfold vOr
 rw [zb0 h]
 cases a with
 | true=>rfl
 | false=>exact h'
theorem zgi {f : List Sl -> Option D} {ρ : List Sl} {a : Bool} (h : f ρ = some (.bl a)) : zfb f ρ = some (.bl (!a)):=by
 unfold zfb
 rw [zb0 h]
 rfl
theorem zad {f : List Sl -> Option D} {g : List Sl -> Option (List D)} {ρ : List Sl} {d : D} {ds : List D} (h : f ρ = some d) (h' : g ρ = some ds) : zab f g ρ = some (d :: ds):=by
 unfold zab
 rw [h,h']
 rfl
theorem zb7 {f : List Sl -> Option (List D)} {ρ : List Sl} {ds : List D} (h : f ρ = some ds) : zbn f ρ = some (.tup ds):=by
 unfold zbn
 rw [h]
 rfl
theorem zat {f : List Sl -> Option (List D)} {ρ : List Sl} {ds : List D} (h : f ρ = some ds) : zal f ρ = some (.lst ds):=by
 unfold zal
 rw [h]
 rfl
theorem zak {f : List Sl -> Option (List D)} {g : List Sl -> Option D} {ρ : List Sl} {ds : List D} {i : Int} {r : Option D} (h : f ρ = some ds) (h' : g ρ = some (.int i)) (h2 : atI ds i = r) : mIx f g ρ = r:=by
 unfold mIx
 rw [h,h']
 exact h2
theorem zmu {C : Int -> Int -> Prop} [∀ i j,Decidable (C i j)] {g : Int -> Int -> D} {i j : Int} (h : C i j) : dI C g (.int i) (.int j) = some (g i j):=by
 show (if C i j then some (g i j) else none) = _
 rw [if_pos h]
theorem zw1 {i : Nat} {f : List Sl -> Option D} {ρ : List Sl} {d : D} {xs : List D} (h : f ρ = some d) (h' : ρ[i]? = some (.own xs)) (hl : xs.length < 16777216) : ze8 i f ρ = some (.nx (ρ.set i (.own (xs ++ [d])))):=by
 unfold ze8
 rw [h]
 show (match ρ[i]? with | some (.own xs)=>if xs.length < 16777216 then some (Fl.nx (ρ.set i (.own (xs ++ [d])))) else none | _=>none) = _
 rw [h']
 show (if xs.length < 16777216 then _ else none) = _
 rw [if_pos hl]
theorem zdu {g : D -> List Sl -> Option (List Sl)} {ft : List Sl -> Option Bool} {fe : List Sl -> Option D} {ρ ρ1 : List Sl} {d y : D} {b : Bool} (h1 : g d ρ = some ρ1) (h2 : ft ρ1 = some b) (h3 : b = true -> fe ρ1 = some y) : ze6 g ft fe ρ d = some (if b then some y else none):=by
 unfold ze6
 rw [h1]
 show (ft ρ1).bind _ = _
 rw [h2]
 show (if b = true then (fe ρ1).map some else some none) = _
 cases b with
 | true=>rw [h3 rfl]; rfl
 | false=>rfl
theorem zcp {g : D -> List Sl -> Option (List Sl)} {ft : List Sl -> Option Bool} {fe : List Sl -> Option D} {ρ ρ1 : List Sl} {d y : D} (h1 : g d ρ = some ρ1) (h2 : ft ρ1 = some true) (h3 : fe ρ1 = some y) : ze6 g ft fe ρ d = some (some y):=zdu h1 h2 fun _=>h3
theorem zcq {f : List Sl -> Option D} {ρ : List Sl} {d : D} {ds : List D} (h : f ρ = some d) (h' : zhe d = some ds) : zbl f ρ = some ds:=by
 unfold zbl
 rw [h]
 exact h'
theorem zi0 {f g : List Sl -> Option D} {ρ : List Sl} {d : D} (h : f ρ = some d) : zd6 f g ρ = some d:=by
 unfold zd6
 rw [h]
 rfl
theorem zfp {f g : List Sl -> Option D} {ρ : List Sl} {r : Option D} (h : f ρ = none) (h' : g ρ = r) : zd6 f g ρ = r:=by
 unfold zd6
 rw [h]
 exact h'
theorem ze0 {f : List Sl -> Option (List D)} {ρ : List Sl} {n : Int} (h : f ρ = some [.int n]) (h0 : 0 <= n) (h1 : n < 2 ^ 62) : zdn f ρ = some ((List.range n.toNat).map fun (i : Nat)=>D.int i):=by
 unfold zdn
 rw [h]
 show (if -(2 ^ 62) <= n /\ n < 2 ^ 62 then some (rng 0 n.toNat) else none) = _
 rw [if_pos ⟨by omega,h1⟩,zzb]
 congr 1
 refine List.map_congr_left fun i _=>?_
 rw [Int.zero_add]
theorem zht {cn f : Str} {m : List D -> Option D} {fo : List Sl -> Option D} {fa : List Sl -> Option (List D)} {ρ : List Sl} {ns : List Str} {ds as : List D} (h : fo ρ = some (.ins cn ns ds)) (hn : ns.contains f = false) (h' : fa ρ = some as) : zdf cn f m fo fa ρ = m (.ins cn ns ds :: as):=by
 unfold zdf
 rw [h]
 show (if cn = cn /\ ns.contains f = false then (fa ρ).bind fun as=>m (.ins cn ns ds :: as) else none) = _
 rw [if_pos ⟨rfl,hn⟩,h']
 rfl
theorem zfm {cn f c' : Str} {m : List D -> Option D} {fo : List Sl -> Option D} {fa : List Sl -> Option (List D)} {ρ : List Sl} {ns : List Str} {ds : List D} (h : fo ρ = some (.ins c' ns ds)) (hn : c' ≠ cn) : zdf cn f m fo fa ρ = none:=by
 unfold zdf
 rw [h]
 show (if c' = cn /\ ns.contains f = false then (fa ρ).bind fun as=>m (.ins c' ns ds :: as) else none) = _
 rw [if_neg fun z=>hn z.1]
noncomputable def itD (z : Int × Int) : D:=.tup [.int z.1,.int z.2]
noncomputable def shD : Option Bool -> D
 | none=>.non
 | some b=>.bl b
noncomputable def InN (n : Nat) (its : List (Int × Int)) : Prop:=∀ z ∈ its,0 <= z.1 /\ z.1 < (n : Int) /\ 0 <= z.2
theorem zs8 (bs : List Int) : zc1 2 (.lst (bs.map D.int)):=fun x hx=>by
 obtain ⟨b,_,rfl⟩:=List.mem_map.mp hx
 exact rfl
theorem z16 (z : Int × Int) : zc1 2 (itD z):=fun x hx=>by
 simp only [List.mem_cons,List.not_mem_nil,or_false] at hx
 rcases hx with rfl | rfl <;> exact rfl
theorem zux (its : List (Int × Int)) : zc1 3 (.lst (its.map itD)):=fun x hx=>by
 obtain ⟨z,_,rfl⟩:=List.mem_map.mp hx
 exact z16 z
theorem zdb {es : List (Option Bool)} {i : Int} (h0 : 0 <= i) (h1 : i < es.length) : atI (es.map shD) i = some (shD (es.getD i.toNat none)):=zu3 none h0 h1
theorem zfr {es : List Bool} {i : Int} (h0 : 0 <= i) (h1 : i < es.length) : atI (es.map D.bl) i = some (.bl (es.getD i.toNat false)):=zu3 false h0 h1
theorem zen (e : Option Bool) (b : Bool) : dIs (shD e) (.bl b) = some (.bl (e == some b)):=by
 cases e with
 | none=>rfl
 | some c=>cases b <;> cases c <;> rfl
theorem zj5 (e : Option Bool) (b : Bool) : zdq (shD e) (.bl b) = some (.bl (!(e == some b))):=by
 cases e with
 | none=>rfl
 | some c=>cases b <;> cases c <;> rfl
noncomputable def Prt.toD : Prt -> D
 | .inn t=>.tup [.str "in",.int t]
 | .out t=>.tup [.str "out",.int t]
 | .least k its=>.tup [.str "least",.int k,.lst (its.map itD)]
 | .most k its=>.tup [.str "most",.int k,.lst (its.map itD)]
noncomputable def Prt.obj : Prt -> D
 | .inn t=>.ins "In" ["thing"] [.int t]
 | .out t=>.ins "Out" ["thing"] [.int t]
 | .least k its=>.ins "Least" ["bound","pieces"] [.int k,.lst (its.map itD)]
 | .most k its=>.ins "Most" ["bound","pieces"] [.int k,.lst (its.map itD)]
noncomputable def Prt.Ok (n : Nat) : Prt -> Prop
 | .inn t=>0 <= t /\ t < (n : Int)
 | .out t=>0 <= t /\ t < (n : Int)
 | .least _ its=>InN n its /\ its.length <= 100000
 | .most _ its=>InN n its /\ its.length <= 100000
theorem z8m (p : Prt) : zc1 4 p.toD:=by
 cases p with
 | inn t=>intro x hx; simp only [List.mem_cons,List.not_mem_nil,or_false] at hx; rcases hx with rfl | rfl <;> exact rfl
 | out t=>intro x hx; simp only [List.mem_cons,List.not_mem_nil,or_false] at hx; rcases hx with rfl | rfl <;> exact rfl
 | least k its =>
  intro x hx
  simp only [List.mem_cons,List.not_mem_nil,or_false] at hx
  rcases hx with rfl | rfl | rfl
  ·exact rfl
  ·exact rfl
  ·exact zux its
 | most k its =>
  intro x hx
  simp only [List.mem_cons,List.not_mem_nil,or_false] at hx
  rcases hx with rfl | rfl | rfl
  ·exact rfl
  ·exact rfl
  ·exact zux its
theorem z1k (p : Int -> Bool) (its : List (Int × Int)) : ((its.filter fun z=>p z.1).map fun z=>D.int z.2) = ((its.filter fun z=>p z.1).map (·.2)).map D.int:=by
 rw [List.map_map]
 rfl
theorem zh4 (p : Int -> Bool) (its : List (Int × Int)) : zd5 [.lst ((its.filter fun z=>p z.1).map fun z=>D.int z.2)] = some (.int (zf3 p its)):=by
 rw [z1k,zva]
 rfl
theorem zqg : ∀ {bs : List Bool} {us : List Value},za8 (bs.map V.bl) us -> us = bs.map Value.bool
 | [],_,.nil=>rfl
 | b :: bs,_,.cons r t=>by
  rw [zqg t]
  cases (show _ = Value.bool b from r)
  rfl
theorem z7p (bs : List Bool) : ((List.range bs.length).all fun i=>(bs[i]?).getD true) = bs.all id:=by
 rw [Bool.eq_iff_iff,List.all_eq_true,List.all_eq_true]
 constructor
 ·intro h b hb
  obtain ⟨i,hi,e⟩:=List.getElem_of_mem hb
  have:=h i (List.mem_range.mpr hi)
  simp only [List.getElem?_eq_getElem hi,Option.getD_some,e] at this
  exact this
 ·intro h i hi
  have hi':=List.mem_range.mp hi
  simp only [List.getElem?_eq_getElem hi',Option.getD_some]
  exact h _ (List.getElem_mem hi')
theorem z6v (bs : List Bool) : ((List.range bs.length).any fun i=>(bs[i]?).getD false) = bs.any id:=by
 rw [Bool.eq_iff_iff,List.any_eq_true,List.any_eq_true]
 constructor
 ·rintro ⟨i,hi,e⟩
  have hi':=List.mem_range.mp hi
  simp only [List.getElem?_eq_getElem hi',Option.getD_some] at e
  exact ⟨_,List.getElem_mem hi',e⟩
 ·rintro ⟨b,hb,e⟩
  obtain ⟨i,hi,rfl⟩:=List.getElem_of_mem hb
  exact ⟨i,List.mem_range.mpr hi,by simp only [List.getElem?_eq_getElem hi,Option.getD_some]; exact e⟩
section
variable {c : Str -> Addr} {X : Cx}
theorem zr7 {h h' : Heap} {o : Obj} (hk : ∀ b x,b ∉ [h.objs.size] -> (h.push o).get? b = some x -> h'.get? b = some x) : ∀ b x,h.get? b = some x -> h'.get? b = some x :=
 fun b x e=>hk b x (fun hm=>by rw [List.mem_singleton.mp hm] at e; exact Nat.lt_irrefl _ (Heap.lt_size e)) (Heap.get?_push_of_some _ e)
theorem z3s (hc : X.calm = true) : zga X (.builtin "all") (fun xs H Q=>∃ (p : Addr) (bs : List Bool),xs = [.ref p] /\ SqL X.K H p (bs.map V.bl) /\ Q (.bl (bs.all id)) H):=by
 intro pins s σ H xs us Q I r h
 obtain ⟨l,bs,rfl,hq,q⟩:=h
 obtain ⟨u,rfl,rx⟩:=zh0 r
 cases rx
 obtain ⟨its,r',pl,hz⟩:=I.list hq
 have e:=zqg r'
 subst e
 have hl:=pl.isList
 have hlt : l < s.heap.objs.size:=by obtain ⟨_,e,_⟩:=hl; exact Heap.lt_size e
 refine call_all_walk (wpAny_pyIter_list hl ?_)
 refine ⟨s.heap.objs.size,[s.heap.objs.size,l],[s.heap.objs.size],(bs.map Value.bool).toArray.size,_,_,fun i=>(bs[i]?).getD true,rfl,Walks.list (A:=X.A.in1) (I.ok.hd hc) _ l (Nat.ne_of_lt hlt) (bs.map Value.bool).toArray,
  ⟨⟨_,Heap.get?_push_size _ rfl,rfl,rfl⟩,hl.push _⟩,fun i v s' Q' E' hP hQ=>?_,fun h' tk hk=>?_⟩
 ·have hP' : (bs.map Value.bool)[i]? = some v:=by simpa using hP
  obtain ⟨b,e,rfl⟩:=zia hP'
  simp only [e,Option.getD_some] at hQ
  exact wpAny_truthy_bool hQ
 ·have e : ((List.range (bs.map Value.bool).toArray.size).all fun i=>(bs[i]?).getD true) = bs.all id:=by
   rw [List.size_toArray,List.length_map]; exact z7p bs
  rw [e]
  exact ⟨.bl (bs.all id),H,I.kept (zr7 hk),rfl,q⟩
theorem z6k (hc : X.calm = true) : zga X (.builtin "any") (fun xs H Q=>∃ (p : Addr) (bs : List Bool),xs = [.ref p] /\ SqL X.K H p (bs.map V.bl) /\ Q (.bl (bs.any id)) H):=by
 intro pins s σ H xs us Q I r h
 obtain ⟨l,bs,rfl,hq,q⟩:=h
 obtain ⟨u,rfl,rx⟩:=zh0 r
 cases rx
 obtain ⟨its,r',pl,hz⟩:=I.list hq
 have e:=zqg r'
 subst e
 have hl:=pl.isList
 have hlt : l < s.heap.objs.size:=by obtain ⟨_,e,_⟩:=hl; exact Heap.lt_size e
 refine call_any_walk (wpAny_pyIter_list hl ?_)
 refine ⟨s.heap.objs.size,[s.heap.objs.size,l],[s.heap.objs.size],(bs.map Value.bool).toArray.size,_,_,fun i=>(bs[i]?).getD false,rfl,Walks.list (A:=X.A.in1) (I.ok.hd hc) _ l (Nat.ne_of_lt hlt) (bs.map Value.bool).toArray,
  ⟨⟨_,Heap.get?_push_size _ rfl,rfl,rfl⟩,hl.push _⟩,fun i v s' Q' E' hP hQ=>?_,fun h' tk hk=>?_⟩
 ·have hP' : (bs.map Value.bool)[i]? = some v:=by simpa using hP
  obtain ⟨b,e,rfl⟩:=zia hP'
  simp only [e,Option.getD_some] at hQ
  exact wpAny_truthy_bool hQ
 ·have e : ((List.range (bs.map Value.bool).toArray.size).any fun i=>(bs[i]?).getD false) = bs.any id:=by
   rw [List.size_toArray,List.length_map]; exact z6v bs
  rw [e]
  exact ⟨.bl (bs.any id),H,I.kept (zr7 hk),rfl,q⟩
noncomputable def zem : List D -> Option (List Bool)
 | []=>some []
 | .bl b :: ds=>(zem ds).map fun r=>b :: r
 | _=>none
theorem zuc : ∀ {ds : List D} {bs : List Bool},zem ds = some bs -> ds = bs.map D.bl
 | [],_,e=>by cases e; rfl
 | .bl b :: ds,_,e=>by
  unfold zem at e
  cases es : zem ds with
  | none=>rw [es] at e; cases e
  | some r=>rw [es] at e; cases e; rw [zuc es]; rfl
 | .int _ :: _,_,e=>by cases e
 | .non :: _,_,e=>by cases e
 | .str _ :: _,_,e=>by cases e
 | .lst _ :: _,_,e=>by cases e
 | .tup _ :: _,_,e=>by cases e
 | .kl _ :: _,_,e=>by cases e
 | .kt _ :: _,_,e=>by cases e
 | .dic _ _ :: _,_,e=>by cases e
 | .ins _ _ _ :: _,_,e=>by cases e
theorem zmr (bs : List Bool) : zem (bs.map D.bl) = some bs:=by
 induction bs with
 | nil=>rfl
 | cons n ns ih=>rw [List.map_cons,zem,ih]; rfl
theorem zas.bls {G : Gc} {H : Hp} : ∀ {bs : List Bool} {vs : List V},zas G H (bs.map D.bl) vs -> vs = bs.map V.bl
 | [],_,h=>h
 | b :: bs,_,⟨v,r,e,h1,h2⟩=>by
  subst e
  rw [zas.bls h2,show v = V.bl b from h1]
  rfl
noncomputable def zfz : List D -> Option D
 | [d]=>(lsD d).bind fun ds=>(zem ds).map fun bs=>.bl (bs.all id)
 | _=>none
noncomputable def zfd : List D -> Option D
 | [d]=>(lsD d).bind fun ds=>(zem ds).map fun bs=>.bl (bs.any id)
 | _=>none
theorem znh {f : List Bool -> D} {ds : List D} {d : D} (e : (match ds with | [d]=>(lsD d).bind fun ds=>(zem ds).map f | _=>none) = some d) : ∃ d0 xs bs,ds = [d0] /\ lsD d0 = some xs /\ xs = bs.map D.bl /\ d = f bs:=by
 split at e
 ·rename_i d0
  cases e1 : lsD d0 with
  | none=>rw [e1] at e; cases e
  | some xs =>
   rw [e1] at e
   replace e : (zem xs).map f = some d:=e
   cases e2 : zem xs with
   | none=>rw [e2] at e; cases e
   | some bs=>rw [e2] at e; cases e; exact ⟨d0,xs,bs,rfl,e1,zuc e2,rfl⟩
 ·cases e
theorem zle (hc : X.calm = true) : zlo c X (.builtin "all") zfz:=by
 rintro pins s σ H vs us Q I rv ⟨Hf,ds,d,s0,r,e,k⟩
 obtain ⟨d0,xs,bs,rfl,e1,rfl,rfl⟩:=znh e
 obtain ⟨v,ev,r1⟩:=r.one
 subst ev
 obtain ⟨a,ws,ea,q,rs⟩:=zgt e1 r1
 subst ea
 refine z3s hc pins s σ H _ us Q I rv ⟨a,bs,rfl,?_,k _ Hf H (Ext.refl s0) rfl⟩
 rw [<- rs.bls]
 exact s0.seq q
theorem zhm (hc : X.calm = true) : zlo c X (.builtin "any") zfd:=by
 rintro pins s σ H vs us Q I rv ⟨Hf,ds,d,s0,r,e,k⟩
 obtain ⟨d0,xs,bs,rfl,e1,rfl,rfl⟩:=znh e
 obtain ⟨v,ev,r1⟩:=r.one
 subst ev
 obtain ⟨a,ws,ea,q,rs⟩:=zgt e1 r1
 subst ea
 refine z6k hc pins s σ H _ us Q I rv ⟨a,bs,rfl,?_,k _ Hf H (Ext.refl s0) rfl⟩
 rw [<- rs.bls]
 exact s0.seq q
theorem zme : ∀ ds d,zfz ds = some d -> d.scalar = true:=fun ds d e=>by
 obtain ⟨d0,xs,bs,rfl,e1,rfl,rfl⟩:=znh e
 rfl
theorem zhx : ∀ ds d,zfd ds = some d -> d.scalar = true:=fun ds d e=>by
 obtain ⟨d0,xs,bs,rfl,e1,rfl,rfl⟩:=znh e
 rfl
theorem z1r (bs : List Bool) : zfz [.lst (bs.map D.bl)] = some (.bl (bs.all id)):=by
 show (zem (bs.map D.bl)).map _ = _
 rw [zmr]
 rfl
theorem z1m (bs : List Bool) : zfd [.lst (bs.map D.bl)] = some (.bl (bs.any id)):=by
 show (zem (bs.map D.bl)).map _ = _
 rw [zmr]
 rfl
end
inductive Wrd where
 | make | may | never
 deriving DecidableEq
noncomputable def Wrd.s : Wrd -> Str
 | .make=>"make"
 | .may=>"may"
 | .never=>"never"
structure Rul where
 w : Wrd
 hd : Int
 ps : List Prt
noncomputable def Rul.hdD (r : Rul) : D:=match r.w with
 | .never=>.non
 | _=>.int r.hd
noncomputable def Rul.toD (r : Rul) : D:=.tup [.str r.w.s,r.hdD,.lst (r.ps.map Prt.toD)]
structure Rul.Ok (n : Nat) (r : Rul) : Prop where
 hd : r.w ≠ .never -> 0 <= r.hd /\ r.hd < (n : Int)
 ps : ∀ p ∈ r.ps,p.Ok n
 len : r.ps.length <= 100000
theorem z8w (r : Rul) : zc1 6 r.toD:=by
 intro x hx
 simp only [List.mem_cons,List.not_mem_nil,or_false] at hx
 rcases hx with rfl | rfl | rfl
 ·exact rfl
 ·unfold Rul.hdD
  cases r.w <;> exact rfl
 ·intro x hx
  obtain ⟨p,_,rfl⟩:=List.mem_map.mp hx
  exact z8m p
noncomputable def Rul.bodySure (r : Rul) (es : List (Option Bool)) : Bool:=r.ps.all fun p=>p.sure es
noncomputable def Rul.bodyLost (r : Rul) (es : List (Option Bool)) (ws : List Bool) : Bool:=r.ps.any fun p=>p.lost es ws
noncomputable def Rul.surely (r : Rul) (es : List (Option Bool)) : Bool:=match r.w with
 | .may=>false
 | .make=>(es.getD r.hd.toNat none == some false) && r.bodySure es
 | .never=>r.bodySure es
theorem zsh {α : Type} (f : α -> Bool) (xs : List α) : (xs.map fun x=>D.bl (f x)) = (xs.map f).map D.bl:=by
 rw [List.map_map]
 rfl
theorem all_map (f : Prt -> Bool) (xs : List Prt) : zfz [.lst (xs.map fun x=>D.bl (f x))] = some (.bl (xs.all f)):=by
 rw [zsh,z1r,List.all_map]
 rfl
theorem any_map (f : Prt -> Bool) (xs : List Prt) : zfd [.lst (xs.map fun x=>D.bl (f x))] = some (.bl (xs.any f)):=by
 rw [zsh,z1m,List.any_map]
 rfl
theorem z8e {l : List Bool} {i : Nat} (h : i < l.length) : (bs l).getD i none = some (l.getD i false):=by
 unfold bs
 rw [List.getD_eq_getElem?_getD,List.getD_eq_getElem?_getD,List.getElem?_map]
 simp [h]
noncomputable def Ite (K : PySem.W.Frag) (l : Addr) : It :=
  ⟨fun i H => ∃ xs x, SqL K H l xs /\ xs[i]? = some x,
   fun i H v H' => ∃ p x, v = .ref p /\ H p = none /\ H' = upd H p (.tup [.int i, x]) /\ (∀ xs, SqL K H l xs -> xs[i]? = some x),
   fun i H => ∃ xs, SqL K H l xs /\ xs.length <= i⟩
theorem z3v {P : Program} {w : World} {K : PySem.W.Frag} {elts : List Expr} {kx : Nat} {pos : Pos} (e it l : Addr) (ne : e ≠ it) :
  zid P w K (.Tuple elts kx pos) (Ite K l) [e,it] e (fun i h=>(∃ old,IsEnum h e it (i : Int) old) /\ h.IsListIter it l i) where
 mem:=by simp
 obj:=fun i h st b hb=>by
  obtain ⟨⟨old,he⟩,⟨o1,e1,_,d1⟩⟩:=st
  simp only [List.mem_cons,List.not_mem_nil,or_false] at hb
  rcases hb with rfl | rfl
  ·exact ⟨_,he,fun v q=>by cases q⟩
  ·exact ⟨o1,e1,fun v q=>by rw [d1] at q; cases q⟩
 keep:=fun i h h' st k=>by
  obtain ⟨⟨old,he⟩,h1⟩:=st
  exact ⟨⟨old,k e (by simp) _ he⟩,h1.at fun o q=>k it (by simp) o q⟩
 item:=by
  intro X hP hw hK hc i pins s σ H E I hf st hg
  subst hP hw hK
  obtain ⟨⟨old,he⟩,h1⟩:=st
  obtain ⟨xs,x,q1,hx⟩:=hg
  obtain ⟨its1,r1,p1,z1⟩:=I.list q1
  obtain ⟨u1,e1,ru1⟩:=r1.get hx
  refine wpAny_pyNext_enum_item he h1 p1.isList (x:=u1) (by simpa using e1) ne fun h' a1 a3 a5 a6 a7=>⟨_,rfl,?_⟩
  refine wpAny_letOwnedTupleGo_enum (s:={ s with heap:=h',toks:=s.toks + 1 }) a1 fun h'' b1 b2=>?_
  have lt : ∀ b ∈ [e,it],b < s.heap.objs.size:=fun b hb=>by
   simp only [List.mem_cons,List.not_mem_nil,or_false] at hb
   rcases hb with rfl | rfl
   ·exact Heap.lt_size he
   ·obtain ⟨o,e,_⟩:=h1; exact Heap.lt_size e
  have kk : ∀ b o,b ∉ [e,it] -> s.heap.get? b = some o -> h''.get? b = some o:=fun b o hb e=>by
   simp only [List.mem_cons,List.not_mem_nil,or_false,not_or] at hb
   obtain ⟨n1,n2⟩:=hb
   exact (b2.2 b n1).trans (a7 b o n1 n2 e)
  have fr : H s.heap.objs.size = none:=I.hok.fresh (Nat.le_refl _)
  have I1 : Inv X pins σ H { s with heap:=h'',toks:=s.toks + 1 }:=I.turnedMany (t':=s.toks + 1) kk hf
  have hp : h''.get? s.heap.objs.size = some { cls:=.type "tuple",data:=.seq #[.int i s.toks,u1] }:=(b2.2 _ (Nat.ne_of_gt (lt e (by simp)))).trans a5
  have I2 : Inv X pins σ (upd H s.heap.objs.size (.tup [.int i,x])) { s with heap:=h'',toks:=s.toks + 1 } :=
   I1.track (I.fpOk (Nat.le_refl _) fr) ⟨(by show 2 <= sizeLine; decide),[.int i s.toks,u1],.cons ⟨s.toks,rfl⟩ (.cons ru1 .nil),⟨_,hp,rfl,_,rfl⟩⟩
  refine ⟨.ref s.heap.objs.size,_,I2,rfl,⟨_,x,rfl,fr,rfl,fun xs' h=>by rw [I.list_inj h q1]; exact hx⟩,⟨⟨u1,?_⟩,?_⟩,fun b hb=>?_⟩
  ·have : ((i + 1 : Nat) : Int) = (i : Int) + 1:=by push_cast; rfl
   rw [this]; exact b1
  ·exact a3.at fun o q=>(b2.2 it (Ne.symm ne)).trans q
  ·rw [zb1 (Nat.ne_of_lt (lt b hb))]
   exact (hf b hb).1
 done:=by
  intro X hP hw hK hc i pins s σ H E I hf st hg
  subst hP hw hK
  obtain ⟨⟨old,he⟩,h1⟩:=st
  obtain ⟨xs,q1,hend⟩:=hg
  obtain ⟨its1,r1,p1,z1⟩:=I.list q1
  have l1':=r1.length
  refine wpAny_pyNext_enum_end (I.ok.hd hc) he h1 p1.isList (by simp; omega) fun h' kk=>⟨rfl,I.turnedMany (t':=s.toks) (ch:=[e,it]) (fun b o hb q=>?_) hf⟩
  simp only [List.mem_cons,List.not_mem_nil,or_false,not_or] at hb
  exact kk b o hb.2 q
 self:=fun _ _ _ _ _ st h=>by obtain ⟨⟨old,he⟩,_⟩:=st; exact wpAny_pyIter_enum he h
section
variable {X : Cx} {elts : List Expr} {kx : Nat} {tpos : Pos}
noncomputable def zzk (K : PySem.W.Frag) (ta : TA) : TI:=fun σ H R=>ta σ H fun vs H1=>∃ l,vs = [.ref l] /\ (∃ xs,SqL K H1 l xs) /\ R (Ite K l) H1
theorem zxb {a : Expr} {ta : TA} {p pos : Pos} (hg : Gl X "enumerate") (hm : X.mg "enumerate" = none) (ha : PA X [a] ta) (hs : starEach [a] X.env = [(false,eval a X.env)]:=by rfl) :
  PI X (.Tuple elts kx tpos) (.Call (.Name "enumerate" p) [a] [] pos) (zzk X.K ta):=by
 intro pins s σ H R I h
 refine Call_ (zg9 I hg hm boot_enumerate (PyProof.Rows.callWith_type1 (thn (ha pos pins s σ H _ I h) fun us s1 ⟨vs,H1,I1,r1,q1⟩=>?_) (by rw [hs]; rfl) (by rfl)))
 obtain ⟨l,e,⟨xs,h1⟩,q⟩:=q1
 subst e
 obtain ⟨u,rfl,ru⟩:=zh0 r1
 cases ru
 obtain ⟨its1,r1,p1,z1⟩:=I1.list h1
 refine call_enumerate_list p1.isList fun h' a1 a4 a6 a7=>?_
 refine wpAny_pyIter_enum a1 ?_
 have I2 : Inv X pins σ H1 { s1 with heap:=h' }:=I1.kept (t':=s1.toks) a7
 refine ⟨_,[s1.heap.objs.size + 1,s1.heap.objs.size],_,_,H1,rfl,I2,z3v _ _ _ (Nat.succ_ne_self _),⟨⟨_,a1⟩,a4⟩,fun b hb=>?_,q⟩
 simp only [List.mem_cons,List.not_mem_nil,or_false] at hb
 have hle : s1.heap.objs.size <= b:=by
  rcases hb with rfl | rfl
  ·exact Nat.le_add_right _ _
  ·exact Nat.le_refl _
 exact I1.fpOk hle (I1.hok.fresh hle)
end
noncomputable def zgj : Nat -> List D -> List D
 | _,[]=>[]
 | i,x :: xs=>.tup [.int i,x] :: zgj (i + 1) xs
theorem zrn : ∀ (i : Nat) (xs : List D),(zgj i xs).length = xs.length
 | _,[]=>rfl
 | i,x :: xs=>by rw [zgj,List.length_cons,List.length_cons,zrn]
theorem zlu : ∀ (k : Nat) (xs : List D) (i : Nat),(zgj k xs)[i]? = (xs[i]?).map fun x=>.tup [.int (k + i : Nat),x]
 | _,[],_=>rfl
 | k,x :: xs,0=>rfl
 | k,x :: xs,i + 1=>by rw [zgj,List.getElem?_cons_succ,List.getElem?_cons_succ,zlu (k + 1) xs i,show k + 1 + i = k + (i + 1) by omega]
noncomputable def zrj : List D -> Option (List D)
 | [x]=>(lsD x).map (zgj 0)
 | _=>none
noncomputable def zfi (f : List Sl -> Option (List D)) (ρ : List Sl) : Option (List D):=(f ρ).bind zrj
section
variable {c : Str -> Addr} {X : Cx} {a : Expr} {pos p : Pos}
theorem zit {f : List Sl -> Option (List D)} {elts : List Expr} {kx : Nat} {tpos : Pos} (hg : Gl X "enumerate") (hm : X.mg "enumerate" = none) (ha : DA c X [a] f) (hs : starEach [a] X.env = [(false,eval a X.env)]:=by rfl) :
  DI c X (.Tuple elts kx tpos) (.Call (.Name "enumerate" p) [a] [] pos) (zfi f) :=
 PI.imp (zxb hg hm ha.pa hs) fun σ H R q_=>by
  obtain ⟨Hf0,H0,Hf,ρ,ds,st,ef,k⟩:=q_
  unfold zfi at ef
  cases e1 : f ρ with
  | none=>rw [e1] at ef; cases ef
  | some as =>
   rw [e1] at ef
   replace ef : zrj as = some ds:=ef
   refine ⟨Hf0,H0,Hf,ρ,as,st,e1,fun vs Hf' H' x r=>?_⟩
   unfold zrj at ef
   split at ef
   ·rename_i dx
    cases ex : lsD dx with
    | none=>rw [ex] at ef; cases ef
    | some xs =>
     rw [ex] at ef
     cases ef
     obtain ⟨v,ev,rv⟩:=r.one
     obtain ⟨l1,w1,el1,q1,r1⟩:=zgt ex rv
     subst el1
     refine ⟨l1,ev,⟨w1,x.s.seq q1⟩,k _ Hf' H' x fun Hf2 H2 f2 s2 i=>?_⟩
     have g1 : SqL X.K H2 l1 w1:=(f2.trans s2).seq q1
     have h1:=r1.length
     refine ⟨fun d ed=>?_,fun ei=>⟨w1,g1,by rw [zrn] at ei; omega⟩⟩
     rw [zlu] at ed
     cases hx : xs[i]? with
     | none=>rw [hx] at ed; cases ed
     | some x' =>
      rw [hx] at ed
      cases ed
      obtain ⟨u1,eu1,ru1⟩:=r1.get hx
      refine ⟨⟨w1,u1,g1,eu1⟩,fun z H3 ⟨pp,z1,ez,hp,eh,y1⟩=>?_⟩
      subst ez eh
      have a1:=y1 w1 g1
      rw [eu1] at a1; cases a1
      exact ⟨upd Hf2 pp (.tup [.int i,u1]),Ext.new s2 hp,pp,[.int i,u1],rfl,zcg,.cons (by rw [Nat.zero_add]; rfl) (.cons (ru1.up (f2.trans (zc2 (s2.free hp)))) .nil)⟩
   ·cases ef
end
noncomputable def zkz : D -> Option Key
 | .int i=>some (.inl i)
 | .str x=>some (.inr x)
 | _=>none
theorem zwh {G : Gc} {H : Hp} {d : D} {v : V} {k : Key} (e : zkz d = some k) (r : Rep G H d v) : v = kV k:=by
 cases d <;> first | (cases e; done) | (cases e; exact r)
noncomputable def zel (ks : List Key) (k : Key) : Bool:=ks.any fun j=>decide (j = k)
noncomputable def zff {α : Type} (ks : List Key) (xs : List α) (k : Key) (x : α) : List α:=if zel ks k = true then List.zipWith (fun j y=>if j = k then x else y) ks xs else xs ++ [x]
noncomputable def ze5 (ks : List Key) (k : Key) : List Key:=if zel ks k = true then ks else ks ++ [k]
theorem zv7 {ks : List Key} {k : Key} {v : V} : ∀ {ks : List Key} {vs : List V},(ks.zip vs).map (fun kv=>if kv.1 = k then (kv.1,v) else kv) = ks.zip (List.zipWith (fun j y=>if j = k then v else y) ks vs)
 | [],_=>rfl
 | _ :: _,[]=>rfl
 | j :: ks,y :: vs=>by
  rw [List.zip_cons_cons,List.map_cons,List.zipWith_cons_cons,List.zip_cons_cons,zv7 (ks:=ks)]
  by_cases h : j = k
  ·subst h; simp
  ·simp [h]
theorem zqe {k : Key} : ∀ {ks : List Key} {vs : List V},ks.length = vs.length -> ((ks.zip vs).any fun kv=>decide (kv.1 = k)) = zel ks k
 | [],[],_=>rfl
 | [],_ :: _,h=>by cases h
 | _ :: _,[],h=>by cases h
 | j :: ks,y :: vs,h=>by
  unfold zel
  rw [List.zip_cons_cons,List.any_cons,List.any_cons,zqe (by simpa using h)]
  rfl
theorem zzp {ks : List Key} {vs : List V} {k : Key} {v : V} (h : ks.length = vs.length) : zd9 (ks.zip vs) k v = (ze5 ks k).zip (zff ks vs k v):=by
 unfold zd9 ze5 zff
 rw [zqe h]
 by_cases e : zel ks k = true
 ·rw [if_pos e,if_pos e,if_pos e,zv7 (ks:=ks)]
 ·rw [if_neg e,if_neg e,if_neg e,List.zip_append h]; rfl
theorem z8v {α : Type} {ks : List Key} {vs : List α} {k : Key} {v : α} (h : ks.length = vs.length) : (ze5 ks k).length = (zff ks vs k v).length:=by
 unfold ze5 zff
 by_cases e : zel ks k = true
 ·rw [if_pos e,if_pos e,List.length_zipWith]; omega
 ·rw [if_neg e,if_neg e,List.length_append,List.length_append,h]; rfl
theorem zas.zipW {G : Gc} {H : Hp} {k : Key} {d : D} {v : V} (q : Rep G H d v) : ∀ {ks : List Key} {ds : List D} {vs : List V},zas G H ds vs -> zas G H (List.zipWith (fun j y=>if j = k then d else y) ks ds) (List.zipWith (fun j y=>if j = k then v else y) ks vs)
 | [],_,_,_=>.nil
 | _ :: _,[],_,h=>by cases (show _ = [] from h); exact .nil
 | j :: ks,x :: ds,_,⟨u,r,e,h1,h2⟩=>by
  subst e
  rw [List.zipWith_cons_cons,List.zipWith_cons_cons]
  refine .cons ?_ (zas.zipW q h2)
  by_cases e : j = k
  ·rw [if_pos e,if_pos e]; exact q
  ·rw [if_neg e,if_neg e]; exact h1
theorem zas.put {G : Gc} {H : Hp} {k : Key} {ks : List Key} {d : D} {v : V} {ds : List D} {vs : List V} (r : zas G H ds vs) (q : Rep G H d v) : zas G H (zff ks ds k d) (zff ks vs k v):=by
 unfold zff
 by_cases e : zel ks k = true
 ·rw [if_pos e,if_pos e]; exact r.zipW q
 ·rw [if_neg e,if_neg e]; exact r.append (.cons q .nil)
noncomputable def zpj (i : Nat) (ρ : List Sl) : Option Fl:=some (.nx (ρ.set i (.ownd [] [])))
noncomputable def zix (i : Nat) (fk fv : List Sl -> Option D) (ρ : List Sl) : Option Fl:=(fv ρ).bind fun d=>(fk ρ).bind fun x=>(zkz x).bind fun k=>match ρ[i]? with
 | some (.ownd ks xs)=>if ks.length < 16777216 then some (.nx (ρ.set i (.ownd (ze5 ks k) (zff ks xs k d)))) else none
 | _=>none
noncomputable def zpu (x y : D) : Option D:=(zkz x).bind fun k=>match y with
 | .dic ks _=>some (.bl (zel ks k))
 | _=>none
section
variable {c : Str -> Addr} {X : Cx} {st : Stmt} {e a b i' value : Expr} {pos pos' p' : Pos}
theorem z63 {i : Nat} (hp : PS X st (ziu zvw (zhi i))) : DS c X st (zpj i):=PS.imp hp fun E σ H q_=>by
 obtain ⟨Hf0,H0,Hf,ρ,o,so,ef,k⟩:=q_
 cases ef
 intro q hq
 have x : Ext Hf H Hf (upd H q (.dK [])):=Ext.tmp so.sub hq
 exact k _ Hf _ x.f (so.setOwn (s:=.ownd [] []) rfl x hq (so.sub.free hq) ⟨[],zcg,rfl,.nil⟩)
theorem z4m (i : Nat) {x : Str} (hN : X.N.Nodup) (hi : X.N[i]? = some x:=by rfl) (hx : Loc X.env.scope x:=by first | exact Or.inl rfl | exact Or.inr rfl) (hs : swapsWith (.Dict [] [] pos) (some (.Name x pos')) p'.line X.env = pure false:=by rfl) (hf : X.fn x = true \/ X.env.scope.names.lookup x = some .local:=by first | exact .inl rfl | exact .inr rfl) :
  DS c X (.Assign [.Name x pos'] (.Dict [] [] pos) p') (zpj i):=z63 (zoe hN hi hx z6l hs hf)
theorem z55 {i : Nat} {fk fv : List Sl -> Option D} (hp : PS X st (zs9 (zeh i) (tD (Gx c X) fk) (tD (Gx c X) fv))) : DS c X st (zix i fk fv):=PS.imp hp fun E σ H q_=>by
 obtain ⟨Hf0,H0,Hf,ρ,o,so,ef,k⟩:=q_
 unfold zix at ef
 cases e1 : fv ρ with
 | none=>rw [e1] at ef; cases ef
 | some d =>
  rw [e1] at ef
  cases e2 : fk ρ with
  | none=>rw [e2] at ef; cases ef
  | some x =>
   rw [e2] at ef
   cases e3 : zkz x with
   | none=>rw [Option.bind_some,Option.bind_some,e3] at ef; cases ef
   | some ky =>
    rw [Option.bind_some,Option.bind_some,e3] at ef
    replace ef : (match ρ[i]? with | some (.ownd ks xs)=>if ks.length < 16777216 then some (Fl.nx (ρ.set i (.ownd (ze5 ks ky) (zff ks xs ky d)))) else none | _=>none) = some o:=ef
    split at ef
    ·rename_i ks xs es
     split at ef
     ·rename_i hl
      cases ef
      refine ⟨Hf0,H0,Hf,ρ,d,so,e1,fun v Hf1 H1 x1 r1=>?_⟩
      have so1:=so.step x1
      obtain ⟨l,el,h0,hf,vs,q,z,r⟩:=so1.ownAt rfl es
      refine ⟨_,el,Hf0,H0,Hf1,ρ,x,so1,e2,fun y Hf2 H2 x2 r2=>?_⟩
      have so2:=so1.step x2
      have q2:=x2.h _ _ q
      have ey:=zwh e3 r2
      subst ey
      refine ⟨l,_,rfl,zlf.k q2 (by rw [sizeLine_eq,List.length_zip]; omega),?_⟩
      refine k σ Hf2 _ (x1.f.trans x2.f) (so2.mutd (s:=.ownd ks xs) (s':=.ownd (ze5 ks ky) (zff ks xs ky d)) rfl rfl es el ⟨zff ks vs ky v,?_,z8v z,(r.up x2.f).put (r1.up x2.f)⟩)
      rw [zcg,zzp z]
     ·cases ef
    ·cases ef
theorem zy7 (hu : X.A.units + 64 < cLine) {i : Nat} {fk fv : List Sl -> Option D} (ho : PE X e (zeh i)) (hk : DE c X i' fk) (hv : DE c X value fv) (hs : swapsWith value (some (.Subscript e i' pos')) pos.line X.env = pure false:=by rfl) :
  DS c X (.Assign [.Subscript e i' pos'] value pos) (zix i fk fv):=z55 (z4j (by omega) ho hk hv hs)
theorem zzu {k : Key} : ∀ {ks : List Key} {vs : List V},ks.length = vs.length -> (zek (ks.zip vs) k).isSome = zel ks k:=fun {ks vs} h=>by
 rw [<- zpr,zqe h]
theorem z8c (hu : X.A.units + 64 < cLine) {f g : List Sl -> Option D} (ha : DE c X a f) (hb : DE c X b g) (hm : behindInMarks .In b = false:=by first | exact nobehind _ (by decide) (by decide) | rfl) : DE c X (.Compare a [.In] [b] pos) (m2 zpu f g) :=
 PE.imp (zwx (z8a (by omega) ha hb) hm) fun σ H Q q_=>by
  obtain ⟨Hf0,H0,Hf,ρ,d,st,ef,k⟩:=q_
  obtain ⟨x,y,e1,e2,e3⟩:=zrq ef
  refine ⟨Hf0,H0,Hf,ρ,x,st,e1,fun v Hf1 H1 x1 r1=>⟨Hf0,H0,Hf1,ρ,y,st.step x1,e2,fun u Hf2 H2 x2 r2=>?_⟩⟩
  unfold zpu at e3
  cases ek : zkz x with
  | none=>rw [ek] at e3; cases e3
  | some ky =>
   rw [ek] at e3
   cases y with
   | dic ks xs =>
    cases e3
    obtain ⟨l,vs,el,q,z,r⟩:=r2
    have ev:=zwh ek r1
    subst ev el
    refine ⟨l,_,rfl,zfu.k (x2.s _ _ q),k _ Hf2 H2 (x1.trans x2) ?_⟩
    rw [zzu z]
    rfl
   | _=>cases e3
end
noncomputable def zfc (i : Nat) (fk fv : List Sl -> Option D) (ρ : List Sl) : Option Fl:=(fv ρ).bind fun d=>(fk ρ).bind fun x=>match x with
 | .int k=>(match ρ[i]? with
  | some (.own xs)=>(ixN xs.length k).map fun j=>.nx (ρ.set i (.own (xs.set j d)))
  | _=>none)
 | _=>none
section
variable {c : Str -> Addr} {X : Cx} {st : Stmt} {e a b i' value : Expr} {pos pos' : Pos}
theorem zyl {i : Nat} {fk fv : List Sl -> Option D} (hp : PS X st (ziu (tD (Gx c X) fv) (zvu (zeh i) (tD (Gx c X) fk) ztz))) : DS c X st (zfc i fk fv):=PS.imp hp fun E σ H q_=>by
 obtain ⟨Hf0,H0,Hf,ρ,o,so,ef,k⟩:=q_
 unfold zfc at ef
 cases e1 : fv ρ with
 | none=>rw [e1] at ef; cases ef
 | some d =>
  rw [e1] at ef
  cases e2 : fk ρ with
  | none=>rw [e2] at ef; cases ef
  | some x =>
   rw [e2] at ef
   obtain ⟨ky,rfl⟩ : ∃ ky,x = .int ky:=by cases x <;> first | exact ⟨_,rfl⟩ | cases ef
   replace ef : (match ρ[i]? with | some (.own xs)=>(ixN xs.length ky).map fun j=>Fl.nx (ρ.set i (.own (xs.set j d))) | _=>none) = some o:=ef
   split at ef
   ·rename_i xs es
    cases ej : ixN xs.length ky with
    | none=>rw [ej] at ef; cases ef
    | some j =>
     rw [ej] at ef
     cases ef
     refine ⟨Hf0,H0,Hf,ρ,d,so,e1,fun v Hf1 H1 x1 r1=>?_⟩
     have so1:=so.step x1
     obtain ⟨l,el,h0,hf,vs,q,r⟩:=so1.ownAt rfl es
     refine ⟨_,el,Hf0,H0,Hf1,ρ,.int ky,so1,e2,fun y Hf2 H2 x2 r2=>?_⟩
     have so2:=so1.step x2
     have q2:=x2.h _ _ q
     refine ⟨l,vs,ky,j,rfl,r2,q2,by rw [<- r.length]; exact ej,?_⟩
     exact k σ Hf2 _ (x1.f.trans x2.f) (so2.mutd (s:=.own xs) (s':=.own (xs.set j d)) rfl rfl es el ⟨vs.set j v,zcg,(r.up x2.f).set j (r1.up x2.f)⟩)
   ·cases ef
theorem zij {i : Nat} {fk fv : List Sl -> Option D} (ho : PE X e (zeh i)) (hk : DE c X i' fk) (hv : DE c X value fv) (hs : swapsWithSole [.Subscript e i' pos'] value pos.line X.env = pure false:=by rfl) (hw : swappedStores [.Subscript e i' pos'] value X.env = pure none:=by rfl)
  (h1 : (assignEach [.Subscript e i' pos'] X.env).map (·.2) = [assign (.Subscript e i' pos') X.env]:=by rfl)
  (ha : ∀ v,assign (.Subscript e i' pos') X.env v = (do
   let ov <- holding [v] (eval e X.env)
   let iv <- holding [v,ov] (eval i' X.env)
   standAt pos'
   holding [v,ov,iv] (setItem ov iv v)
   release [v,ov,iv] []):=by intro _; rfl) :
  DS c X (.Assign [.Subscript e i' pos'] value pos) (zfc i fk fv):=zyl (zup hv (z38 ho hk z5s ha) hs hw h1)
end
section
variable {c : Str -> Addr} {X : Cx}
open Classical in
end
noncomputable def Ris (xs : Array Nat) : Prop:=xs.toList.Pairwise (· < ·)
theorem zx6 {xs : Array Nat} (h : Ris xs) {a b j : Nat} (hab : a < b) (hb : b < xs.size) : xs.getD a j < xs.getD b j:=by
 have h1:=List.pairwise_iff_getElem.mp h a b (by simpa using Nat.lt_trans hab hb) (by simpa using hb) hab
 rw [Array.getD,Array.getD,dif_pos (Nat.lt_trans hab hb),dif_pos hb]
 simpa using h1
theorem zqp {xs : Array Nat} (h : Ris xs) {a b j : Nat} (hab : a <= b) (hb : b < xs.size) : xs.getD a j <= xs.getD b j:=by
 rcases Nat.eq_or_lt_of_le hab with e | e
 ·subst e; exact Nat.le_refl _
 ·exact Nat.le_of_lt (zx6 h e hb)
theorem zps {xs : Array Nat} {j : Nat} (h : Ris xs) : ∀ (fuel lo hi : Nat),lo <= hi -> hi <= xs.size -> hi - lo <= fuel -> (∀ i,i < lo -> xs.getD i j < j) -> (∀ i,hi <= i -> i < xs.size -> ¬ xs.getD i j < j) ->
  SetTable.below.go xs j fuel lo hi <= xs.size /\ (∀ i,i < SetTable.below.go xs j fuel lo hi -> xs.getD i j < j) /\ ∀ i,SetTable.below.go xs j fuel lo hi <= i -> i < xs.size -> ¬ xs.getD i j < j
 | 0,lo,hi,h1,h2,h3,h4,h5=>by
  have e : lo = hi:=by omega
  subst e
  exact ⟨h2,h4,h5⟩
 | fuel + 1,lo,hi,h1,h2,h3,h4,h5=>by
  unfold SetTable.below.go
  by_cases hl : lo < hi
  ·rw [if_pos hl]
   by_cases hm : xs.getD ((lo + hi) / 2) j < j
   ·simp only [hm,if_true]
    refine zps h fuel ((lo + hi) / 2 + 1) hi (by omega) h2 (by omega) (fun i hi'=>?_) h5
    exact Nat.lt_of_le_of_lt (zqp h (by omega) (by omega)) hm
   ·simp only [hm,if_false]
    refine zps h fuel lo ((lo + hi) / 2) (by omega) (by omega) (by omega) h4 fun i hi' hs hc=>?_
    exact hm (Nat.lt_of_le_of_lt (zqp h hi' hs) hc)
  ·rw [if_neg hl]
   have e : lo = hi:=by omega
   subst e
   exact ⟨h2,h4,h5⟩
theorem z7v {xs : Array Nat} (h : Ris xs) (j : Nat) : SetTable.below xs j <= xs.size /\ (∀ i,i < SetTable.below xs j -> xs.getD i j < j) /\ ∀ i,SetTable.below xs j <= i -> i < xs.size -> ¬ xs.getD i j < j :=
 zps h xs.size 0 xs.size (Nat.zero_le _) (Nat.le_refl _) (by omega) (fun i hi=>by omega) fun i hi hs=>by omega
theorem z6n {xs : Array Nat} (h : Ris xs) {j : Nat} (hn : xs[SetTable.below xs j]? ≠ some j) : Ris (SetTable.insertAt xs (SetTable.below xs j) j):=by
 obtain ⟨h1,h2,h3⟩:=z7v h j
 unfold Ris SetTable.insertAt
 have g : ∀ i,(hi : i < xs.size) -> xs.getD i j = xs[i]:=fun i hi=>by rw [Array.getD,dif_pos hi]; rfl
 rw [Array.toList_append,Array.toList_push,Array.toList_extract,Array.toList_extract]
 simp only [List.extract_eq_drop_take,Nat.sub_zero,List.drop_zero]
 have hlt : ∀ x ∈ xs.toList.take (SetTable.below xs j),x < j:=fun x hx=>by
  obtain ⟨i,hi,e⟩:=List.mem_take_iff_getElem.mp hx
  have hi' : i < SetTable.below xs j:=by omega
  have:=h2 i hi'
  rw [g i (by omega)] at this
  rw [<- e]
  simpa using this
 have hgt : ∀ x ∈ xs.toList.drop (SetTable.below xs j),j < x:=fun x hx=>by
  obtain ⟨i,hi,e⟩:=List.mem_drop_iff_getElem.mp hx
  have hs : SetTable.below xs j + i < xs.size:=by simpa [Nat.add_comm] using hi
  have a:=h3 (SetTable.below xs j + i) (by omega) hs
  rw [g _ hs] at a
  have ex : x = xs[SetTable.below xs j + i]:=by rw [<- e]; simp
  rw [ex]
  rcases Nat.lt_or_ge j xs[SetTable.below xs j + i] with q | q
  ·exact q
  ·exfalso
   have ej : xs[SetTable.below xs j + i] = j:=by omega
   have hb : SetTable.below xs j < xs.size:=by omega
   have b:=zqp h (j:=j) (show SetTable.below xs j <= SetTable.below xs j + i by omega) hs
   rw [g _ hs,g _ hb,ej] at b
   have c:=h3 (SetTable.below xs j) (Nat.le_refl _) hb
   rw [g _ hb] at c
   exact hn (by rw [Array.getElem?_eq_getElem hb]; congr 1; omega)
 have ed : List.take (xs.size - SetTable.below xs j) (List.drop (SetTable.below xs j) xs.toList) = List.drop (SetTable.below xs j) xs.toList:=List.take_of_length_le (by simp)
 rw [ed]
 refine List.pairwise_append.mpr ⟨List.pairwise_append.mpr ⟨List.Pairwise.sublist (List.take_sublist _ _) h,by simp,fun a ha b hb=>?_⟩,List.Pairwise.sublist (List.drop_sublist _ _) h,fun a ha b hb=>?_⟩
 ·have : b = j:=by simpa using hb
  subst this; exact hlt a ha
 ·rcases List.mem_append.mp ha with ha | ha
  ·exact Nat.lt_trans (hlt a ha) (hgt b hb)
  ·have : a = j:=by simpa using ha
   subst this; exact hgt b hb
theorem zzz (n : Nat) : Ris (Array.range n):=by
 unfold Ris
 rw [Array.toList_range]
 exact List.pairwise_lt_range
theorem ztn {t : SetTable} {j : Nat} (h : t.slot j = .empty \/ t.slot j = .dummy) : t.place[SetTable.below t.place j]? ≠ some j:=fun e=>by
 have : t.slot j = .live (SetTable.below t.place j):=by
  unfold SetTable.slot
  simp only [e,beq_self_eq_true,if_true]
 rw [this] at h
 rcases h with h | h <;> cases h
theorem zox {t : SetTable} {h : Int} : ∀ (fuel : Nat) (p : SetTable.Probe) {j : Nat} {d : Option Nat},(∀ d',p.dummy = some d' -> t.place[SetTable.below t.place d']? ≠ some d') -> SetTable.probe.go t (fun _=>h + 1) h fuel p = some (.empty j d) ->
  t.place[SetTable.below t.place j]? ≠ some j /\ ∀ d',d = some d' -> t.place[SetTable.below t.place d']? ≠ some d'
 | 0,_,_,_,_,e=>by cases e
 | fuel + 1,p,j,d,hd,e=>by
  unfold SetTable.probe.go at e
  split at e
  ·rename_i hs
   cases e
   exact ⟨ztn (.inl hs),hd⟩
  ·rename_i hs
   refine zox fuel _ (fun d' q=>?_) e
   have : d' = p.j:=by
    unfold SetTable.advance at q
    split at q
    ·exact (Option.some.inj q).symm
    ·exact (Option.some.inj q).symm
   subst this
   exact ztn (.inr hs)
  ·rename_i i hs
   split at e
   ·cases e
   ·refine zox fuel _ (fun d' q=>hd d' ?_) e
    unfold SetTable.advance at q
    split at q <;> exact q
theorem z31 {t : SetTable} {h : Int} {j : Nat} {w : Bool} (e : t.freeSlot h = some (j,w)) : t.place[SetTable.below t.place j]? ≠ some j:=by
 unfold SetTable.freeSlot at e
 split at e
 ·rename_i j' d hp
  obtain ⟨h1,h2⟩:=zox _ _ (fun d' q=>by cases q) hp
  cases d with
  | none=>cases e; exact h1
  | some d'=>cases e; exact h2 _ rfl
 ·cases e
theorem zni (t : SetTable) (n : Nat) : Ris (t.standIn n).place /\ (t.standIn n).led = t.led:=⟨zzz n,rfl⟩
theorem z01 {t : SetTable} (n : Nat) (h : Ris t.place) : Ris (t.orStandIn n).place /\ (t.orStandIn n).led = t.led:=by
 unfold SetTable.orStandIn
 split
 ·exact ⟨h,rfl⟩
 ·exact zni t n
theorem z0b {t : SetTable} (es : Array (Int × Value)) (h : Int) (x : Value) (hr : Ris t.place) : Ris (layNew t es h x).2.1.place /\ (layNew t es h x).2.1.led = t.led:=by
 unfold layNew
 split
 ·rename_i slot wd hf
  exact z01 (t:=(t.put slot).1) _ (z6n hr (z31 hf))
 ·exact zni t _
theorem z85 {mask finger moves : Nat} {led plain : Bool} {hashes : Array Int} {t' : SetTable} {order : Array Nat} (e : SetTable.laid mask finger moves led plain hashes = some (t',order)) : Ris t'.place /\ t'.led = led:=by
 unfold SetTable.laid at e
 cases ho : SetTable.layClean mask hashes with
 | none=>rw [ho] at e; cases e
 | some owner =>
  rw [ho] at e
  cases e
  refine ⟨?_,rfl⟩
  unfold Ris
  show List.Pairwise _ (List.map _ _)
  rw [List.pairwise_map,List.pairwise_filterMap]
  refine List.Pairwise.imp (fun {a b} hab=>?_) List.pairwise_lt_range
  intro p hp q hq
  cases ha : owner.getD a none with
  | none=>rw [ha] at hp; cases hp
  | some ka =>
   cases hb : owner.getD b none with
   | none=>rw [hb] at hq; cases hq
   | some kb=>rw [ha] at hp; rw [hb] at hq; cases hp; cases hq; exact hab
theorem zzm {t : SetTable} (es : Array (Int × Value)) (wanted : Nat) : Ris (relayAll t es wanted).2.1.place /\ (relayAll t es wanted).2.1.led = t.led:=by
 unfold relayAll
 split
 ·rename_i t' order hl
  have hr : Ris t'.place /\ t'.led = t.led:=z85 hl
  dsimp only
  split
  ·exact hr
  ·exact zni t _
 ·exact zni t _
noncomputable def zeb (P : Program) (w : World) (h : Heap) (a : Addr) (led : Bool) (S : Int -> Bool) (n : Nat) : Prop :=
 ∃ o ents ep tb,h.get? a = some o /\ o.ExactSet /\ o.data = .set ents ep tb /\ ElemsOf (intKind P w) ents.toList /\ (∀ k,S k = true ↔ ∃ e ∈ ents.toList,(intKind P w).is k e.2 = true)
  /\ ents.size < scanBound /\ tb.fits ents.size = true /\ ents.size = n /\ Ris tb.place /\ tb.led = led
section
variable {P : Program} {w : World} {A : Around} {E : Value -> Shared -> Prop} {s : Shared}
theorem zeb.stay {h h' : Heap} {a : Addr} {led : Bool} {S : Int -> Bool} {n : Nat} (q : zeb P w h a led S n) (k : ∀ o,h.get? a = some o -> h'.get? a = some o) : zeb P w h' a led S n:=by
 obtain ⟨o,ents,ep,tb,ho,r⟩:=q
 exact ⟨o,ents,ep,tb,k o ho,r⟩
theorem zeb.congr {h : Heap} {a : Addr} {led : Bool} {S S' : Int -> Bool} {n n' : Nat} (q : zeb P w h a led S n) (e : ∀ k,S k = S' k) (en : n = n') : zeb P w h a led S' n':=by
 have : S = S':=funext e
 subst this en
 exact q
theorem zui {h : Heap} {a : Addr} {o : Obj} {ents ents' : Array (Int × Value)} {ep : Nat} {tb tb' : SetTable} {led : Bool} {S : Int -> Bool} (ho : h.get? a = some o) (hex : o.ExactSet) (hd : o.data = .set ents ep tb)
  (hel : ElemsOf (intKind P w) ents'.toList) (hm : ∀ k,S k = true ↔ ∃ e ∈ ents'.toList,(intKind P w).is k e.2 = true) (hb : ents'.size < scanBound) (hf : tb'.fits ents'.size = true) (hr : Ris tb'.place) (hled : tb'.led = led) :
  (h.update a (Obj.putSet ents' tb')).get? a = some { o with data:=.set ents' (ep + 1) tb' } /\ zeb P w (h.update a (Obj.putSet ents' tb')) a led S ents'.size:=by
 have g1:=(SetOf_store (knd:=intKind P w) ho hex hd hel hm hb hf).1
 exact ⟨g1,_,ents',ep + 1,tb',g1,hex,rfl,hel,hm,hb,hf,rfl,hr,hled⟩
theorem zue {g : Bool -> Sem Unit} (hg : ∀ (b : Bool) (s₁ : Shared) (Q' : Unit -> Shared -> Prop),Q' () s₁ -> wpAny (model P w) A (g b) Q' E s₁) {a : Addr} {o : Obj} {ents ents1 : Array (Int × Value)} {ep : Nat} {tb tb1 : SetTable} {led : Bool} {S : Int -> Bool}
  (ho : s.heap.get? a = some o) (hex : o.ExactSet) (hd : o.data = .set ents ep tb) (hel : ElemsOf (intKind P w) ents1.toList) (hm : ∀ k,S k = true ↔ ∃ e ∈ ents1.toList,(intKind P w).is k e.2 = true)
  (hb : ents1.size < scanBound) (hf : tb1.fits ents1.size = true) (hr : Ris tb1.place) (hled : tb1.led = led) {dm : Bool} {R : Option Bool -> Shared -> Prop}
  (h : ∀ h',Heap.SameBut a s.heap h' -> zeb P w h' a led S ents1.size -> R (some true) { s with heap:=h' }) :
  wpAny (model P w) A (do
    storeSet a ents1 tb1
    if (!dm && tb1.tooFull) = true then do
      g (relayAll tb1 ents1 (SetTable.grown ents1.size)).2.2
      storeSet a (relayAll tb1 ents1 (SetTable.grown ents1.size)).1 (relayAll tb1 ents1 (SetTable.grown ents1.size)).2.1
      pure (some true)
     else pure (some true)) R E s:=by
 refine wpAny_bind (wpAny_storeSet_of ho hd ?_ (fits_of_scanBound hb))
 obtain ⟨ho1,q1⟩:=zui (P:=P) (w:=w) ho hex hd hel hm hb hf hr hled
 have sb:=Heap.SameBut.update s.heap a (Obj.putSet ents1 tb1)
 split
 ·have pp:=relayAll_perm tb1 ents1 (SetTable.grown ents1.size)
  have ff:=relayAll_fits tb1 ents1 (SetTable.grown ents1.size)
  have rr:=zzm (t:=tb1) ents1 (SetTable.grown ents1.size)
  generalize relayAll tb1 ents1 (SetTable.grown ents1.size) = z at pp ff rr ⊢
  obtain ⟨ents2,tb2,gv⟩:=z
  dsimp only at pp ff rr ⊢
  have zz : ents2.size = ents1.size:=by rw [<- Array.length_toList,pp.length_eq,Array.length_toList]
  refine wpAny_bind (hg _ _ _ (wpAny_bind (wpAny_storeSet_of ho1 rfl ?_ (fits_of_scanBound (by rw [zz]; exact hb)))))
  have q2:=(zui (P:=P) (w:=w) (led:=led) (S:=S) ho1 hex rfl (hel.perm pp) (fun k=>(hm k).trans ⟨fun ⟨e,he,q⟩=>⟨e,pp.mem_iff.mpr he,q⟩,fun ⟨e,he,q⟩=>⟨e,pp.mem_iff.mp he,q⟩⟩) (by rw [zz]; exact hb) ff rr.1 (rr.2.trans hled)).2
  rw [zz] at q2
  exact wpAny_pure (h _ (sb.trans (Heap.SameBut.update _ a _)) q2)
 ·exact wpAny_pure (h _ sb q1)
theorem z61 {a : Addr} {led : Bool} {S : Int -> Bool} {n : Nat} {k : Int} {x : Value} {Q : Bool -> Shared -> Prop} (hk : (intKind P w).is k x = true) (hx : x.scannable = true) (q : zeb P w s.heap a led S n) (room : n + 1 < scanBound)
  (h : ∀ h',Heap.SameBut a s.heap h' -> zeb P w h' a led (fun k'=>S k' || decide (k' = k)) (if S k then n else n + 1) -> Q (!S k) { s with heap:=h' }) : wpAny (model P w) A (setAddHashed a x ((intKind P w).hash k)) Q E s:=by
 obtain ⟨o,ents,ep,tb,ho,hex,hd,hel,hm,hb,hf,hn,hr,hled⟩:=q
 unfold setAddHashed setAddHashedIn
 refine wpAny_holding (wpAny_bind (wpAny_setState_of ho hd hf ?_))
 dsimp only
 rw [byScan_of hx hb hel,if_pos rfl]
 unfold setAddByScan
 refine wpAny_bind (wpAny_bind (wpAny_rule (wpAny_bind (wpAny_setScan_of hk ho hd hf hel ?_))))
 cases hi : List.findIdx? (fun e=>(intKind P w).is k e.2) ents.toList with
 | some j =>
  dsimp only
  obtain ⟨hj,pj,_⟩:=List.findIdx?_eq_some_iff_getElem.mp hi
  have sk : S k = true:=(hm k).mpr ⟨ents.toList[j],List.getElem_mem hj,pj⟩
  refine wpAny_pure (wpAny_pure ?_)
  have es : s = { s with heap:=s.heap }:=by cases s; rfl
  have fin:=h s.heap (Heap.SameBut.refl a s.heap) ⟨o,ents,ep,tb,ho,hex,hd,hel,fun k'=>by
   rw [Bool.or_eq_true,decide_eq_true_eq,<- hm k']
   exact ⟨fun z=>z.elim id (fun e=>e ▸ sk),.inl⟩,hb,hf,by rw [sk]; exact hn,hr,hled⟩
  rw [sk] at fin
  rw [es]
  exact fin
 | none =>
  dsimp only
  have sk : S k = false:=by
   cases hs : S k with
   | false=>rfl
   | true =>
    obtain ⟨e,he,pe⟩:=(hm k).mp hs
    have:=List.findIdx?_eq_none_iff.mp hi e he
    rw [pe] at this
    cases this
  have gw : ∀ (b : Bool) (s₁ : Shared) (Q' : Unit -> Shared -> Prop),Q' () s₁ -> wpAny (model P w) A (match b with | true=>rule "set.scan.the-table-gave-way" | false=>pure ()) Q' E s₁ :=
   fun b s₁ Q' hq=>by cases b <;> first | exact wpAny_pure hq | exact wpAny_rule hq
  have pp:=layNew_perm tb ents ((intKind P w).hash k) x
  have ff:=layNew_fits tb ents ((intKind P w).hash k) x
  have rr:=z0b ents ((intKind P w).hash k) x hr
  generalize layNew tb ents ((intKind P w).hash k) x = z at pp ff rr ⊢
  obtain ⟨ents1,tb1,dm,gv⟩:=z
  dsimp only at pp ff rr ⊢
  rw [Array.toList_push] at pp
  have z1 : ents1.size = n + 1:=by rw [<- Array.length_toList,pp.length_eq,List.length_append,Array.length_toList,hn]; rfl
  have fin : ∀ h',Heap.SameBut a s.heap h' -> zeb P w h' a led (fun k'=>S k' || decide (k' = k)) ents1.size -> Q true { s with heap:=h' }:=fun h' sb q'=>by
   have:=h h' sb
   rw [sk] at this
   rw [z1] at q'
   exact this q'
  refine wpAny_bind (gw _ _ _ ?_)
  split
  ·refine wpAny_bind ?_
   rw [hashByValue_scannable 8 hx]
   refine wpAny_pure (zue (led:=led) (S:=fun k'=>S k' || decide (k' = k)) ?_ ho hex hd ((hel.push hk hx).perm pp) (mem_push_iff hk hm pp) (by rw [z1]; exact room) ?_ ?_ ?_ fun h' sb q'=>?_)
   ·exact fun b s₁ Q' hq=>by cases b <;> first | exact wpAny_pure hq | exact wpAny_rule hq
   ·split
    ·exact ff
    ·exact SetTable.fits_plain_off ff
   ·split
    ·exact rr.1
    ·exact rr.1
   ·split
    ·exact rr.2.trans hled
    ·exact rr.2.trans hled
   ·dsimp only
    exact wpAny_pure (fin h' sb q')
  ·refine wpAny_bind (wpAny_pure ?_)
   simp only [↓reduceIte]
   refine zue (led:=led) (S:=fun k'=>S k' || decide (k' = k)) ?_ ho hex hd ((hel.push hk hx).perm pp) (mem_push_iff hk hm pp) (by rw [z1]; exact room) ff rr.1 (rr.2.trans hled) fun h' sb q'=>?_
   ·exact fun b s₁ Q' hq=>by cases b <;> first | exact wpAny_pure hq | exact wpAny_rule hq
   ·dsimp only
    exact wpAny_pure (fin h' sb q')
end
set_option maxRecDepth 100000
noncomputable def zey (w : World) : Bool:=!(w.params.followText "set-order")
section
variable {P : Program} {w : World} {A : Around} {R : Result -> Shared -> Prop} {I : Addr} {fp wr : List Addr} {G : Array GenState -> Array GenState -> Prop} {n : Nat} {Pv : Nat -> Value -> Prop} {St : Nat -> Shared -> Prop}
theorem z2s (W : WalksS P w A.in1 I fp wr G n Pv St) (S : Addr) (hS : S ∉ fp) {led : Bool} (val : Nat -> Int) (hv : ∀ i v,Pv i v -> ∃ t,v = .int (val i) t) (hb : n + 1 < scanBound) :
  ∀ (k i : Nat) (s : Shared),n - i = k -> i <= n -> St i s -> zeb P w s.heap S led (fun j=>(firstMet val i).any (· == j)) (firstMet val i).length ->
   (∀ s',Moved (S :: wr) G s s' -> zeb P w s'.heap S led (fun j=>(firstMet val n).any (· == j)) (firstMet val n).length -> R (.ok (.ret .none)) s') ->
   codeAny (model P w) A (.builtin "set.update.loop" ⟨[.ref S,.ref I],[]⟩) R s:=by
 have hw : S ∉ wr:=fun h=>hS (W.sub _ h)
 have sub : ∀ b ∈ wr,b ∈ S :: wr:=fun b h=>List.mem_cons_of_mem _ h
 intro k
 induction k with
 | zero =>
  intro i s hk hi st q fin
  obtain rfl : i = n:=by omega
  refine codeAny_builtin F.entry_set_update_loop ?_
  rw [Around.under_plainId F.plain_set_update_loop _]
  show wpAny _ A.in1 (pyNext (.ref I) >>= _) _ _ s
  refine wpAny_bind (W.done s _ _ st fun s' m=>?_)
  show wpAny _ A.in1 (ret Value.none) _ _ s'
  exact wpAny_pure (fin s' (m.mono sub) (q.stay fun o e=>m.heap S o hw e))
 | succ k ih =>
  intro i s hk hi st q fin
  have lt : i < n:=by omega
  refine codeAny_builtin F.entry_set_update_loop ?_
  rw [Around.under_plainId F.plain_set_update_loop _]
  show wpAny _ A.in1 (pyNext (.ref I) >>= _) _ _ s
  refine wpAny_bind (W.item i s _ _ lt st fun v s' hP st' m=>?_)
  obtain ⟨t,rfl⟩:=hv i v hP
  have q1:=q.stay fun o e=>m.heap S o hw e
  show wpAny _ A.in1 (holding [Value.int (val i) t] (setAdd S (.int (val i) t)) >>= _) _ _ s'
  refine wpAny_bind (wpAny_holding ?_)
  unfold setAdd
  refine wpAny_holding (wpAny_bind ((intKind P w).pyHash (k:=val i) (intKind_is _ _ _ _) ?_))
  have room : (firstMet val i).length + 1 < scanBound:=by have:=firstMet_length_le val i; omega
  refine z61 (s:={ s' with toks:=s'.toks + 1 }) (k:=val i) (intKind_is _ _ _ _) rfl q1 room fun h' sb q2=>?_
  have q3 : zeb P w h' S led (fun j=>(firstMet val (i + 1)).any (· == j)) (firstMet val (i + 1)).length:=q2.congr (fun j=>by rw [firstMet_succ,step_any]) (by rw [firstMet_succ,step_length])
  refine wpAny_pure ⟨plainId_quiet F.plain_set_update_loop _,ih (i + 1) _ (by omega) lt (W.frame _ s' _ _ st' (Nat.le_succ _) fun b hb' o e=>?_) q3 fun s2 m2 q4=>?_⟩
  ·rw [sb.2 b fun h=>hS (by rw [<- h]; exact hb')]; exact e
  ·refine fin s2 (Moved.trans W.gtrans ((m.mono sub).then_heap (Nat.le_succ _) fun b o hb' e=>?_) m2) q4
   rw [sb.2 b fun h=>hb' (by rw [h]; exact List.mem_cons_self)]; exact e
end
section
variable {P : Program} {w : World} {A : Around} {E : Value -> Shared -> Prop} {s : Shared}
noncomputable abbrev zfw (led : Bool) : Obj:={ cls:=.type "set",dict:=none,data:=.set #[] 0 (.fresh 0 0 led) }
theorem z3i (a : Value) {Q : Value -> Shared -> Prop} (h : Q (.ref s.heap.objs.size) { s with heap:=s.heap.push (zfw (zey w)) }) :
  codeAny (model P w) A (.call (.builtin "set.__new__") ⟨[.type "set",a],[]⟩) (wants Q E) s:=by
 refine codeAny_of_tree ?_
 show wpAny _ A.in1 (do checkBuiltinCall "set.__new__" ⟨[.type "set",a],[]⟩; again (.builtin "set.__new__" ⟨[.type "set",a],[]⟩)) _ _ s
 refine wpAny_bind (wpAny_of_eq (F.newCall_set_1 a) (wpAny_pure ⟨plainId_quiet F.plain_set_new _,codeAny_builtin F.entry_set_new ?_⟩))
 rw [Around.under_plainId F.plain_set_new _]
 unfold Builtin.«set.__new__» Builtin.Frozenset.newClass
 have hsub:=sub_set_self
 obtain ⟨hp,g,d,tk,os⟩:=s
 dsimp only
 wp_walk
 refine wpAny_askSetting (wpAny_pure ?_)
 dsimp only
 simp only [newObj]
 refine wpAny_bind (wpAny_alloc (wpAny_pure ?_))
 exact wpAny_pure h
theorem z8y (h : Heap) (led : Bool) : zeb P w (h.push (zfw led)) h.objs.size led (fun _=>false) 0 :=
 ⟨_,#[],0,_,Heap.get?_push_size _ rfl,⟨rfl,rfl,rfl⟩,rfl,fun e he=>by simp at he,fun k=>by simp,by decide,rfl,rfl,by unfold Ris; simp [SetTable.fresh],rfl⟩
end
set_option maxRecDepth 100000
section
variable {P : Program} {w : World} {A : Around} {E : Value -> Shared -> Prop} {s : Shared}
set_option maxHeartbeats 8000000 in
theorem zyp {l : Addr} {items : Array Value} {ns : List Int} {Q : Value -> Shared -> Prop} (hh : A.handled = none) (hl : s.heap.IsList l items) (hi : IntsAre items.toList ns) (hb : items.size + 1 < scanBound)
  (h : ∀ (h' : Heap) (tk : Nat),zeb P w h' s.heap.objs.size (zey w) (fun j=>(firstMet (fun i=>ns.getD i 0) items.size).any (· == j)) (firstMet (fun i=>ns.getD i 0) items.size).length ->
   (∀ b o,b < s.heap.objs.size -> s.heap.get? b = some o -> h'.get? b = some o) -> s.toks <= tk -> Q (.ref s.heap.objs.size) { s with heap:=h',toks:=tk }) :
  wpAny (model P w) A (call (.type "set") [.ref l]) Q E s:=by
 obtain ⟨c,tl,hmro⟩:=F.called_set.mro
 have hmade:=F.called_set.made
 have hsub:=F.called_set.sub
 refine wpAny_call (codeAny_of_tree ?_)
 show wpAny _ _ (callAny (.type "set") _) _ _ _
 refine wpAny_pure ⟨Code.quiet_builtin _ (by decide +kernel),codeAny_builtin F.entry_type_call ?_⟩
 rw [Around.under_plain (weight_type_call_type "set" [.ref l] []) rfl]
 have h1:=F.called_set.notType
 have h2:=F.called_set.canCreate
 have hct:=F.typeCall_set_1 (.ref l)
 repeat (any_goals (first | assumption | wp_step))
 refine codeAny_mono (z3i (.ref l) (E:=E) (Q:=fun ob s₁=>ob = .ref s.heap.objs.size /\ s₁ = { s with heap:=s.heap.push (zfw (zey w)) }) ⟨rfl,rfl⟩) fun r s₁ hr=>?_
 cases r with
 | error e=>exact hr
 | ok fl =>
  cases fl with
  | ret ob =>
   obtain ⟨rfl,rfl⟩:=hr
   have g0 : (s.heap.push (zfw (zey w))).get? s.heap.objs.size = some (zfw (zey w)):=Heap.get?_push_size _ rfl
   have hT : Shared.TypeIs { s with heap:=s.heap.push (zfw (zey w)) } (.ref s.heap.objs.size) "set":=⟨_,g0,rfl⟩
   have hli:=F.called_set.init.lookup
   have hbi:=F.called_set.init.bind (.ref s.heap.objs.size)
   repeat (any_goals (first | assumption | wp_step))
   refine codeAny_mono (codeAny_call_builtin (R:=wants (fun r s₂=>r = .none /\ ∃ h' tk,s₂ = { s with heap:=h',toks:=tk } /\ s.toks <= tk /\
     zeb P w h' s.heap.objs.size (zey w) (fun j=>(firstMet (fun i=>ns.getD i 0) items.size).any (· == j)) (firstMet (fun i=>ns.getD i 0) items.size).length /\
     (∀ b o,b < s.heap.objs.size -> s.heap.get? b = some o -> h'.get? b = some o)) E) F.called_set.init.plain F.entry_set_init (check_set_init_1 hT ?_)) fun r₂ s₂ hr₂=>?_
   ·obtain ⟨⟨oc,od,odt,os⟩,hol,hcl,nl,hdl⟩:=hl
    simp only at hcl hdl
    subst hcl hdl
    have hol' : (s.heap.push (zfw (zey w))).get? l = some { cls:=.type "list",dict:=od,data:=.seq items nl,slots:=os }:=Heap.get?_push_of_some _ hol
    have k1:=F.sub_list_set
    have k2:=F.sub_list_frozenset
    have k3 : (Value.type "list" == Value.type "dict") = false:=by decide
    have hl1 : (s.heap.push (zfw (zey w))).IsList l items:=⟨_,hol',rfl,nl,rfl⟩
    unfold Builtin.«set.__init__» noKeywords Builtin.Frozenset.updateFrom
    generalize hPI : pyIter = PI
    wp_walk
    subst hPI
    refine wpAny_pyIter_list hl1 (wpAny_bind (wpAny_runValue ?_))
    have lt : l < s.heap.objs.size:=Heap.lt_size hol
    have hh3 : A.in1.in1.in1.handled = none:=by simp [hh]
    have ne1 : l ≠ (s.heap.push (zfw (zey w))).objs.size:=by rw [Heap.size_push]; exact Nat.ne_of_lt (Nat.lt_succ_of_lt lt)
    have nin : s.heap.objs.size ∉ [(s.heap.push (zfw (zey w))).objs.size,l]:=by
     rw [Heap.size_push]
     simp only [List.mem_cons,List.not_mem_nil,or_false,not_or]
     exact ⟨Nat.ne_of_lt (Nat.lt_succ_self _),Nat.ne_of_gt lt⟩
    have hv : ∀ (i : Nat) (v : Value),items[i]? = some v -> ∃ t,v = .int ((fun i=>ns.getD i 0) i) t:=fun i v hv=>IntsAre.int_at hi i v (by rw [Array.getElem?_toList]; exact hv)
    refine z2s (led:=zey w) ((Walks.list hh3 _ l ne1 items).toS) s.heap.objs.size nin (fun i=>ns.getD i 0) hv hb (items.size - 0) 0 _ (by omega) (Nat.zero_le _) ⟨⟨_,Heap.get?_push_size _ rfl,rfl,rfl⟩,(hl1.push _)⟩ ?hS0 ?hR
    case hS0=>exact ((z8y (P:=P) (w:=w) s.heap (zey w)).stay fun o e=>Heap.get?_push_of_some _ e).congr (fun _=>rfl) rfl
    case hR =>
     intro s' hm hS'
     obtain ⟨h',g',d',tk',os'⟩:=s'
     have eg : g' = s.gens:=hm.gens
     have ed : d' = s.drawn:=hm.drawn
     have eo : os' = s.os:=hm.os
     subst eg ed eo
     show wpAny _ _ _ _ _ _
     refine wpAny_pure ?_
     show wpAny _ _ (ret Value.none) _ _ _
     refine wpAny_pure ⟨rfl,h',tk',rfl,hm.toks,hS',fun b o hb' e=>?_⟩
     have n2 : b ≠ (s.heap.push (zfw (zey w))).objs.size:=by rw [Heap.size_push]; exact Nat.ne_of_lt (Nat.lt_succ_of_lt hb')
     refine hm.heap b o ?_ (Heap.get?_push_of_some _ (Heap.get?_push_of_some _ e))
     simp only [List.mem_cons,List.not_mem_nil,or_false,not_or]
     exact ⟨Nat.ne_of_lt hb',n2⟩
   ·cases r₂ with
    | error e=>exact hr₂
    | ok fl₂ =>
     cases fl₂ with
     | ret r =>
      obtain ⟨rfl,h',tk,rfl,htk,q',kk⟩:=hr₂
      repeat (any_goals (first | assumption | wp_step))
      exact h _ _ q' kk htk
     | _=>exact hr₂.elim
  | _=>exact hr.elim
end
set_option maxRecDepth 100000
section
variable {P : Program} {w : World} {A : Around} {E : Value -> Shared -> Prop}
end
set_option maxRecDepth 100000
section
variable {P : Program} {w : World} {A : Around} {E : Value -> Shared -> Prop} {s : Shared}
end
set_option maxRecDepth 100000
section
variable {P : Program} {w : World} {A : Around} {E : Value -> Shared -> Prop} {s : Shared} {a : Addr} {o : Obj} {ents : Array (Int × Value)} {ep : Nat} {tb : SetTable}
end
section
variable {P : Program} {w : World} {a I T : Addr} {o : Obj} {ents : Array (Int × Value)} {ep n : Nat} {tb : SetTable}
end
set_option maxRecDepth 100000
section
variable {P : Program} {w : World} {A : Around} {E : Value -> Shared -> Prop} {s : Shared} {a : Addr}
end
set_option maxRecDepth 100000
section
variable {P : Program} {w : World} {A : Around} {E : Value -> Shared -> Prop} {s : Shared} {a : Addr}
end
noncomputable def zg1 (x : Int) : List Int -> List Int
 | []=>[x]
 | y :: r=>if x < y then x :: y :: r else if x = y then y :: r else y :: zg1 x r
noncomputable def zct (ns : List Int) : List Int:=ns.foldr zg1 []
theorem zon (x k : Int) : ∀ l : List Int,k ∈ zg1 x l ↔ k = x \/ k ∈ l
 | []=>by simp [zg1]
 | y :: r=>by
  unfold zg1
  split
  ·simp
  ·split
   ·rename_i e; subst e; simp
   ·rw [List.mem_cons,zon x k r,List.mem_cons]
    constructor
    ·rintro (h | h | h)
     ·exact .inr (.inl h)
     ·exact .inl h
     ·exact .inr (.inr h)
    ·rintro (h | h | h)
     ·exact .inr (.inl h)
     ·exact .inl h
     ·exact .inr (.inr h)
theorem zvp (x : Int) : ∀ l : List Int,l.Pairwise (· < ·) -> (zg1 x l).Pairwise (· < ·)
 | [],_=>by simp [zg1]
 | y :: r,h=>by
  obtain ⟨h1,h2⟩:=List.pairwise_cons.mp h
  unfold zg1
  split
  ·rename_i hx
   refine List.pairwise_cons.mpr ⟨fun k hk=>?_,h⟩
   rcases List.mem_cons.mp hk with e | hk
   ·subst e; exact hx
   ·exact Int.lt_trans hx (h1 k hk)
  ·split
   ·exact h
   ·rename_i a b
    refine List.pairwise_cons.mpr ⟨fun k hk=>?_,zvp x r h2⟩
    rcases (zon x k r).mp hk with e | hk
    ·subst e; omega
    ·exact h1 k hk
theorem zl9 (k : Int) : ∀ l : List Int,k ∈ zct l ↔ k ∈ l
 | []=>by simp [zct]
 | x :: l=>by
  show k ∈ zg1 x (zct l) ↔ _
  rw [zon,zl9 k l,List.mem_cons]
theorem zok : ∀ l : List Int,(zct l).Pairwise (· < ·)
 | []=>by simp [zct]
 | x :: l=>zvp x _ (zok l)
theorem ztw : ∀ (l m : List Int),l.Pairwise (· < ·) -> m.Pairwise (· < ·) -> (∀ k,k ∈ l ↔ k ∈ m) -> l = m
 | [],[],_,_,_=>rfl
 | [],y :: m,_,_,h=>by have:=(h y).mpr List.mem_cons_self; simp at this
 | x :: l,[],_,_,h=>by have:=(h x).mp List.mem_cons_self; simp at this
 | x :: l,y :: m,hl,hm,h=>by
  obtain ⟨l1,l2⟩:=List.pairwise_cons.mp hl
  obtain ⟨m1,m2⟩:=List.pairwise_cons.mp hm
  have e : x = y:=by
   rcases List.mem_cons.mp ((h x).mp List.mem_cons_self) with e | hx
   ·exact e
   ·rcases List.mem_cons.mp ((h y).mpr List.mem_cons_self) with e | hy
    ·exact e.symm
    ·have:=m1 x hx; have:=l1 y hy; omega
  subst e
  rw [ztw l m l2 m2 fun k=>?_]
  constructor
  ·intro hk
   rcases List.mem_cons.mp ((h k).mp (List.mem_cons_of_mem _ hk)) with e | q
   ·have:=l1 k hk; omega
   ·exact q
  ·intro hk
   rcases List.mem_cons.mp ((h k).mpr (List.mem_cons_of_mem _ hk)) with e | q
   ·have:=m1 k hk; omega
   ·exact q
theorem zm1 : ∀ (F L : List Int),F.Nodup -> (∀ x ∈ F,x ∈ L) -> L.length <= F.length -> L.Perm F
 | [],L,_,_,h=>by
  obtain rfl : L = []:=List.length_eq_zero_iff.mp (by simpa using h)
  exact .refl _
 | x :: F,L,hn,hs,h=>by
  obtain ⟨n1,n2⟩:=List.nodup_cons.mp hn
  have hx:=hs x List.mem_cons_self
  have p:=List.perm_cons_erase hx
  refine p.trans (List.Perm.cons x (zm1 F (L.erase x) n2 (fun y hy=>?_) ?_))
  ·have ne : y ≠ x:=fun e=>by subst e; exact n1 hy
   exact (List.mem_erase_of_ne ne).mpr (hs y (List.mem_cons_of_mem _ hy))
  ·rw [List.length_erase_of_mem hx]
   simp at h
   omega
theorem zpb (val : Nat -> Int) : ∀ i,(firstMet val i).Nodup
 | 0=>by rw [firstMet_zero]; exact List.nodup_nil
 | i + 1=>by
  rw [firstMet_succ]
  unfold step_dedup
  split
  ·exact zpb val i
  ·rename_i h
   refine List.nodup_append.mpr ⟨zpb val i,by simp,fun a ha b hb e=>?_⟩
   have : b = val i:=by simpa using hb
   rw [e,this] at ha
   exact h (List.any_eq_true.mpr ⟨_,ha,by simp⟩)
theorem z56 (ns : List Int) (k : Int) : (firstMet (fun i=>ns.getD i 0) ns.length).any (· == k) = true ↔ k ∈ ns:=by
 rw [firstMet_any]
 have e : (List.range ns.length).map (fun i=>ns.getD i 0) = ns:=by
  refine List.ext_getElem? fun i=>?_
  rw [List.getElem?_map]
  by_cases hi : i < ns.length
  ·rw [List.getElem?_range hi]
   simp [List.getD_eq_getElem?_getD,hi]
  ·rw [List.getElem?_eq_none (by rw [List.length_range]; omega),List.getElem?_eq_none (by omega)]
   rfl
 rw [e,List.any_eq_true]
 exact ⟨fun ⟨x,hx,q⟩=>by have:=beq_iff_eq.mp q; exact this ▸ hx,fun h=>⟨k,h,by simp⟩⟩
theorem zsw (ns : List Int) : (zct ns).length = (firstMet (fun i=>ns.getD i 0) ns.length).length:=by
 have nd:=zpb (fun i=>ns.getD i 0) ns.length
 have nd' : (zct ns).Nodup:=(zok ns).imp fun h=>Int.ne_of_lt h
 have m : ∀ x,x ∈ firstMet (fun i=>ns.getD i 0) ns.length ↔ x ∈ zct ns:=fun x=>by
  refine Iff.trans ?_ (zl9 x ns).symm
  refine Iff.trans ?_ (z56 ns x)
  rw [List.any_eq_true]
  exact ⟨fun h=>⟨x,h,by simp⟩,fun ⟨y,hy,q⟩=>by have:=beq_iff_eq.mp q; exact this ▸ hy⟩
 rcases Nat.le_total (zct ns).length (firstMet (fun i=>ns.getD i 0) ns.length).length with h | h
 ·exact (zm1 _ _ nd (fun x hx=>(m x).mp hx) h).length_eq
 ·exact (zm1 _ _ nd' (fun x hx=>(m x).mpr hx) h).length_eq.symm
section
variable {X : Cx} {pins : List (Addr × Obj)} {σ : St} {H : Hp} {s : Shared}
end
theorem zvz : ∀ {vs : List Value} {ns : List Int},IntsAre vs ns -> za8 (ns.map V.int) vs
 | _,_,.nil=>.nil
 | _,_,.cons n t h=>.cons ⟨t,rfl⟩ (zvz h)
theorem zpq : ∀ {ns : List Int} {vs : List Value},za8 (ns.map V.int) vs -> IntsAre vs ns
 | [],_,.nil=>.nil
 | n :: ns,_,.cons ⟨t,e⟩ h=>by subst e; exact .cons n t (zpq h)
section
variable {X : Cx} {e : Expr} {te : TE} {p p2 pos pos2 : Pos}
end
noncomputable def zsD : List D -> Option (List Int)
 | []=>some []
 | .int i :: r=>(zsD r).map (i :: ·)
 | _ :: _=>none
theorem zrp : ∀ {ds : List D} {ns : List Int},zsD ds = some ns -> ds = ns.map D.int
 | [],_,h=>by cases h; rfl
 | .int i :: r,ns,h=>by
  replace h : (zsD r).map (i :: ·) = some ns:=h
  cases e : zsD r with
  | none=>rw [e] at h; cases h
  | some m=>rw [e] at h; cases h; rw [zrp e]; rfl
 | .non :: _,_,h=>by cases h
 | .bl _ :: _,_,h=>by cases h
 | .str _ :: _,_,h=>by cases h
 | .lst _ :: _,_,h=>by cases h
 | .tup _ :: _,_,h=>by cases h
 | .kl _ :: _,_,h=>by cases h
 | .kt _ :: _,_,h=>by cases h
 | .dic _ _ :: _,_,h=>by cases h
 | .ins _ _ _ :: _,_,h=>by cases h
theorem zoz : ∀ (ns : List Int),zsD (ns.map D.int) = some ns
 | []=>rfl
 | n :: ns=>by show (zsD (ns.map D.int)).map (n :: ·) = _; rw [zoz ns]; rfl
theorem zq3 {G : Gc} {H : Hp} : ∀ {ns : List Int} {vs : List V},zas G H (ns.map D.int) vs -> vs = ns.map V.int
 | [],_,h=>h
 | n :: ns,_,⟨v,r,e,h1,h2⟩=>by rw [e,show v = V.int n from h1,zq3 h2]; rfl
section
variable {c : Str -> Addr} {X : Cx} {e : Expr} {p p2 pos pos2 : Pos}
noncomputable def zcx (f g : List Sl -> Option D) (ρ : List Sl) : Option (List D):=(f ρ).bind fun x=>(g ρ).bind fun y=>match x,y with
 | .lst a,.lst b=>if a.length + b.length <= 16777216 then some (a ++ b) else none
 | _,_=>none
theorem z1o {f g : List Sl -> Option D} {ρ : List Sl} {ds : List D} (h : zcx f g ρ = some ds) : ∃ a b,f ρ = some (.lst a) /\ g ρ = some (.lst b) /\ a.length + b.length <= 16777216 /\ ds = a ++ b:=by
 unfold zcx at h
 cases e1 : f ρ with
 | none=>rw [e1] at h; cases h
 | some x =>
  cases e2 : g ρ with
  | none=>rw [e1,e2] at h; cases h
  | some y =>
   rw [e1,e2,Option.bind_some,Option.bind_some] at h
   split at h
   ·split at h
    ·rename_i a b hl
     cases h
     exact ⟨a,b,rfl,rfl,hl,rfl⟩
    ·cases h
   ·cases h
theorem zds {a b : Expr} {f g : List Sl -> Option D} (ha : DE c X a f) (hb : DE c X b g) : DO c X (.BinOp a .Add b pos) (zcx f g):=PE.imp (zvk zsz ha hb) fun σ H Q q_=>by
 obtain ⟨Hf0,H0,Hf,ρ,ds,st,ef,k⟩:=q_
 obtain ⟨xs,ys,e1,e2,hl,rfl⟩:=z1o ef
 refine ⟨Hf0,H0,Hf,ρ,_,st,e1,fun v Hf1 H1 x1 r1=>⟨Hf0,H0,Hf1,ρ,_,st.step x1,e2,fun u Hf2 H2 x2 r2=>?_⟩⟩
 obtain ⟨l,vs,el,q1,s1⟩:=r1.up x2.f
 obtain ⟨m,us,em,q2,s2⟩:=r2
 subst el em
 have x:=x1.trans x2
 exact ⟨l,m,vs,us,rfl,rfl,x2.s _ _ q1,x2.s _ _ q2,by rw [sizeLine_eq,<- s1.length,<- s2.length]; exact hl,fun p hp=>k p _ Hf2 _ (x.trans (Ext.tmp x.s hp)) (x.h.free hp) (x.s.free hp) zcg (s1.append s2)⟩
end
noncomputable def wp (F : List Sl -> Option Fl) (ρ : List Sl) (K : Fl -> Prop) : Prop:=∃ o,F ρ = some o /\ K o
noncomputable def zr3 (F : List Sl -> Option Fl) (K : Fl -> Prop) : Fl -> Prop
 | .nx ρ=>wp F ρ K
 | o=>K o
noncomputable def zrt (J : List Sl -> Prop) (K : Fl -> Prop) : Fl -> Prop
 | .nx ρ=>J ρ
 | .ct ρ=>J ρ
 | .bk ρ=>K (.nx ρ)
 | o=>K o
noncomputable def znx (Q : D -> Prop) (o : Fl) : Prop:=∃ d,zq5 o = some d /\ Q d
theorem zam {F F' : List Sl -> Option Fl} {ρ : List Sl} {K : Fl -> Prop} (h : wp F ρ (zr3 F' K)) : wp (zai F F') ρ K:=by
 obtain ⟨o,e,k⟩:=h
 unfold wp zai
 rw [e]
 cases o with
 | nx ρ'=>exact k
 | _=>exact ⟨_,rfl,k⟩
theorem zbo {ρ : List Sl} {K : Fl -> Prop} (h : K (.nx ρ)) : wp zbg ρ K:=⟨_,rfl,h⟩
theorem zbr {i : Nat} {f : List Sl -> Option D} {ρ : List Sl} {d : D} {K : Fl -> Prop} (h : f ρ = some d) (k : K (.nx (ρ.set i (.im d)))) : wp (zbe i f) ρ K:=⟨_,zuk h,k⟩
theorem zes {i : Nat} {f : List Sl -> Option (List D)} {ρ : List Sl} {d : List D} {K : Fl -> Prop} (h : f ρ = some d) (k : K (.nx (ρ.set i (.own d)))) : wp (zde i f) ρ K:=⟨_,z69 h,k⟩
theorem zbx {f : List Sl -> Option D} {ρ : List Sl} {d : D} {K : Fl -> Prop} (h : f ρ = some d) (k : K (.rt d)) : wp (zav f) ρ K:=⟨_,zcj h,k⟩
theorem z5g {f : List Sl -> Option (List D)} {ρ : List Sl} {d : List D} {K : Fl -> Prop} (h : f ρ = some d) (k : K (.rtO d)) : wp (zgv f) ρ K:=⟨_,by unfold zgv; rw [h]; rfl,k⟩
theorem zaz {t : List Sl -> Option Bool} {F F' : List Sl -> Option Fl} {ρ : List Sl} {b : Bool} {K : Fl -> Prop} (h : t ρ = some b) (kT : b = true -> wp F ρ K) (kF : b = false -> wp F' ρ K) : wp (za4 t F F') ρ K:=by
 unfold wp za4
 rw [h]
 cases b with
 | true=>exact kT rfl
 | false=>exact kF rfl
theorem zhc {i : Nat} {F : List Sl -> Option Fl} {ρ ρ' : List Sl} {K : Fl -> Prop} (e : zm5 i ρ = ρ') (h : wp F ρ' K) : wp (ze9 i F) ρ K:=by
 subst e
 exact h
theorem zhy {i : Nat} {f : List Sl -> Option D} {ρ : List Sl} {d : D} {xs : List D} {K : Fl -> Prop} (h : f ρ = some d) (h' : ρ[i]? = some (.own xs)) (hl : xs.length < 16777216) (k : K (.nx (ρ.set i (.own (xs ++ [d]))))) : wp (ze8 i f) ρ K:=⟨_,zw1 h h' hl,k⟩
theorem z3m {i : Nat} {fk fv : List Sl -> Option D} {ρ : List Sl} {d : D} {xs : List D} {k : Int} (hv : fv ρ = some d) (hk : fk ρ = some (.int k)) (h' : ρ[i]? = some (.own xs)) (h0 : 0 <= k) (h1 : k < xs.length) : zfc i fk fv ρ = some (.nx (ρ.set i (.own (xs.set k.toNat d)))):=by
 have e : ixN xs.length k = some k.toNat:=by
  unfold ixN
  rw [if_pos h0,if_pos h1]
 unfold zfc
 rw [hv,Option.bind_some,hk,Option.bind_some]
 show (match ρ[i]? with | some (.own xs)=>(ixN xs.length k).map fun j=>Fl.nx (ρ.set i (.own (xs.set j d))) | _=>none) = _
 rw [h']
 show (ixN xs.length k).map _ = _
 rw [e]
 rfl
theorem zio {i : Nat} {fk fv : List Sl -> Option D} {ρ : List Sl} {d : D} {xs : List D} {k : Int} {K : Fl -> Prop} (hv : fv ρ = some d) (hk : fk ρ = some (.int k)) (h' : ρ[i]? = some (.own xs)) (h0 : 0 <= k) (h1 : k < xs.length) (q : K (.nx (ρ.set i (.own (xs.set k.toNat d))))) : wp (zfc i fk fv) ρ K:=⟨_,z3m hv hk h' h0 h1,q⟩
theorem zsq {α : Type} {g : D -> List Sl -> Option (List Sl)} {F : List Sl -> Option Fl} {K : Fl -> Prop} (f : α -> D) (I : List α -> List Sl -> Prop) : ∀ (post pre : List α) (ρ : List Sl),I pre ρ ->
  (∀ pre' x post' ρ,pre ++ post = pre' ++ x :: post' -> I pre' ρ -> ∃ ρ1,g (f x) ρ = some ρ1 /\ wp F ρ1 (zrt (I (pre' ++ [x])) K)) -> (∀ ρ',I (pre ++ post) ρ' -> K (.nx ρ')) -> wp (zfg g F (post.map f)) ρ K
 | [],pre,ρ,h,_,hk=>⟨_,rfl,hk ρ (by rw [List.append_nil]; exact h)⟩
 | x :: post,pre,ρ,h,hs,hk=>by
  obtain ⟨ρ1,e1,o,e2,k2⟩:=hs pre x post ρ rfl h
  unfold wp
  rw [List.map_cons]
  unfold zfg
  rw [e1,Option.bind_some,e2,Option.bind_some]
  have go : ∀ ρ2,I (pre ++ [x]) ρ2 -> wp (zfg g F (post.map f)) ρ2 K:=fun ρ2 h2 =>
   zsq f I post (pre ++ [x]) ρ2 h2 (by rw [List.append_assoc]; exact hs) (by rw [List.append_assoc]; exact hk)
  cases o with
  | nx ρ2=>exact go ρ2 k2
  | ct ρ2=>exact go ρ2 k2
  | bk ρ2=>exact ⟨_,rfl,k2⟩
  | rt d=>exact ⟨_,rfl,k2⟩
  | rtO d=>exact ⟨_,rfl,k2⟩
  | rtS d ρ2=>exact ⟨_,rfl,k2⟩
theorem zd7 {α : Type} {fi : List Sl -> Option (List D)} {g : D -> List Sl -> Option (List Sl)} {F : List Sl -> Option Fl} {ρ : List Sl} {K : Fl -> Prop} (xs : List α) (f : α -> D) (I : List α -> List Sl -> Prop) (hi : fi ρ = some (xs.map f)) (h0 : I [] ρ)
  (hs : ∀ pre x post ρ,xs = pre ++ x :: post -> I pre ρ -> ∃ ρ1,g (f x) ρ = some ρ1 /\ wp F ρ1 (zrt (I (pre ++ [x])) K)) (hk : ∀ ρ',I xs ρ' -> K (.nx ρ')) : wp (zc9 fi g F) ρ K:=by
 obtain ⟨o,e,k⟩:=zsq f I xs [] ρ h0 hs hk
 refine ⟨o,?_,k⟩
 unfold zc9
 rw [hi]
 exact e
theorem ztf {t : List Sl -> Option Bool} {F : List Sl -> Option Fl} {K : Fl -> Prop} (I : Nat -> List Sl -> Prop) (hs : ∀ m ρ,I m ρ -> ∃ b,t ρ = some b /\ (b = true -> wp F ρ (zrt (fun ρ'=>∃ m',m' < m /\ I m' ρ') K)) /\ (b = false -> K (.nx ρ))) :
  ∀ (n m : Nat) (ρ : List Sl),I m ρ -> m < n -> wp (zgh t F n) ρ K
 | 0,m,ρ,_,h=>absurd h (Nat.not_lt_zero _)
 | n + 1,m,ρ,h,hn=>by
  obtain ⟨b,e,kT,kF⟩:=hs m ρ h
  unfold wp
  unfold zgh
  rw [e,Option.bind_some]
  cases b with
  | false=>exact ⟨_,rfl,kF rfl⟩
  | true =>
   rw [if_pos rfl]
   obtain ⟨o,e2,k2⟩:=kT rfl
   rw [e2,Option.bind_some]
   have go : ∀ ρ2,(∃ m',m' < m /\ I m' ρ2) -> wp (zgh t F n) ρ2 K:=fun ρ2 q=>by
    obtain ⟨m',hm,h2⟩:=q
    exact ztf I hs n m' ρ2 h2 (by omega)
   cases o with
   | nx ρ2=>exact go ρ2 k2
   | ct ρ2=>exact go ρ2 k2
   | bk ρ2=>exact ⟨_,rfl,k2⟩
   | rt d=>exact ⟨_,rfl,k2⟩
   | rtO d=>exact ⟨_,rfl,k2⟩
   | rtS d ρ2=>exact ⟨_,rfl,k2⟩
theorem zgu {n : Nat} {F : List Sl -> Option Fl} {ds : List D} {Q : D -> Prop} (h : wp F (zdt n ds) (znx Q)) : ∃ d,zbk n F ds = some d /\ Q d:=by
 obtain ⟨o,e,d,e',q⟩:=h
 refine ⟨d,?_,q⟩
 unfold zbk
 rw [e]
 exact e'
theorem zec {n : Nat} {F : List Sl -> Option Fl} {ds : List D} {r : D} (h : wp F (zdt n ds) (znx fun d=>d = r)) : zbk n F ds = some r:=by
 obtain ⟨d,e,q⟩:=zgu h
 rw [e,q]
theorem zbs {Q : D -> Prop} {d : D} (h : Q d) : znx Q (.rt d):=⟨d,rfl,h⟩
theorem zks {Q : D -> Prop} {d : List D} (h : Q (.lst d)) : znx Q (.rtO d):=⟨.lst d,rfl,h⟩
theorem zl2 {m : List D -> Option D} {f : List Sl -> Option (List D)} {ρ : List Sl} {ds : List D} {d : D} (h : f ρ = some ds) (h' : m ds = some d) (hs : d.scalar = true) : zhh m f ρ = some d:=by
 unfold zhh
 rw [h,Option.bind_some,h',Option.bind_some,if_pos hs]
theorem zdi {i j : Int} (h : 0 < j) : zbv (.int i) (.int j) = some (.int (i % j)):=zmu h
theorem znb {i j : Int} (h : zlx i j) : zgm (.int i) (.int j) = some (.int (i / j)):=zmu h
theorem zwm {i j : Int} (h : zkg i j) : zpy (.int i) (.int j) = some (.int (i ^ j.toNat)):=zmu h
theorem zhu {i j : Int} : zci (.int i) (.int j) = some (.int (i + j)):=rfl
theorem zq7 {i j : Int} : zh6 (.int i) (.int j) = some (.int (i - j)):=rfl
theorem zjm {i j : Int} : dLt (.int i) (.int j) = some (.bl (decide (i < j))):=rfl
theorem zs4 {i j : Int} : dLe (.int i) (.int j) = some (.bl (decide (i <= j))):=rfl
theorem zlc {i j : Int} : dGt (.int i) (.int j) = some (.bl (decide (j < i))):=rfl
theorem zc4 {α : Type} (xs : List α) (f : α -> D) : zce [.lst (xs.map f)] = some (.int xs.length):=by
 show some (D.int ((xs.map f).length : Int)) = _
 rw [List.length_map]
theorem zty {α : Type} (f : α -> D) (xs : List α) (lo hi : Option Int) : zh5 (xs.map f) lo hi = ((xs.drop (HT.sIx xs.length 0 lo)).take (HT.sIx xs.length xs.length hi - HT.sIx xs.length 0 lo)).map f:=by
 unfold zh5
 rw [List.length_map,List.map_take,List.map_drop]
theorem zc6 {α : Type} {f : List Sl -> Option D} {l h : List Sl -> Option (Option Int)} {ρ : List Sl} {g : α -> D} {xs : List α} {lo hi : Option Int} (e : f ρ = some (.lst (xs.map g))) (e1 : l ρ = some lo) (e2 : h ρ = some hi) : mSl f l h ρ = some (((xs.drop (HT.sIx xs.length 0 lo)).take (HT.sIx xs.length xs.length hi - HT.sIx xs.length 0 lo)).map g):=by
 unfold mSl
 rw [e,Option.bind_some]
 show (l ρ).bind (fun lo=>(h ρ).map fun hi=>zh5 (xs.map g) lo hi) = _
 rw [e1,Option.bind_some,e2,<- zty]
 rfl
theorem zor {α : Type} {f : List Sl -> Option D} {l h : List Sl -> Option (Option Int)} {ρ : List Sl} {g : α -> D} {xs : List α} {lo hi : Option Int} (e : f ρ = some (.kl (xs.map g))) (e1 : l ρ = some lo) (e2 : h ρ = some hi) : mSl f l h ρ = some (((xs.drop (HT.sIx xs.length 0 lo)).take (HT.sIx xs.length xs.length hi - HT.sIx xs.length 0 lo)).map g):=by
 unfold mSl
 rw [e,Option.bind_some]
 show (l ρ).bind (fun lo=>(h ρ).map fun hi=>zh5 (xs.map g) lo hi) = _
 rw [e1,Option.bind_some,e2,<- zty]
 rfl
theorem zof {α : Type} (xs : List α) (f : α -> D) : dEq (.lst (xs.map f)) (.lst []) = some (.bl xs.isEmpty):=by cases xs <;> rfl
theorem zjl {α : Type} (xs : List α) (f : α -> D) : dNe (.lst (xs.map f)) (.lst []) = some (.bl (!xs.isEmpty)):=by cases xs <;> rfl
theorem z7m {α : Type} (g : α -> D) (d : α) : ∀ (xs : List α),zgj 0 (xs.map g) = (List.range xs.length).map fun i=>D.tup [.int (i : Nat),g (xs.getD i d)]:=fun xs=>by
 refine List.ext_getElem? fun i=>?_
 rw [zlu,List.getElem?_map,List.getElem?_map]
 by_cases h : i < xs.length
 ·rw [List.getElem?_eq_getElem h,List.getElem?_range h,Nat.zero_add]
  simp [h]
 ·rw [List.getElem?_eq_none (by omega),List.getElem?_eq_none (by rw [List.length_range]; omega)]
  rfl
theorem zie {α : Type} {f : List Sl -> Option (List D)} {ρ : List Sl} {g : α -> D} {xs : List α} (d : α) (e : f ρ = some [.lst (xs.map g)]) : zfi f ρ = some ((List.range xs.length).map fun i=>D.tup [.int (i : Nat),g (xs.getD i d)]):=by
 unfold zfi
 rw [e,<- z7m]
 rfl
theorem z5c {α : Type} (f : α -> Bool) (xs : List α) : (xs.map fun x=>D.bl (f x)) = (xs.map f).map D.bl:=by
 rw [List.map_map]
 rfl
theorem z4g {α : Type} (f : α -> Int) (xs : List α) : (xs.map fun x=>D.int (f x)) = (xs.map f).map D.int:=by
 rw [List.map_map]
 rfl
noncomputable def kJ (J : List Sl -> Prop) (o : Fl) : Prop:=∃ ρ',o = .nx ρ' /\ J ρ'
theorem k_J {J : List Sl -> Prop} {ρ : List Sl} (h : J ρ) : kJ J (.nx ρ):=⟨ρ,rfl,h⟩
theorem zig {S F : List Sl -> Option Fl} {ρ : List Sl} {K : Fl -> Prop} (J : List Sl -> Prop) (h : wp S ρ (kJ J)) (k : ∀ ρ',J ρ' -> wp F ρ' K) : wp (zai S F) ρ K:=by
 apply zam
 obtain ⟨o,e,ρ',rfl,j⟩:=h
 exact ⟨_,e,k ρ' j⟩
theorem zgx {i : Nat} {ρ : List Sl} {d : List D} {K : Fl -> Prop} (h : ρ[i]? = some (.own d)) (k : K (.rtO d)) : wp (ze1 i) ρ K:=⟨_,by unfold ze1; rw [h],k⟩
noncomputable def D.flat : D -> Bool
 | .tup xs=>xs.all D.scalar
 | d=>d.scalar
noncomputable def zic (Hf H : Hp) : Hp:=fun a=>match H a with
 | some (.tup vs)=>some (.tup vs)
 | _=>Hf a
theorem zp0 {Hf H : Hp} {a : Addr} {vs : List V} (h : H a = some (.tup vs)) : zic Hf H a = some (.tup vs):=by
 unfold zic
 rw [h]
theorem zrg {Hf H : Hp} {a : Addr} (h : ∀ vs,H a ≠ some (.tup vs)) : zic Hf H a = Hf a:=by
 unfold zic
 split
 ·rename_i vs e
  exact absurd e (h vs)
 ·rfl
theorem z77 {Hf H H' : Hp} (s : za7 Hf H) (g : za7 H H') : Ext Hf H (zic Hf H') H':=by
 refine ⟨fun b u e=>?_,g,fun b u e=>?_,fun l o e t=>zrg fun vs q=>?_⟩
 ·have e':=g b u (s b u e)
  cases u with
  | tup vs=>exact zp0 e'
  | _ =>
   rw [zrg (fun vs q=>by rw [e'] at q; cases q)]
   exact e
 ·by_cases h : ∃ vs,H' b = some (.tup vs)
  ·obtain ⟨vs,h⟩:=h
   rw [zp0 h] at e
   rw [h]
   exact e
  ·rw [zrg (fun vs q=>h ⟨vs,q⟩)] at e
   exact g b u (s b u e)
 ·rw [g l o e] at q
  cases q
  cases t
theorem zas.sc {G : Gc} {H H' : Hp} : ∀ {ds : List D} {vs : List V},ds.all D.scalar = true -> zas G H ds vs -> zas G H' ds vs
 | [],_,_,h=>h
 | d :: ds,_,hs,⟨v,r,e,h1,h2⟩=>by
  rw [List.all_cons,Bool.and_eq_true] at hs
  exact ⟨v,r,e,h1.sc hs.1,zas.sc hs.2 h2⟩
theorem Rep.flat {G : Gc} {Hf H : Hp} {d : D} {v : V} (hs : d.flat = true) (r : Rep G H d v) : Rep G (zic Hf H) d v:=by
 cases d with
 | tup xs =>
  obtain ⟨a,vs,e,h,q⟩:=r
  exact ⟨a,vs,e,zp0 h,q.sc hs⟩
 | non=>exact r.sc hs
 | bl _=>exact r.sc hs
 | int _=>exact r.sc hs
 | str _=>exact r.sc hs
 | lst _=>cases hs
 | kl _=>cases hs
 | kt _=>cases hs
 | dic _ _=>cases hs
 | ins _ _ _=>cases hs
section
variable {c : Str -> Addr} {X : Cx} {e : Expr} {es : List Expr} {x : Str} {p pos : Pos} {k : Nat} {f : Addr} {fd : FuncData} {ps : List Str} {fa : List Sl -> Option (List D)}
noncomputable def zmb (m : List D -> Option D) (f : List Sl -> Option (List D)) (ρ : List Sl) : Option D:=(f ρ).bind fun ds=>(m ds).bind fun d=>if d.flat then some d else none
theorem z89 {m : List D -> Option D} (F : zax X.prog X.w X.K X.mg X.base CX0 k f fd ps (spD (Gx c X) ps.length m)) (hr : zcf k X.A) (hg : Gl X x) (hm : X.mg x = some (.ref f)) (hk : PySem.W.keepIn X.K (.ref f) = true) (hb : za2 X.K fd ps []) (ha : DAB c X (e :: es) fa)
  (hl : (e :: es).length = ps.length:=by rfl) (hdb : (x == ("__debug__" : Str)) = false:=by decide) (he : starEach (e :: es) X.env = (false,eval e X.env) :: starEach es X.env:=by rfl) (hpl : (backTo pos (starEach es X.env)).any (·.1) = false:=by rfl) :
  DE c X (.Call (.Name x p) (e :: es) [] pos) (zmb m fa):=PE.imp (zih F hr hg hm hk hb .nil zgo ha.pa hdb he hpl) fun σ H Q q_=>by
 obtain ⟨Hf0,H0,Hf,ρ,d,st,ef,kq⟩:=q_
 unfold zmb at ef
 cases e1 : fa ρ with
 | none=>rw [e1] at ef; cases ef
 | some ds =>
  rw [e1] at ef
  replace ef : (m ds).bind _ = _:=ef
  cases e2 : m ds with
  | none=>rw [e2] at ef; cases ef
  | some d' =>
   rw [e2] at ef
   replace ef : (if d'.flat = true then some d' else none) = some d:=ef
   split at ef
   ·rename_i hs
    cases ef
    refine ⟨Hf0,H0,Hf,ρ,ds,st,e1,fun vs Hf' H' x r=>?_⟩
    dsimp only
    rw [List.append_nil]
    exact ⟨H',ds,_,za7.refl _,r,(ha.len ρ ds e1).trans hl,e2,fun v Hf2 H2 x2 r2=>kq v (zic Hf' H2) H2 (x.trans (z77 x.s x2.h)) ((r2.up x2.s).flat hs)⟩
   ·cases ef
theorem z2b {m : List D -> Option D} (F : zax X.prog X.w X.K X.mg X.base CX0 k f fd ps (spD (Gx c X) ps.length m)) (hr : zcf k X.A) (hg : Gl X x) (hm : X.mg x = some (.ref f)) (hk : PySem.W.keepIn X.K (.ref f) = true) (hb : za2 X.K fd ps []) (ha : DAB c X (e :: es) fa)
  (hl : (e :: es).length = ps.length:=by rfl) (hdb : (x == ("__debug__" : Str)) = false:=by decide) (he : starEach (e :: es) X.env = (false,eval e X.env) :: starEach es X.env:=by rfl) (hpl : (backTo pos (starEach es X.env)).any (·.1) = false:=by rfl) :
  DB c X (.Call (.Name x p) (e :: es) [] pos) (zap m fa):=PE.imp (zih F hr hg hm hk hb .nil zgo ha.pa hdb he hpl) fun σ H Q q_=>by
 obtain ⟨Hf0,H0,Hf,ρ,d,st,ef,kq⟩:=q_
 obtain ⟨ds,e1,e2⟩:=zqd ef
 refine ⟨Hf0,H0,Hf,ρ,ds,st,e1,fun vs Hf' H' x r=>?_⟩
 dsimp only
 rw [List.append_nil]
 exact ⟨H',ds,d,za7.refl _,r,(ha.len ρ ds e1).trans hl,e2,fun v Hf2 H2 x2 r2=>kq v Hf' H2 (x.trans (Ext.grow x.s x2.h)) (r2.up x2.s)⟩
noncomputable def zim (m m' : D -> D -> Option D) (f g h : List Sl -> Option D) (ρ : List Sl) : Option D:=(f ρ).bind fun x=>(g ρ).bind fun y=>(m x y).bind fun z=>match z with
 | .bl true=>(h ρ).bind fun w=>m' y w
 | .bl false=>some (.bl false)
 | _=>none
theorem z6z {m m' : D -> D -> Option D} {f g h : List Sl -> Option D} {ρ : List Sl} {d : D} (e : zim m m' f g h ρ = some d) : ∃ x y b,f ρ = some x /\ g ρ = some y /\ m x y = some (.bl b) /\ (b = false -> d = .bl false) /\ (b = true -> ∃ w,h ρ = some w /\ m' y w = some d):=by
 unfold zim at e
 cases e1 : f ρ with
 | none=>rw [e1] at e; cases e
 | some x =>
  cases e2 : g ρ with
  | none=>rw [e1,e2] at e; cases e
  | some y =>
   rw [e1,e2,Option.bind_some,Option.bind_some] at e
   cases e3 : m x y with
   | none=>rw [e3] at e; cases e
   | some z =>
    rw [e3,Option.bind_some] at e
    cases z with
    | bl b =>
     cases b with
     | false =>
      have e : some (D.bl false) = some d:=e
      exact ⟨x,y,false,rfl,rfl,e3,fun _=>(Option.some.inj e).symm,fun q=>by cases q⟩
     | true =>
      have e : (h ρ).bind (fun w=>m' y w) = some d:=e
      cases e4 : h ρ with
      | none=>rw [e4] at e; cases e
      | some w=>rw [e4] at e; exact ⟨x,y,true,rfl,rfl,e3,fun q=>(by cases q),fun _=>⟨w,rfl,e⟩⟩
    | _=>cases e
theorem z22 {a b c' : Expr} {op op' : CmpOp} {m m' : D -> D -> Option D} {f g h : List Sl -> Option D} (ho : OpD c X (compareOp op) m) (hs : ∀ x y d,m x y = some d -> d.scalar = true) (ho' : OpD c X (compareOp op') m') (hs' : ∀ x y d,m' x y = some d -> d.scalar = true) (ha : DB c X a f) (hb : DB c X b g) (hc : DB c X c' h)
  (hm : lastMarks [op,op'] [b,c'] = false:=by with_unfolding_all rfl) : DE c X (.Compare a [op,op'] [b,c'] pos) (zim m m' f g h):=PE.imp (zyd ho ho' ha hb hc hm) fun σ H Q q_=>by
 obtain ⟨Hf0,H0,Hf,ρ,d,st,ef,k⟩:=q_
 obtain ⟨x,y,b',e1,e2,e3,eF,eT⟩:=z6z ef
 refine ⟨Hf0,H0,Hf,ρ,x,st,e1,fun v Hf1 H1 x1 r1=>⟨Hf0,H0,Hf1,ρ,y,st.step x1,e2,fun u Hf2 H2 x2 r2=>⟨H2,x,y,.bl b',za7.refl _,r1.up x2.h,r2,e3,fun z Hf3 H3 x3 r3=>⟨b',r3,?_⟩⟩⟩⟩
 have x23 : Ext Hf2 H2 Hf2 H3:=Ext.grow x2.s x3.h
 have st3 : za1 (Gx c X) Hf0 H0 Hf2 H3 σ ρ:=(st.step (x1.trans x2)).step x23
 cases b' with
 | false =>
  rw [if_neg Bool.false_ne_true]
  exact k _ Hf2 H3 ((x1.trans x2).trans x23) (by rw [eF rfl]; rfl)
 | true =>
  rw [if_pos rfl]
  obtain ⟨w,e4,e5⟩:=eT rfl
  exact ⟨Hf0,H0,Hf2,ρ,w,st3,e4,fun w' Hf4 H4 x4 r4=>⟨H4,y,w,d,za7.refl _,r2.up (x3.h.trans x4.h),r4,e5,fun q Hf5 H5 x5 r5=>k _ Hf4 H5 (((x1.trans x2).trans x23).trans (x4.trans (Ext.grow x4.s x5.h))) (r5.sc (hs' _ _ _ e5))⟩⟩
end
theorem zvm {m : List D -> Option (List D)} {f : List Sl -> Option (List D)} {ρ : List Sl} {ds rs : List D} (h : f ρ = some ds) (h' : m ds = some rs) : zjq m f ρ = some rs:=by
 unfold zjq
 rw [h,Option.bind_some,h']
theorem zvi {n : Nat} {F : List Sl -> Option Fl} {ds rs : List D} (h : F (zdt n ds) = some (.rtO rs)) : zjr n F ds = some rs:=by
 unfold zjr
 rw [h]
 rfl
theorem z59 {m : List D -> Option D} {f : List Sl -> Option (List D)} {ρ : List Sl} {ds : List D} {d : D} (h : f ρ = some ds) (h' : m ds = some d) (hs : d.flat = true) : zmb m f ρ = some d:=by
 unfold zmb
 rw [h,Option.bind_some,h',Option.bind_some,if_pos hs]
theorem z1t {m m' : D -> D -> Option D} {f g h : List Sl -> Option D} {ρ : List Sl} {x y w : D} {b b' : Bool} (e1 : f ρ = some x) (e2 : g ρ = some y) (e3 : m x y = some (.bl b)) (e4 : h ρ = some w) (e5 : m' y w = some (.bl b')) : zim m m' f g h ρ = some (.bl (b && b')):=by
 unfold zim
 rw [e1,Option.bind_some,e2,Option.bind_some,e3,Option.bind_some]
 cases b with
 | false=>rfl
 | true =>
  show (h ρ).bind (fun w=>m' y w) = _
  rw [e4]
  exact e5
noncomputable def tSL (K : PySem.W.Frag) (te : TE) : TE:=fun σ H Q=>te σ H fun x H1=>∃ l ns,x = .ref l /\ SqL K H1 l (ns.map V.int) /\ ns.length < 64 /\ ns.Nodup /\ ∀ p,H1 p = none -> Q (.ref p) (upd H1 p (.lst ((zct ns).map V.int)))
theorem z2e {ns out : List Int} (nd : ns.Nodup) (p : out.Perm ns) (hs : out.Pairwise (· <= ·)) : out = zct ns:=by
 have nd' : out.Nodup:=p.nodup_iff.mpr nd
 have lt : out.Pairwise (· < ·):=by
  refine List.Pairwise.imp₂ (fun a b h1 h2=>?_) hs nd'
  exact Int.lt_iff_le_and_ne.mpr ⟨h1,h2⟩
 exact ztw _ _ lt (zok _) fun k=>by rw [zl9]; exact p.mem_iff
section
variable {X : Cx} {e : Expr} {te : TE} {p pos : Pos}
theorem zy0 (hgs : Gl X "sorted") (hms : X.mg "sorted" = none) (he : PE X e te) (h1 : starEach [e] X.env = (false,eval e X.env) :: starEach [] X.env:=by rfl) (hpl : (backTo pos (starEach [] X.env)).any (·.1) = false:=by rfl) :
  PE X (.Call (.Name "sorted" p) [e] [] pos) (tSL X.K te):=by
 intro pins s σ H Q I h
 refine wpAny_Call_Name_kw (zg9 I hgs hms boot_sorted ?_)
 refine PyProof.Rows.callWith_builtin1 ?_ h1 hpl
 rw [h1]
 show wpAny _ _ (spliced ((false,eval e X.env) :: backTo pos (starEach [] X.env))) _ _ s
 refine Calls.spliced_cons (thn (he pins s σ H _ I h) fun u s1 q_=>?_)
 obtain ⟨x,H1,I1,r1,l,ns,e1,hq,h64,nd,q⟩:=q_
 subst e1
 cases r1
 refine wpAny_pure ?_
 obtain ⟨its,rr,pl,hz⟩:=I1.list hq
 have ii : IntsAre its ns:=zpq rr
 refine sorted_ints pl.isList ii (by rw [ii.length]; exact h64) fun out ns' o1 o2 o3=>?_
 obtain ⟨ep,ge⟩:=sortedAll_at s1.heap its out
 have en : ns' = zct ns:=z2e nd o2 o3
 subst en
 have hl:=o2.length_eq
 refine ⟨.ref (s1.heap.objs.size + 1),_,(I1.laid (t':=s1.toks) (a:=s1.heap.objs.size + 1) (o:=.lst ((zct ns).map V.int)) (fun b u g=>sortedAll_old g) (Nat.le_succ _) ?_),rfl,q _ (I1.hok.fresh (Nat.le_succ _))⟩
 exact ⟨by rw [List.length_map,sizeLine_eq]; omega,out.toList,ep,zvz o1,by simpa using ge⟩
end
noncomputable def zli (f : List Sl -> Option D) (ρ : List Sl) : Option (List D):=(f ρ).bind fun d=>(lsD d).bind fun ds=>(zsD ds).bind fun ns=>if ns.length < 64 /\ ns.Nodup then some ((zct ns).map .int) else none
section
variable {c : Str -> Addr} {X : Cx} {e : Expr} {p pos : Pos}
theorem z4b {f : List Sl -> Option D} (_hc : X.calm = true) (hgs : Gl X "sorted") (hms : X.mg "sorted" = none) (ha : DE c X e f)
  (h1 : starEach [e] X.env = (false,eval e X.env) :: starEach [] X.env:=by rfl) (hpl : (backTo pos (starEach [] X.env)).any (·.1) = false:=by rfl) : DO c X (.Call (.Name "sorted" p) [e] [] pos) (zli f) :=
 PE.imp (zy0 hgs hms ha h1 hpl) fun σ H Q q_=>by
  obtain ⟨Hf0,H0,Hf,ρ,ds,st,ef,k⟩:=q_
  unfold zli at ef
  cases e1 : f ρ with
  | none=>rw [e1] at ef; cases ef
  | some d =>
   rw [e1] at ef
   cases e2 : lsD d with
   | none=>rw [Option.bind_some,e2] at ef; cases ef
   | some xs =>
    rw [Option.bind_some,e2] at ef
    cases e3 : zsD xs with
    | none=>rw [Option.bind_some,e3] at ef; cases ef
    | some ns =>
     rw [Option.bind_some,e3,Option.bind_some] at ef
     split at ef
     ·rename_i hl
      cases ef
      refine ⟨Hf0,H0,Hf,ρ,d,st,e1,fun v Hf' H' x r=>?_⟩
      obtain ⟨l,vs,el,q,rs⟩:=zgt e2 r
      rw [zrp e3] at rs
      have ev:=zq3 rs
      subst ev el
      exact ⟨l,ns,rfl,x.s.seq q,hl.1,hl.2,fun pp hp=>k pp _ Hf' _ (x.trans (Ext.tmp x.s hp)) (x.h.free hp) (x.s.free hp) zcg (zas.ints _)⟩
     ·cases ef
end
theorem z0c {f : List Sl -> Option D} {ρ : List Sl} {ns : List Int} (h : f ρ = some (.lst (ns.map D.int))) (h1 : ns.length < 64) (h2 : ns.Nodup) : zli f ρ = some ((zct ns).map D.int):=by
 unfold zli
 rw [h,Option.bind_some]
 show (zsD (ns.map D.int)).bind _ = _
 rw [zoz,Option.bind_some,if_pos ⟨h1,h2⟩]
theorem zv8 {k : Int} {n : Nat} (h : k.natAbs < 2 ^ n) : Builtin.Int.intBits k <= n:=by
 unfold Builtin.Int.intBits
 split
 ·exact Nat.zero_le _
 ·rename_i hk
  have : k.natAbs ≠ 0:=fun z=>hk (by rw [Int.natAbs_eq_zero.mp z]; rfl)
  exact (Nat.log2_lt this).mpr h
noncomputable def zgb (i j : Int) : Prop:=zlv i j \/ (i.natAbs < 2 ^ 200 /\ j.natAbs < 2 ^ 200)
theorem zgb.ok {i j : Int} (h : zgb i j) : IntMulOk i j:=by
 rcases h with h | ⟨h1,h2⟩
 ·exact h.ok
 ·have a:=zv8 h1
  have b:=zv8 h2
  unfold IntMulOk
  have : Builtin.Int.intTooBig (Builtin.Int.intBits i + Builtin.Int.intBits j) = false:=by
   unfold Builtin.Int.intTooBig
   have c : (400 : Int) <= bitsLine:=by decide
   exact decide_eq_false (by omega)
  rw [this,Bool.and_false]
  exact Bool.false_ne_true
noncomputable instance {i j : Int} : Decidable (zgb i j):=by unfold zgb; infer_instance
noncomputable abbrev zdd : D -> D -> Option D:=dI zgb fun i j=>.int (i * j)
section
variable {c : Str -> Addr} {X : Cx}
theorem zyv : OpR X (binaryOp .Mult) (rI zgb fun i j=>.int (i * j)):=opI fun _ _ _ _ _ _ _ hc q=>mul_int q hc.ok
theorem zfv : OpD c X (binaryOp .Mult) zdd:=zmo zyv fun _ _ _ _=>rfl
end
theorem zxo {i j : Int} (h : zgb i j) : zdd (.int i) (.int j) = some (.int (i * j)):=zmu h
noncomputable def zg2 (g : D -> List Sl -> Option (List Sl)) (f : List Sl -> Option D) (ρ : List Sl) : Option Fl:=(f ρ).bind fun d=>(g d ρ).map .nx
section
variable {c : Str -> Addr} {X : Cx} {e tg : Expr} {pos : Pos}
theorem zl6 {k : Nat} {g : D -> List Sl -> Option (List Sl)} {f : List Sl -> Option D} (he : DE c X e f) (hg : DG c X tg k g) (hs : swapsWithSole [tg] e pos.line X.env = pure false:=by rfl) (hw : swappedStores [tg] e X.env = pure none:=by rfl)
  (h1 : (assignEach [tg] X.env).map (·.2) = [assign tg X.env]:=by rfl) : DS c X (.Assign [tg] e pos) (zg2 g f):=PS.imp (zup he hg.pg hs hw h1) fun E σ H q_=>by
 obtain ⟨Hf0,H0,Hf,ρ,o,so,ef,kq⟩:=q_
 unfold zg2 at ef
 cases e1 : f ρ with
 | none=>rw [e1] at ef; cases ef
 | some d =>
  rw [e1,Option.bind_some] at ef
  cases e2 : g d ρ with
  | none=>rw [e2] at ef; cases ef
  | some ρ' =>
   rw [e2] at ef
   cases ef
   exact ⟨Hf0,H0,Hf,ρ,d,so,e1,fun v Hf' H' x r=>⟨Hf0,H0,Hf',ρ,d,ρ',so.step x,r,e2,fun σ' so'=>kq σ' Hf' H' x.f so'⟩⟩
end
theorem zhj {g : D -> List Sl -> Option (List Sl)} {f : List Sl -> Option D} {ρ ρ' : List Sl} {d : D} {K : Fl -> Prop} (h : f ρ = some d) (h' : g d ρ = some ρ') (k : K (.nx ρ')) : wp (zg2 g f) ρ K:=⟨_,by unfold zg2; rw [h,Option.bind_some,h']; rfl,k⟩
set_option maxRecDepth 100000
section
variable {P : Program} {w : World} {A : Around} {E : Value -> Shared -> Prop} {s : Shared} {it l : Addr}
end
section
variable {X : Cx} {tg : Expr}
end
section
variable {c : Str -> Addr} {X : Cx} {a tg : Expr} {pos p : Pos}
end
section
variable {c : Str -> Addr} {X : Cx}
end
noncomputable def zf1 (H : Hp) (l : Addr) : Hp:=fun a=>if a = l then none else H a
theorem zpk {H : Hp} {l : Addr} : zf1 H l l = none:=by unfold zf1; rw [if_pos rfl]
theorem zru {H : Hp} {l a : Addr} (h : a ≠ l) : zf1 H l a = H a:=by unfold zf1; rw [if_neg h]
theorem z36 {H : Hp} {l : Addr} : za7 (zf1 H l) H:=fun a o e=>by
 by_cases h : a = l
 ·subst h; rw [zpk] at e; cases e
 ·rw [zru h] at e; exact e
theorem znm {F H : Hp} {l : Addr} (s : za7 F H) (h : F l = none) : za7 F (zf1 H l):=fun a o e=>by
 rw [zru (zdm e h)]; exact s a o e
section
variable {P : Program} {w : World} {K : PySem.W.Frag} {mg : Str -> Option Value} {base : Heap} {c : Str -> Addr}
end
noncomputable def tDX (G : Gc) (f : List Sl -> Option (D × List Sl)) : TE:=fun σ H Q=>∃ Hf0 H0 Hf ρ d ρ',za1 G Hf0 H0 Hf H σ ρ /\ f ρ = some (d,ρ') /\ ∀ v Hf' H',za7 Hf Hf' -> za1 G Hf0 H0 Hf' H' σ ρ' -> Rep G Hf' d v -> Q v H'
noncomputable def DX (c : Str -> Addr) (X : Cx) (e : Expr) (f : List Sl -> Option (D × List Sl)) : Prop:=PE X e (tDX (Gx c X) f)
section
variable {c : Str -> Addr} {X : Cx} {k : Nat} {f C : Addr} {fd : FuncData} {ps : List Str} {x : Str} {p pos apos : Pos} {e o tg iter : Expr} {es : List Expr} {fa ga : List Sl -> Option (List D)} {i : Nat}
end
theorem Ext.tmp2 {Hf H Hf2 H2 : Hp} {p : Addr} {o o' : HO} (s : za7 Hf H) (hp : H p = none) (ht : zo7 o = false) (x : Ext Hf (upd H p o) Hf2 H2) : Ext Hf H Hf2 (upd H2 p o'):=by
 have hf : Hf2 p = none:=(x.n p o zcg ht).trans (s.free hp)
 refine ⟨x.f,fun b u e=>?_,fun b u e=>?_,fun l u e t=>x.n l u (by rw [zb1 (zdm e hp)]; exact e) t⟩
 ·have hb:=zdm e hp
  rw [zb1 hb]
  exact x.h b u (by rw [zb1 hb]; exact e)
 ·rw [zb1 (zdm e hf)]
  exact x.s b u e
noncomputable def znw (k1 k2 k3 : Str) (a b c y : D) : Option D:=match y with
 | .str w=>if w = k1 then some a else if w = k2 then some b else if w = k3 then some c else none
 | _=>none
noncomputable def zis (k1 k2 k3 : Str) (f1 f2 f3 g : List Sl -> Option D) (ρ : List Sl) : Option D:=(f1 ρ).bind fun a=>(f2 ρ).bind fun b=>(f3 ρ).bind fun c=>(g ρ).bind fun y=>znw k1 k2 k3 a b c y
section
variable {c : Str -> Addr} {X : Cx} {v1 v2 v3 ix : Expr} {dpos pos p1 p2 p3 : Pos} {f1 f2 f3 g : List Sl -> Option D}
theorem z2o (k1 k2 k3 : Str) {j1 j2 j3} (hu : X.A.units + 64 < cLine) (h1 : DE c X v1 f1) (h2 : DE c X v2 f2) (h3 : DE c X v3 f3) (hg : DE c X ix g) (hs : zqt ix)
  (e1 : ∀ a b c : V,zek (zgg [] [(.inr k1,a),(.inr k2,b),(.inr k3,c)]) (.inr k1) = some a) (e2 : ∀ a b c : V,zek (zgg [] [(.inr k1,a),(.inr k2,b),(.inr k3,c)]) (.inr k2) = some b) (e3 : ∀ a b c : V,zek (zgg [] [(.inr k1,a),(.inr k2,b),(.inr k3,c)]) (.inr k3) = some c) :
  DE c X (.Subscript (.Dict [some (.Constant (.str k1) j1 p1),some (.Constant (.str k2) j2 p2),some (.Constant (.str k3) j3 p3)] [v1,v2,v3] dpos) ix pos) (zis k1 k2 k3 f1 f2 f3 g) :=
 PE.imp (z7e (by omega) (z6j (zqr zn2 h1 (zqr zn2 h2 (zqr zn2 h3 z1s))) rfl rfl (by intro z; cases z) (Nat.le_of_ble_eq_true rfl)) hg hs) fun σ H Q q_=>by
  obtain ⟨Hf0,H0,Hf,ρ,d,st,ef,k⟩:=q_
  unfold zis at ef
  cases a1 : f1 ρ with
  | none=>rw [a1] at ef; cases ef
  | some a =>
   cases a2 : f2 ρ with
   | none=>rw [a1,a2] at ef; cases ef
   | some b =>
    cases a3 : f3 ρ with
    | none=>rw [a1,a2,a3] at ef; cases ef
    | some cc =>
     cases a4 : g ρ with
     | none=>rw [a1,a2,a3,a4] at ef; cases ef
     | some y =>
      rw [a1,a2,a3,a4] at ef
      replace ef : znw k1 k2 k3 a b cc y = some d:=ef
      intro p hp
      have st1:=st.step (Ext.tmp (o:=.dK []) st.sub hp)
      refine ⟨Hf0,H0,Hf,ρ,a,st1,a1,fun va Hf1 H1 x1 r1=>⟨Hf0,H0,Hf1,ρ,b,st1.step x1,a2,fun vb Hf2 H2 x2 r2=>⟨Hf0,H0,Hf2,ρ,cc,(st1.step x1).step x2,a3,fun vc Hf3 H3 x3 r3=>?_⟩⟩⟩
      have x:=(x1.trans x2).trans x3
      refine ⟨x.h p _ zcg,[(.inr k1,va),(.inr k2,vb),(.inr k3,vc)],rfl,Nat.le_of_ble_eq_true rfl,?_⟩
      have x':=Ext.tmp2 (o':=.dK (zgg [] [(.inr k1,va),(.inr k2,vb),(.inr k3,vc)])) st.sub hp rfl x
      refine ⟨Hf0,H0,Hf3,ρ,y,st.step x',a4,fun vy Hf4 H4 x4 r4=>?_⟩
      have hd : H4 p = some (.dK (zgg [] [(.inr k1,va),(.inr k2,vb),(.inr k3,vc)])):=x4.h p _ zcg
      unfold znw at ef
      split at ef
      ·rename_i w
       cases (show vy = V.str w from r4)
       split at ef
       ·rename_i hw
        cases ef
        subst hw
        exact ⟨p,va,rfl,(e1 va vb vc) ▸ zfu.k (k:=.inr w) hd,k va Hf4 H4 (x'.trans x4) ((r1.up (x2.f.trans x3.f)).up x4.f)⟩
       ·split at ef
        ·rename_i hw
         cases ef
         subst hw
         exact ⟨p,vb,rfl,(e2 va vb vc) ▸ zfu.k (k:=.inr w) hd,k vb Hf4 H4 (x'.trans x4) ((r2.up x3.f).up x4.f)⟩
        ·split at ef
         ·rename_i hw
          cases ef
          subst hw
          exact ⟨p,vc,rfl,(e3 va vb vc) ▸ zfu.k (k:=.inr w) hd,k vc Hf4 H4 (x'.trans x4) (r3.up x4.f)⟩
         ·cases ef
      ·cases ef
end
section
variable {P : Program} {w : World} {A : Around} {E : Value -> Shared -> Prop} {s : Shared} {it l : Addr}
end
section
variable {X : Cx} {e : Expr} {te : TE} {p p2 pos pos2 : Pos}
end
section
variable {c : Str -> Addr} {X : Cx} {p p2 p3 pos pos2 : Pos}
end
noncomputable def tLS (K : PySem.W.Frag) (te : TE) : TE:=fun σ H Q=>te σ H fun x H1=>∃ l ns,x = .ref l /\ SqL K H1 l (ns.map V.int) /\ ns.length < 4000 /\ Q (.int ((zct ns).length : Nat)) H1
section
variable {X : Cx} {e : Expr} {te : TE} {p p2 pos pos2 : Pos}
theorem zxc (hc : X.calm = true) (hgs : Gl X "len") (hms : X.mg "len" = none) (hgt : Gl X "set") (hmt : X.mg "set" = none) (he : PE X e te)
  (h1 : starEach [.Call (.Name "set" p2) [e] [] pos2] X.env = (false,eval (.Call (.Name "set" p2) [e] [] pos2) X.env) :: starEach [] X.env:=by rfl) (h2 : starEach [e] X.env = (false,eval e X.env) :: starEach [] X.env:=by rfl)
  (hpl : (backTo pos (starEach [] X.env)).any (·.1) = false:=by rfl) (hpl2 : (backTo pos2 (starEach [] X.env)).any (·.1) = false:=by rfl) :
  PE X (.Call (.Name "len" p) [.Call (.Name "set" p2) [e] [] pos2] [] pos) (tLS X.K te):=by
 intro pins s σ H Q I h
 refine wpAny_Call_Name_kw (zg9 I hgs hms PySem.boot_len ?_)
 refine PyProof.Rows.callWith_builtin1 ?_ h1 hpl
 rw [h1]
 show wpAny _ _ (spliced ((false,eval (.Call (.Name "set" p2) [e] [] pos2) X.env) :: backTo pos (starEach [] X.env))) _ _ s
 refine Calls.spliced_cons (wpAny_Call_Name_kw (zg9 I hgt hmt boot_set ?_))
 refine PyProof.Rows.callWith_type1 ?_ h2 hpl2
 rw [h2]
 show wpAny _ _ (spliced ((false,eval e X.env) :: backTo pos2 (starEach [] X.env))) _ _ s
 refine Calls.spliced_cons (thn (he pins s σ H _ I h) fun u s1 q_=>?_)
 obtain ⟨x,H1,I1,r1,l,ns,e1,hq,hb,q⟩:=q_
 subst e1
 cases r1
 refine wpAny_pure ?_
 obtain ⟨its,rr,pl,hz⟩:=I1.list hq
 have ii : IntsAre its ns:=zpq rr
 have zz : its.toArray.size = ns.length:=by rw [List.size_toArray,ii.length]
 refine zyp (items:=its.toArray) (ns:=ns) (I1.ok.hd hc) pl.isList (by simpa using ii) (by rw [zz]; unfold scanBound; omega) fun h' tk qs keep htk=>?_
 rw [zz] at qs
 refine wpAny_pure ?_
 obtain ⟨o,ents,ep,tb,ho,hex,hd,_,_,hsb,hf,hn,_,_⟩:=qs
 refine call_len_set (s:={ s1 with heap:=h',toks:=tk }) ho hex hd hf (by unfold scanBound at hsb; omega) ?_
 refine ⟨.int ((zct ns).length : Nat),H1,I1.kept fun b u g=>keep b u (Heap.lt_size g) g,?_,q⟩
 rw [hn,<- zsw]
 exact ⟨_,rfl⟩
end
noncomputable def zlh (f : List Sl -> Option D) (ρ : List Sl) : Option D:=(f ρ).bind fun d=>(lsD d).bind fun ds=>(zsD ds).bind fun ns=>if ns.length < 4000 then some (.int ((zct ns).length : Nat)) else none
theorem z1u {f : List Sl -> Option D} {ρ : List Sl} {ns : List Int} (h : f ρ = some (.lst (ns.map D.int))) (hl : ns.length < 4000) : zlh f ρ = some (.int ((zct ns).length : Nat)):=by
 unfold zlh
 rw [h]
 show ((zsD (ns.map D.int)).bind fun ns=>if ns.length < 4000 then some (D.int ((zct ns).length : Nat)) else none) = _
 rw [zoz]
 show (if ns.length < 4000 then some (D.int ((zct ns).length : Nat)) else none) = _
 rw [if_pos hl]
section
variable {c : Str -> Addr} {X : Cx} {e : Expr} {p p2 pos pos2 : Pos}
theorem zzn {f : List Sl -> Option D} (hc : X.calm = true) (hgs : Gl X "len") (hms : X.mg "len" = none) (hgt : Gl X "set") (hmt : X.mg "set" = none) (ha : DE c X e f)
  (h1 : starEach [.Call (.Name "set" p2) [e] [] pos2] X.env = (false,eval (.Call (.Name "set" p2) [e] [] pos2) X.env) :: starEach [] X.env:=by rfl) (h2 : starEach [e] X.env = (false,eval e X.env) :: starEach [] X.env:=by rfl)
  (hpl : (backTo pos (starEach [] X.env)).any (·.1) = false:=by rfl) (hpl2 : (backTo pos2 (starEach [] X.env)).any (·.1) = false:=by rfl) : DE c X (.Call (.Name "len" p) [.Call (.Name "set" p2) [e] [] pos2] [] pos) (zlh f) :=
 PE.imp (zxc hc hgs hms hgt hmt ha h1 h2 hpl hpl2) fun σ H Q q_=>by
  obtain ⟨Hf0,H0,Hf,ρ,ds,st,ef,k⟩:=q_
  unfold zlh at ef
  cases e1 : f ρ with
  | none=>rw [e1] at ef; cases ef
  | some d =>
   rw [e1] at ef
   cases e2 : lsD d with
   | none=>rw [Option.bind_some,e2] at ef; cases ef
   | some xs =>
    rw [Option.bind_some,e2] at ef
    cases e3 : zsD xs with
    | none=>rw [Option.bind_some,e3] at ef; cases ef
    | some ns =>
     rw [Option.bind_some,e3,Option.bind_some] at ef
     split at ef
     ·rename_i hl
      cases ef
      refine ⟨Hf0,H0,Hf,ρ,d,st,e1,fun v Hf' H' x r=>?_⟩
      obtain ⟨l,vs,el,q,rs⟩:=zgt e2 r
      rw [zrp e3] at rs
      have ev:=zq3 rs
      subst ev el
      exact ⟨l,ns,rfl,x.s.seq q,hl,k _ Hf' _ x rfl⟩
     ·cases ef
end
theorem z6e (l : Addr) (items : Array Value) (n : Nat) (dct : Option Addr) (sl : Array (Option Value)) (t : Tok) :
  Meets (Builtin.«enumerate.__new__» ⟨[.type "enumerate",.ref l],[("start",.int 1 t)]⟩) (fun _ R s=>s.heap.get? l = some { cls:=.type "list",dict:=dct,data:=.seq items n,slots:=sl } /\
   R (.ok (.ret (.ref (s.heap.push { cls:=.type "list_iterator",data:=.fields #[.ref l,.int 0 0] }).objs.size)))
    { s with heap:=(s.heap.push { cls:=.type "list_iterator",data:=.fields #[.ref l,.int 0 0] }).push { cls:=.type "enumerate",data:=.fields #[.none,.bool false,.ref s.heap.objs.size,rawInt 1,.none,.none] } }):=by
 refine Meets.of_wp fun prog w A R s h=>?_
 obtain ⟨hp,g,d,tk,os⟩:=s
 obtain ⟨hl,h⟩:=h
 have hsub:=sub_enumerate
 have isl : Heap.IsList (Shared.heap ⟨hp,g,d,tk,os⟩) l items:=⟨_,hl,rfl,n,rfl⟩
 wp_walk using wpAny_loadPart' hl
 refine wpAny_stack_any fun st=>wpAny_pure ?_
 split
 ·rename_i c _ _ _ _ _
  cases hc : (c == Value.type "enumerate")
  ·wp_walk using wpAny_loadPart' hl,wpAny_pyIter_list isl
   exact ⟨_,rfl,h⟩
  ·wp_walk using wpAny_loadPart' hl,wpAny_pyIter_list isl
   exact ⟨_,rfl,h⟩
 ·wp_walk using wpAny_loadPart' hl,wpAny_pyIter_list isl
  exact ⟨_,rfl,h⟩
section
variable {P : Program} {w : World} {A : Around} {E : Value -> Shared -> Prop} {s : Shared}
theorem zxl {self x : Value} {kw : List (Str × Value)} : Meets (Builtin.«object.__init__» ⟨[self,x],kw⟩) (fun _ R s=>s.TypeIs self "enumerate" /\ R (.ok (.ret .none)) s):=by
 refine Meets.of_wp fun P1 w1 A1 R1 s1 hs=>?_
 obtain ⟨hT,hq⟩:=hs
 have hl:=F.called_enumerate.init.lookup
 have hm:=F.called_enumerate.made
 repeat (any_goals (first | assumption | wp_step))
 all_goals exact ⟨_,rfl,hq⟩
theorem zzy (obj x : Value) (t : Tok) : argsOk "object.__init__" ⟨[obj,x],[("start",.int 1 t)]⟩:=by unfold argsOk; kernel_rfl
theorem zxy (x : Value) (t : Tok) : checkTypeCall "enumerate" ⟨[x],[("start",.int 1 t)]⟩ = pure ():=by kernel_rfl
theorem z1n (x : Value) (t : Tok) : checkBuiltinCall "enumerate.__new__" ⟨[.type "enumerate",x],[("start",.int 1 t)]⟩ = pure ():=by kernel_rfl
theorem z0d {l : Addr} {t : Tok} {S : PySem.Spec} {Q : Value -> Shared -> Prop} (g : Meets (Builtin.«enumerate.__new__» ⟨[.type "enumerate",.ref l],[("start",.int 1 t)]⟩) S)
  (h : S A.in1 (wants (fun ob s1=>s1.TypeIs ob "enumerate" /\ Q ob s1) E) s) : wpAny (model P w) A (call (.type "enumerate") [.ref l] [("start",.int 1 t)]) Q E s:=by
 have ft:=F.called_enumerate
 obtain ⟨c0,tl0,hmro⟩:=ft.mro
 have hmade:=ft.made
 have hsub:=ft.sub
 have hnt:=ft.notType
 have hcr:=ft.canCreate
 have hct:=zxy (.ref l) t
 have hcn:=z1n (.ref l) t
 refine wpAny_call (codeAny_of_tree ?_)
 show wpAny _ _ (callAny (.type "enumerate") _) _ _ _
 refine wpAny_pure ⟨Code.quiet_builtin _ (by decide +kernel),codeAny_builtin F.entry_type_call ?_⟩
 rw [Around.under_plain (weight_type_call_type "enumerate" [.ref l] [("start",.int 1 t)]) (units_type_call_type "enumerate" [.ref l] [("start",.int 1 t)])]
 repeat (any_goals (first | assumption | wp_step))
 refine codeAny_mono (codeAny_call_builtin ft.plain F.entry_enumerate_new (wpAny_of_eq hcn (g P w A.in1 _ s h))) fun r1 s1 hr1=>?_
 cases r1 with
 | error e1=>exact hr1
 | ok f1 =>
  cases f1 with
  | ret ob =>
   obtain ⟨hT,hq⟩:=hr1
   have hli:=ft.init.lookup
   have hbi:=ft.init.bind ob
   repeat (any_goals (first | assumption | wp_step))
   refine codeAny_mono (codeAny_call_builtin ft.init.plain F.entry_object_init (ft.init.check _ _ _ _ _ _ _ _ hT (zzy ob (.ref l) t) (zxl P w A.in1 (wants (fun r2 s2=>r2 = .none /\ Q ob s2) E) s1 ⟨hT,rfl,hq⟩))) fun r2 s2 hr2=>?_
   cases r2 with
   | error e2=>exact hr2
   | ok f2 =>
    cases f2 with
    | ret v2 =>
     obtain ⟨rfl,hq2⟩:=hr2
     repeat (any_goals (first | assumption | wp_step))
    | _=>exact hr2.elim
  | _=>exact hr1.elim
end
theorem z8j {P : Program} {w : World} {A : Around} {it : Addr} {fp : List Addr} {n : Nat} {R : Nat -> Value -> Prop} {St : Nat -> Heap -> Prop} (D : Draws P w A it fp n R St) :
  Draws P w A it fp (n + 1) (fun i v=>∃ j,i = j + 1 /\ R j v) (fun i h=>∃ j,i = j + 1 /\ St j h) where
 live:=fun i h ⟨j,_,st⟩=>D.live j h st
 frame:=fun i h h' ⟨j,e,st⟩ k=>⟨j,e,D.frame j h h' st k⟩
 item:=fun i s Q E hi ⟨j,e,st⟩ hQ=>D.item j s Q E (by omega) st fun x h' tk p st' sb=>hQ x h' tk ⟨j,e,p⟩ ⟨j + 1,by omega,st'⟩ sb
 done:=fun s Q E ⟨j,e,st⟩ hE=>D.done s Q E (by
   have : n = j:=by omega
   subst this; exact st) hE
noncomputable def ItS (K : PySem.W.Frag) (l : Addr) : It :=
  ⟨fun i H => ∃ xs x, SqL K H l xs /\ xs[i]? = some x,
   fun i H v H' => ∃ p x, v = .ref p /\ H p = none /\ H' = upd H p (.tup [.int ((i + 1 : Nat) : Int), x]) /\ (∀ xs, SqL K H l xs -> xs[i]? = some x),
   fun i H => ∃ xs, SqL K H l xs /\ xs.length <= i⟩
theorem z3h {P : Program} {w : World} {K : PySem.W.Frag} {elts : List Expr} {kx : Nat} {pos : Pos} (e it l : Addr) (ne : e ≠ it) :
    zid P w K (.Tuple elts kx pos) (ItS K l) [e, it] e (fun i h => (∃ old, IsEnum h e it ((i + 1 : Nat) : Int) old) /\ h.IsListIter it l i) where
  mem := by simp
  obj := fun i h st b hb => by
    obtain ⟨⟨old, he⟩, ⟨o1, e1, _, d1⟩⟩ := st
    simp only [List.mem_cons, List.not_mem_nil, or_false] at hb
    rcases hb with rfl | rfl
    · exact ⟨_, he, fun v q => by cases q⟩
    · exact ⟨o1, e1, fun v q => by rw [d1] at q; cases q⟩
  keep := fun i h h' st k => by
    obtain ⟨⟨old, he⟩, h1⟩ := st
    exact ⟨⟨old, k e (by simp) _ he⟩, h1.at fun o q => k it (by simp) o q⟩
  item := by
    intro X hP hw hK hc i pins s σ H E I hf st hg
    subst hP hw hK
    obtain ⟨⟨old, he⟩, h1⟩ := st
    obtain ⟨xs, x, q1, hx⟩ := hg
    obtain ⟨its1, r1, p1, z1⟩ := I.list q1
    obtain ⟨u1, e1, ru1⟩ := r1.get hx
    have n1 : l ≠ it := fun z => by
      obtain ⟨o1, g1, c1, _⟩ := h1
      obtain ⟨o2, g2, c2, _⟩ := p1.isList
      rw [z, g1] at g2
      cases g2
      rw [c1] at c2
      injection c2 with q
      exact absurd q (by decide)
    have n2 : e ≠ l := fun z => by
      obtain ⟨o2, g2, c2, _⟩ := p1.isList
      have he' : s.heap.get? e = some _ := he
      rw [z, g2] at he'
      cases he'
      injection c2 with q
      exact absurd q (by decide)
    have hi : i < its1.toArray.size := by
      rw [List.size_toArray]
      exact (List.getElem?_eq_some_iff.mp e1).1
    refine wpAny_pyNext_enum_itemD (i := i + 1) (z8j (Draws.list (A := X.A.in1) (I.ok.hd hc) it l n1 its1.toArray)) he ⟨i, rfl, h1, p1.isList⟩ (by omega) ne (by simp [ne, n2]) fun x' h' tk ⟨j, ej, hx'⟩ a1 ⟨j', ej', a3, _⟩ a5 a6 a7 => ⟨_, rfl, ?_⟩
    have ej : i = j := by omega
    have ej' : i + 1 = j' := by omega
    subst ej ej'
    have ex : x' = u1 := by
      have hx'' : its1[i]? = some x' := by simpa using hx'
      rw [e1] at hx''
      exact (Option.some.inj hx'').symm
    subst ex
    refine wpAny_letOwnedTupleGo_enum (s := { s with heap := h', toks := tk + 1 }) a1 fun h'' b1 b2 => ?_
    have lt : ∀ b ∈ [e, it], b < s.heap.objs.size := fun b hb => by
      simp only [List.mem_cons, List.not_mem_nil, or_false] at hb
      rcases hb with rfl | rfl
      · exact Heap.lt_size he
      · obtain ⟨o, e, _⟩ := h1; exact Heap.lt_size e
    have kk : ∀ b o, b ∉ [e, it] -> s.heap.get? b = some o -> h''.get? b = some o := fun b o hb e => by
      simp only [List.mem_cons, List.not_mem_nil, or_false, not_or] at hb
      obtain ⟨n1, n2⟩ := hb
      exact (b2.2 b n1).trans (a7 b o n1 n2 e)
    have fr : H s.heap.objs.size = none := I.hok.fresh (Nat.le_refl _)
    have I1 : Inv X pins σ H { s with heap := h'', toks := tk + 1 } := I.turnedMany (t' := tk + 1) kk hf
    have hp : h''.get? s.heap.objs.size = some { cls := .type "tuple", data := .seq #[.int ((i + 1 : Nat) : Int) tk, x'] } := (b2.2 _ (Nat.ne_of_gt (lt e (by simp)))).trans a5
    have I2 : Inv X pins σ (upd H s.heap.objs.size (.tup [.int ((i + 1 : Nat) : Int), x])) { s with heap := h'', toks := tk + 1 } :=
      I1.track (I.fpOk (Nat.le_refl _) fr) ⟨(by show 2 <= sizeLine; decide), [.int ((i + 1 : Nat) : Int) tk, x'], .cons ⟨tk, rfl⟩ (.cons ru1 .nil), ⟨_, hp, rfl, _, rfl⟩⟩
    refine ⟨.ref s.heap.objs.size, _, I2, rfl, ⟨_, x, rfl, fr, rfl, fun xs' h => by rw [I.list_inj h q1]; exact hx⟩, ⟨⟨x', ?_⟩, ?_⟩, fun b hb => ?_⟩
    · have : ((i + 1 + 1 : Nat) : Int) = ((i + 1 : Nat) : Int) + 1 := by push_cast; rfl
      rw [this]; exact b1
    · exact a3.at fun o q => (b2.2 it (Ne.symm ne)).trans q
    · rw [zb1 (Nat.ne_of_lt (lt b hb))]
      exact (hf b hb).1
  done := by
    intro X hP hw hK hc i pins s σ H E I hf st hg
    subst hP hw hK
    obtain ⟨⟨old, he⟩, h1⟩ := st
    obtain ⟨xs, q1, hend⟩ := hg
    obtain ⟨its1, r1, p1, z1⟩ := I.list q1
    have l1' := r1.length
    have D : Draws X.prog X.w X.A.in1 it [it, l] 0 (fun _ _ => False) (fun _ h => h.IsListIter it l i /\ h.IsList l its1.toArray) :=
      ⟨fun _ _ st => by obtain ⟨⟨o, ho, _⟩, _⟩ := st; exact ⟨o, ho⟩, fun _ _ _ st k => ⟨st.1.at fun o q => k it (by simp) o q, st.2.at fun o q => k l (by simp) o q⟩, fun _ _ _ _ hi => absurd hi (Nat.not_lt_zero _),
       fun s1 Q1 E1 st hE => wpAny_nextOf_list_end (I.ok.hd hc) st.1 st.2 (by simp; omega) fun h' x a b => hE h' x a b⟩
    refine wpAny_pyNext_enum_endD D he ⟨h1, p1.isList⟩ fun h' kk => ⟨rfl, I.turnedMany (t' := s.toks) (ch := [e, it]) (fun b o hb q => ?_) hf⟩
    simp only [List.mem_cons, List.not_mem_nil, or_false, not_or] at hb
    exact kk b o hb.2 q
  self := fun _ _ _ _ _ st h => by obtain ⟨⟨old, he⟩, _⟩ := st; exact wpAny_pyIter_enum he h
section
variable {P : Program} {w : World} {A : Around} {E : Value -> Shared -> Prop} {s : Shared}
theorem z0i {l : Addr} {items : Array Value} {t : Tok} {Q : Value -> Shared -> Prop} (hL : s.heap.IsList l items)
  (h : ∀ h',IsEnum h' (s.heap.objs.size + 1) s.heap.objs.size 1 .none -> h'.IsListIter s.heap.objs.size l 0 ->
   (∀ b o,s.heap.get? b = some o -> h'.get? b = some o) -> Q (.ref (s.heap.objs.size + 1)) { s with heap:=h' }) :
  wpAny (model P w) A (call (.type "enumerate") [.ref l] [("start",.int 1 t)]) Q E s:=by
 obtain ⟨⟨oc,od,odt,os⟩,hol,hcl,nl,hdl⟩:=hL
 simp only at hcl hdl
 subst hcl hdl
 refine z0d (z6e l items nl od os t) ⟨hol,?_⟩
 have sz : (s.heap.push { cls:=.type "list_iterator",data:=.fields #[.ref l,.int 0 0] }).objs.size = s.heap.objs.size + 1:=Heap.size_push ..
 show _ /\ _
 rw [sz]
 have en : IsEnum ((s.heap.push { cls:=.type "list_iterator",data:=.fields #[.ref l,.int 0 0] }).push { cls:=.type "enumerate",data:=.fields #[.none,.bool false,.ref s.heap.objs.size,rawInt 1,.none,.none] }) (s.heap.objs.size + 1) s.heap.objs.size 1 .none:=by
  have q:=Heap.get?_push_size (s.heap.push { cls:=.type "list_iterator",data:=.fields #[.ref l,.int 0 0] }) (o:={ cls:=.type "enumerate",data:=.fields #[.none,.bool false,.ref s.heap.objs.size,rawInt 1,.none,.none] }) rfl
  rw [sz] at q
  exact q
 exact ⟨⟨_,en,rfl⟩,h _ en ⟨_,Heap.get?_push_of_some _ (Heap.get?_push_size _ rfl),rfl,rfl⟩ fun b o x=>Heap.get?_push_of_some _ (Heap.get?_push_of_some _ x)⟩
end
section
variable {M : Model} {A : Around} {E : Value -> Shared -> Prop} {s : Shared}
theorem z75 {pos : Pos} {T : String} {args : List (Bool × Sem Value)} {kws : List (Option Str × Sem Value)} {Q : Value -> Shared -> Prop} (hpl : args.any (·.1) = false) (hkw : kws.any (·.1.isNone) = false)
  (h : wpAny M A (evalArgs (.type T) true args kws) (fun z s1=>wpAny M A (call (.type T) ([] ++ z.pos) z.kw) Q E s1) E s) : wpAny M A (callWith pos (.type T) [] args kws) Q E s:=by
 unfold callWith
 refine wpAny_bind (wpAny_holding (wpAny_mono h (fun z s1 hz=>wpAny_bind (wpAny_standAt ?_)) fun _ _ e=>e))
 simp only [hpl,hkw,Bool.or_false]
 refine wpAny_bind (wpAny_pure ?_)
 exact wpAny_bind (wpAny_mono hz (fun r s2 hr=>wpAny_bind (wpAny_holding (wpAny_point (wpAny_pure hr)))) fun _ _ e=>e)
end
section
variable {X : Cx} {elts : List Expr} {kx : Nat} {tpos : Pos}
noncomputable def z7u (K : PySem.W.Frag) (te : TE) : TI:=fun σ H R=>te σ H fun x H1=>∃ l,x = .ref l /\ (∃ xs,SqL K H1 l xs) /\ R (ItS K l) H1
theorem z0m {a : Expr} {te : TE} {p pos kp cp : Pos} {kn : Nat} (hg : Gl X "enumerate") (hm : X.mg "enumerate" = none) (ha : PE X a te) (hs : starEach [a] X.env = (false,eval a X.env) :: starEach [] X.env:=by rfl) :
  PI X (.Tuple elts kx tpos) (.Call (.Name "enumerate" p) [a] [⟨some "start",.Constant (.int 1) kn cp,kp⟩] pos) (z7u X.K te):=by
 intro pins s σ H R I h
 refine wpAny_Call_Name_kw (zg9 I hg hm boot_enumerate ?_)
 rw [hs]
 refine z75 (by rfl) (by rfl) (evalArgs_kwB (by rfl) ?_)
 refine Calls.spliced_cons (thn (ha pins s σ H _ I h) fun u s1 q_=>?_)
 obtain ⟨x,H1,I1,r1,l,e1,⟨xs,h1⟩,q⟩:=q_
 subst e1
 cases r1
 refine wpAny_pure ?_
 refine evalAll_cons (wpAny_bind (wpAny_Constant_int (wpAny_bind (wpAny_standAt (wpAny_pure ?_)))))
 refine evalAll_nil ?_
 have I1':=I1.tok (s1.toks + 1)
 obtain ⟨its1,r1,p1,z1⟩:=I1'.list h1
 refine z0i p1.isList fun h' a1 a4 a7=>?_
 refine wpAny_pyIter_enum a1 ?_
 have I2:=I1'.kept (t':=s1.toks + 1) a7
 refine ⟨_,[s1.heap.objs.size + 1,s1.heap.objs.size],_,_,H1,rfl,I2,z3h _ _ _ (Nat.succ_ne_self _),⟨⟨_,a1⟩,a4⟩,fun b hb=>?_,q⟩
 simp only [List.mem_cons,List.not_mem_nil,or_false] at hb
 have hle : s1.heap.objs.size <= b:=by
  rcases hb with rfl | rfl
  ·exact Nat.le_add_right _ _
  ·exact Nat.le_refl _
 exact I1.fpOk hle (I1.hok.fresh hle)
end
noncomputable def z4h : List D -> Option (List D)
 | [x]=>(lsD x).map (zgj 1)
 | _=>none
noncomputable def zl5 (f : List Sl -> Option D) (ρ : List Sl) : Option (List D):=(f ρ).bind fun x=>z4h [x]
theorem z50 {α : Type} {f : List Sl -> Option D} {ρ : List Sl} {g : α -> D} {xs : List α} (d : α) (e : f ρ = some (.lst (xs.map g))) : zl5 f ρ = some ((List.range xs.length).map fun i=>D.tup [.int ((i + 1 : Nat) : Int),g (xs.getD i d)]):=by
 unfold zl5
 rw [e]
 show some (zgj 1 (xs.map g)) = _
 refine congrArg some (List.ext_getElem? fun i=>?_)
 rw [zlu,List.getElem?_map,List.getElem?_map]
 by_cases h : i < xs.length
 ·have eg : xs.getD i d = xs[i]:=by rw [List.getD_eq_getElem?_getD,List.getElem?_eq_getElem h]; rfl
  rw [List.getElem?_range h,List.getElem?_eq_getElem h,Nat.add_comm 1 i]
  show some (D.tup [.int ((i + 1 : Nat) : Int),g xs[i]]) = some (D.tup [.int ((i + 1 : Nat) : Int),g (xs.getD i d)])
  rw [eg]
 ·rw [List.getElem?_eq_none (by omega),List.getElem?_eq_none (by rw [List.length_range]; omega)]
  rfl
section
variable {c : Str -> Addr} {X : Cx} {a : Expr} {pos p kp cp : Pos} {kn : Nat}
theorem zwr {f : List Sl -> Option D} {elts : List Expr} {kx : Nat} {tpos : Pos} (hg : Gl X "enumerate") (hm : X.mg "enumerate" = none) (ha : DE c X a f) (hs : starEach [a] X.env = (false,eval a X.env) :: starEach [] X.env:=by rfl) :
  DI c X (.Tuple elts kx tpos) (.Call (.Name "enumerate" p) [a] [⟨some "start",.Constant (.int 1) kn cp,kp⟩] pos) (zl5 f) :=
 PI.imp (z0m hg hm ha hs) fun σ H R q_=>by
  obtain ⟨Hf0,H0,Hf,ρ,ds,st,ef,k⟩:=q_
  unfold zl5 at ef
  cases e1 : f ρ with
  | none=>rw [e1] at ef; cases ef
  | some dx =>
   rw [e1] at ef
   replace ef : (lsD dx).map (zgj 1) = some ds:=ef
   refine ⟨Hf0,H0,Hf,ρ,dx,st,e1,fun v Hf' H' x r=>?_⟩
   cases ex : lsD dx with
   | none=>rw [ex] at ef; cases ef
   | some xs =>
    rw [ex] at ef
    cases ef
    obtain ⟨l1,w1,el1,q1,r1⟩:=zgt ex r
    subst el1
    refine ⟨l1,rfl,⟨w1,x.s.seq q1⟩,k _ Hf' H' x fun Hf2 H2 f2 s2 i=>?_⟩
    have g1 : SqL X.K H2 l1 w1:=(f2.trans s2).seq q1
    have h1:=r1.length
    refine ⟨fun d ed=>?_,fun ei=>⟨w1,g1,by rw [zrn] at ei; omega⟩⟩
    rw [zlu] at ed
    cases hx : xs[i]? with
    | none=>rw [hx] at ed; cases ed
    | some x' =>
     rw [hx] at ed
     cases ed
     obtain ⟨u1,eu1,ru1⟩:=r1.get hx
     refine ⟨⟨w1,u1,g1,eu1⟩,fun z H3 ⟨pp,z1,ez,hp,eh,y1⟩=>?_⟩
     subst ez eh
     have a1:=y1 w1 g1
     rw [eu1] at a1; cases a1
     exact ⟨upd Hf2 pp (.tup [.int ((i + 1 : Nat) : Int),u1]),Ext.new s2 hp,pp,[.int ((i + 1 : Nat) : Int),u1],rfl,zcg,.cons (by rw [Nat.add_comm 1 i]; rfl) (.cons (ru1.up (f2.trans (zc2 (s2.free hp)))) .nil)⟩
end
noncomputable def spM (G : Gc) (n0 n : Nat) (m : Addr -> List D -> List D -> List D -> Option (List D × D)) : Sp:=fun vs H Q _=>∃ Hf ds0 ds1 xs ys d l us vs0 vs1,vs = vs0 ++ .ref l :: vs1 /\ za7 Hf H /\ Hf l = none /\ H l = some (.lst us) /\ zas G Hf ds0 vs0 /\ zas G Hf ds1 vs1 /\ zas G Hf xs us /\ ds0.length = n0 /\ ds0.length + 1 + ds1.length = n /\ m l ds0 ds1 xs = some (ys,d) /\
 ∀ v Hf' H' us',Ext Hf (zf1 H l) Hf' H' -> Hf' l = none -> H' l = some (.lst us') -> zas G Hf' ys us' -> Rep G Hf' d v -> Q v H'
noncomputable def zh8 (N : Nat) (l : Addr) (ds0 ds1 xs : List D) : List Sl:=(zdt N (ds0 ++ .non :: ds1)).set ds0.length (.pin l xs)
open Classical in
noncomputable def zfn (l : Addr) (i : Nat) (ρ : List Sl) : Option (List D):=match ρ[i]? with
 | some (.pin l' ys)=>if l' = l then some ys else none
 | _=>none
theorem zwd {l : Addr} {i : Nat} {ρ : List Sl} {ys : List D} (h : zfn l i ρ = some ys) : ρ[i]? = some (.pin l ys):=by
 unfold zfn at h
 split at h
 ·rename_i l' zs e
  split at h
  ·rename_i q
   cases h
   rw [e,q]
  ·cases h
 ·cases h
noncomputable def zhb (N : Nat) (F : List Sl -> Option Fl) (l : Addr) (ds0 ds1 xs : List D) : Option (List D × D):=(F (zh8 N l ds0 ds1 xs)).bind fun o=>match o with
 | .nx ρ=>(zfn l ds0.length ρ).map fun ys=>(ys,.non)
 | .rtS d ρ=>(zfn l ds0.length ρ).map fun ys=>(ys,d)
 | _=>none
theorem z1e {N : List Str} {vs0 vs1 : List V} {l : Addr} : (L2.start N (vs0 ++ .non :: vs1)).set vs0.length (some (.ref l)) = L2.start N (vs0 ++ .ref l :: vs1):=by
 unfold L2.start
 simp [List.set_append,List.length_append]
theorem za1.startM {G : Gc} {Hf H : Hp} {N : List Str} {ds0 ds1 xs : List D} {vs0 vs1 us : List V} {l : Addr} (s0 : za7 Hf H) (hf : Hf l = none) (hl : H l = some (.lst us)) (r0 : zas G Hf ds0 vs0) (r1 : zas G Hf ds1 vs1) (rx : zas G Hf xs us) :
  za1 G Hf (zf1 H l) Hf H (L2.start N (vs0 ++ .ref l :: vs1)) (zh8 N.length l ds0 ds1 xs):=by
 have st0:=za1.start (N:=N) (znm s0 hf) (r0.append (.cons (d:=.non) (v:=.non) rfl r1))
 have:=st0.setOwn (i:=ds0.length) (l:=l) (s:=.pin l xs) rfl (Ext.grow (znm s0 hf) z36) zpk hf ⟨rfl,us,hl,rx⟩
 rw [r0.length,z1e,<- r0.length] at this
 exact this
section
variable {P : Program} {w : World} {K : PySem.W.Frag} {mg : Str -> Option Value} {base : Heap} {c : Str -> Addr}
theorem zug {x qual : Str} {st : Stmt} {f : Addr} {fd : FuncData} {N ps : List Str} {k n0 : Nat} {F : List Sl -> Option Fl} (Fn : Fun K x qual st f fd) (S : zba N ps (zao st))
  (h : ∀ (cdv : Value) (A : Around) (outer : List Env) (s : Shared) (H : Hp) (E : XK),zcf k (A.deeper (envOfC qual (zao st) s.heap.objs.size f cdv)) -> DSs c (zgf CX0 P w K mg base N qual (zao st) f cdv A outer s H E).nox (za9 st) F) :
  zax P w K mg base CX0 (k + 1) f fd ps (spM ⟨K,c⟩ n0 ps.length (zhb N.length F)):=by
 refine Fn.ok S (fun vs H Q E ⟨Hf,ds0,ds1,xs,ys,d,l,us,vs0,vs1,ev,s0,hf,hu,r0,r1,rx,hn,hl,_⟩=>by rw [ev,List.length_append,List.length_cons,<- r0.length,<- r1.length]; omega) fun cdv A outer s H vs Q E hr ⟨Hf,ds0,ds1,xs,ys,d,l,us,vs0,vs1,ev,s0,hf,hu,r0,r1,rx,hn,hl,e,kq⟩=>⟨_,h cdv A outer s H E hr,?_⟩
 subst ev
 unfold zhb at e
 cases eF : F (zh8 N.length l ds0 ds1 xs) with
 | none=>rw [eF] at e; cases e
 | some o =>
  rw [eF,Option.bind_some] at e
  refine ⟨Hf,zf1 H l,Hf,_,o,za1.startM s0 hf hu r0 r1 rx,eF,?_⟩
  cases o with
  | nx ρ =>
   replace e : (zfn l ds0.length ρ).map (fun ys=>(ys,D.non)) = some (ys,d):=e
   cases ep : zfn l ds0.length ρ with
   | none=>rw [ep] at e; cases e
   | some zs =>
    rw [ep] at e
    cases e
    intro σ' Hf' H' _ so
    obtain ⟨l',e1,h0,hf',e2,us',hu',rx'⟩:=so.ownAt (s:=.pin l ys) rfl (zwd ep)
    subst e2
    exact kq .non Hf' H' us' so.ext hf' hu' rx' rfl
  | rtS d' ρ =>
   replace e : (zfn l ds0.length ρ).map (fun ys=>(ys,d')) = some (ys,d):=e
   cases ep : zfn l ds0.length ρ with
   | none=>rw [ep] at e; cases e
   | some zs =>
    rw [ep] at e
    cases e
    intro v σ' Hf' H' so r
    obtain ⟨l',e1,h0,hf',e2,us',hu',rx'⟩:=so.ownAt (s:=.pin l ys) rfl (zwd ep)
    subst e2
    exact kq v Hf' H' us' so.ext hf' hu' rx' r
  | _=>cases e
theorem zy1 {x qual : Str} {st : Stmt} {f : Addr} {fd : FuncData} {N ps : List Str} {k n0 : Nat} {G : Gc} (Fn : Fun K x qual st f fd) (S : zba N ps (zao st)) : zax P w K mg base CX0 (k + 1) f fd ps (spM G n0 ps.length fun _ _ _ _=>none) :=
 Fn.ok S (fun vs H Q E ⟨Hf,ds0,ds1,xs,ys,d,l,us,vs0,vs1,ev,s0,hf,hu,r0,r1,rx,hn,hl,e,_⟩=>by cases e) fun cdv A outer s H vs Q E hr ⟨Hf,ds0,ds1,xs,ys,d,l,us,vs0,vs1,ev,s0,hf,hu,r0,r1,rx,hn,hl,e,kq⟩=>by cases e
end
theorem za1.giveS {G : Gc} {Hf0 H0 Hf H : Hp} {σ : St} {ρ : List Sl} {i : Nat} {l : Addr} {s : Sl} (hs : s.isOwn = true) (h : za1 G Hf0 H0 Hf H σ ρ) (e : ρ[i]? = some s) (el : σ[i]? = some (some (.ref l))) : za1 G Hf0 H0 Hf (zf1 H l) σ (ρ.set i .no):=by
 obtain ⟨l',e1,h0,hf,q⟩:=h.ownAt hs e
 rw [el] at e1; cases e1
 refine ⟨⟨h.ext.f,znm h.ext.h h0,znm h.ext.s hf,h.ext.n⟩,by simpa using h.len,fun j u t a b=>?_,fun j k t t' l' a b ht ht' c d'=>?_⟩
 ·rcases zda b with ⟨e2,e',_⟩ | ⟨en,b⟩
  ·subst e'; trivial
  ·have q:=h.at' j u t a b
   cases ht : t.isOwn with
   | false =>
    cases t with
    | no=>trivial
    | im d=>exact q
    | _=>cases ht
   | true =>
    obtain ⟨l2,e2,e3,e4,q2⟩:=q.own ht
    subst e2
    refine .ofOwn ht ⟨l2,rfl,e3,e4,q2.up (za7.refl _) fun o' ho'=>?_⟩
    rw [zru (fun z=>?_)]
    ·exact ho'
    ·subst z
     exact en (h.inj j i t s l2 b e ht hs a el)
 ·have old : ∀ (j : Nat) (t : Sl),(ρ.set i .no)[j]? = some t -> t.isOwn = true -> ρ[j]? = some t:=fun j t a ht=>by
   rcases zda a with ⟨_,e',_⟩ | ⟨_,a⟩
   ·subst e'; cases ht
   ·exact a
  exact h.inj j k t t' l' (old j t a ht) (old k t' b ht') ht ht' c d'
theorem za1.back {G : Gc} {Hf0 H0 Hf H Hf' H' : Hp} {σ : St} {ρ : List Sl} {i : Nat} {l : Addr} {s s' : Sl} (hs : s.isOwn = true) (hs' : s'.isOwn = true) (h : za1 G Hf0 H0 Hf H σ ρ) (e : ρ[i]? = some s) (el : σ[i]? = some (some (.ref l))) (x : Ext Hf (zf1 H l) Hf' H') (hf : Hf' l = none) (ho : zev G Hf' H' l s') : za1 G Hf0 H0 Hf' H' σ (ρ.set i s'):=by
 have:=(h.giveS hs e el).setOwn (i:=i) (l:=l) hs' x zpk hf ho
 rw [List.set_set] at this
 have e2 : σ.set i (some (.ref l)) = σ:=by
  apply List.ext_getElem?
  intro j
  by_cases hj : i = j
  ·subst hj
   rw [List.getElem?_set_self (List.getElem?_eq_some_iff.mp el).1,el]
  ·rw [List.getElem?_set_ne hj]
 rw [e2] at this
 exact this
noncomputable def zzs (G : Gc) (i : Nat) (f : List Sl -> Option (List D × List D)) : TA:=fun σ H Q=>∃ Hf0 H0 Hf ρ ds0 ds1 l,za1 G Hf0 H0 Hf H σ ρ /\ σ[i]? = some (some (.ref l)) /\ f ρ = some (ds0,ds1) /\ ∀ vs0 vs1 Hf' H',Ext Hf H Hf' H' -> zas G Hf' ds0 vs0 -> zas G Hf' ds1 vs1 -> Q (vs0 ++ .ref l :: vs1) H'
structure DAM (c : Str -> Addr) (X : Cx) (es : List Expr) (i n0 : Nat) (f : List Sl -> Option (List D × List D)) : Prop where
 pa : PA X es (zzs (Gx c X) i f)
 len : ∀ ρ p,f ρ = some p -> p.1.length = n0 /\ p.1.length + 1 + p.2.length = es.length
noncomputable def zgc (g : List Sl -> Option (List D)) (ρ : List Sl) : Option (List D × List D):=(g ρ).map fun ds=>([],ds)
noncomputable def zdr (f : List Sl -> Option D) (g : List Sl -> Option (List D × List D)) (ρ : List Sl) : Option (List D × List D):=(f ρ).bind fun d=>(g ρ).map fun p=>(d :: p.1,p.2)
theorem zvb {f : List Sl -> Option D} {g : List Sl -> Option (List D × List D)} {ρ : List Sl} {p : List D × List D} (h : zdr f g ρ = some p) : ∃ d r,f ρ = some d /\ g ρ = some r /\ p = (d :: r.1,r.2):=by
 unfold zdr at h
 cases e1 : f ρ with
 | none=>rw [e1] at h; cases h
 | some d =>
  cases e2 : g ρ with
  | none=>rw [e1,e2] at h; cases h
  | some r=>rw [e1,e2] at h; cases h; exact ⟨d,r,rfl,rfl,rfl⟩
section
variable {c : Str -> Addr} {X : Cx} {k n0 : Nat} {f : Addr} {fd : FuncData} {ps : List Str} {x : Str} {p pos pos' : Pos} {e : Expr} {es : List Expr} {fa : List Sl -> Option (List D × List D)} {i : Nat}
theorem z8z {g : List Sl -> Option (List D)} (h : PE X e (zeh i)) (hr : DA c X es g) (hs : starEach (e :: es) X.env = (false,eval e X.env) :: starEach es X.env:=by rfl) : DAM c X (e :: es) i 0 (zgc g) :=
 ⟨PA.imp (zdl h hr.pa hs) fun σ H Q ⟨Hf0,H0,Hf,ρ,ds0,ds1,l,st,el,ef,k⟩=>by
  unfold zgc at ef
  cases e1 : g ρ with
  | none=>rw [e1] at ef; cases ef
  | some ds =>
   rw [e1] at ef
   cases ef
   exact ⟨_,el,Hf0,H0,Hf,ρ,ds1,st,e1,fun vs Hf' H' x r=>k [] vs Hf' H' x rfl r⟩,fun ρ p h=>by
  unfold zgc at h
  cases e1 : g ρ with
  | none=>rw [e1] at h; cases h
  | some ds =>
   rw [e1] at h
   cases h
   refine ⟨rfl,?_⟩
   rw [List.length_cons,<- hr.len ρ ds e1]
   show 0 + 1 + ds.length = _
   omega⟩
theorem zmz (i : Nat) {x : Str} {g : List Sl -> Option (List D)} (hr : DA c X es g) (hN : X.N[i]? = some x:=by rfl) (hv : Vis X.env.scope x:=by first | exact Or.inl rfl | exact Or.inr (Or.inl rfl) | exact Or.inr (Or.inr rfl)) (hd : (x == ("__debug__" : Str)) = false:=by decide)
  (hcd : (x == ("__classdict__" : Str)) = false:=by decide) (hs : starEach (.Name x pos :: es) X.env = (false,eval (.Name x pos) X.env) :: starEach es X.env:=by rfl) : DAM c X (.Name x pos :: es) i 0 (zgc g):=z8z (zg0 hN hv hd hcd) hr hs
theorem zeo {f : List Sl -> Option D} {g : List Sl -> Option (List D × List D)} (ha : DE c X e f) (hr : DAM c X es i n0 g) (hs : starEach (e :: es) X.env = (false,eval e X.env) :: starEach es X.env:=by rfl) : DAM c X (e :: es) i (n0 + 1) (zdr f g):=by
 refine ⟨PA.imp (zdl ha hr.pa hs) fun σ H Q ⟨Hf0,H0,Hf,ρ,ds0,ds1,l,st,el,ef,k⟩=>?_,fun ρ p h=>?_⟩
 ·obtain ⟨d,r,e1,e2,e3⟩:=zvb ef
  cases e3
  exact ⟨Hf0,H0,Hf,ρ,d,st,e1,fun v Hf1 H1 x1 r1=>⟨Hf0,H0,Hf1,ρ,r.1,r.2,l,st.step x1,el,e2,fun vs0 vs1 Hf2 H2 x2 r2 r3=>k _ vs1 Hf2 H2 (x1.trans x2) (.cons (r1.up x2.f) r2) r3⟩⟩
 ·obtain ⟨d,r,e1,e2,rfl⟩:=zvb h
  obtain ⟨h1,h2⟩:=hr.len ρ r e2
  refine ⟨by show r.1.length + 1 = _; rw [h1],?_⟩
  show (r.1.length + 1) + 1 + r.2.length = _
  rw [List.length_cons]
  omega
noncomputable def zh7 (i : Nat) (m : Addr -> List D -> List D -> List D -> Option (List D × D)) (f : List Sl -> Option (List D × List D)) (ρ : List Sl) : Option (D × List Sl):=match ρ[i]? with
 | some (.pin l xs)=>(f ρ).bind fun p=>(m l p.1 p.2 xs).map fun q=>(q.2,ρ.set i (.pin l q.1))
 | _=>none
open Classical in
noncomputable def zmf (i : Nat) (m : Addr -> List D -> List D -> List D -> Option (List D × D)) (f : List Sl -> Option (List D × List D)) (ρ : List Sl) : Option (D × List Sl):=match ρ[i]? with
 | some (.own xs)=>(f ρ).bind fun p=>if h : ∃ q,∀ l,m l p.1 p.2 xs = some q then some (h.choose.2,ρ.set i (.own h.choose.1)) else none
 | _=>none
theorem zqn {m : Addr -> List D -> List D -> List D -> Option (List D × D)} (F : zax X.prog X.w X.K X.mg X.base CX0 k f fd ps (spM (Gx c X) n0 ps.length m)) (hr : zcf k X.A) (hg : Gl X x) (hm : X.mg x = some (.ref f)) (hk : PySem.W.keepIn X.K (.ref f) = true) (hb : za2 X.K fd ps []) (ha : DAM c X (e :: es) i n0 fa)
  (hl : (e :: es).length = ps.length:=by rfl) (hdb : (x == ("__debug__" : Str)) = false:=by decide) (he : starEach (e :: es) X.env = (false,eval e X.env) :: starEach es X.env:=by rfl) (hpl : (backTo pos (starEach es X.env)).any (·.1) = false:=by rfl) :
  DX c X (.Call (.Name x p) (e :: es) [] pos) (zh7 i m fa):=PE.imp (zih F hr hg hm hk hb .nil zgo ha.pa hdb he hpl) fun σ H Q q_=>by
 obtain ⟨Hf0,H0,Hf,ρ,d,ρ',st,ef,kq⟩:=q_
 unfold zh7 at ef
 split at ef
 ·rename_i l xs eo
  cases e1 : fa ρ with
  | none=>rw [e1] at ef; cases ef
  | some pp =>
   rw [e1,Option.bind_some] at ef
   cases e2 : m l pp.1 pp.2 xs with
   | none=>rw [e2] at ef; cases ef
   | some q =>
    rw [e2] at ef
    cases ef
    obtain ⟨l',el,h0,hf,eq,us,hu,rx⟩:=st.ownAt (s:=.pin l xs) rfl eo
    subst eq
    refine ⟨Hf0,H0,Hf,ρ,pp.1,pp.2,l',st,el,e1,fun vs0 vs1 Hf' H' x r0 r1=>?_⟩
    dsimp only
    rw [List.append_nil]
    have st':=st.step x
    obtain ⟨l2,el2,h02,hf2,eq2,us2,hu2,rx2⟩:=st'.ownAt (s:=.pin l' xs) rfl eo
    subst eq2
    obtain ⟨n1,n2⟩:=ha.len ρ pp e1
    exact ⟨Hf',pp.1,pp.2,xs,q.1,q.2,l2,us2,vs0,vs1,rfl,x.s,hf2,hu2,r0,r1,rx2,n1,n2.trans hl,e2,fun v Hf3 H3 us3 x3 hf3 hu3 rx3 r3=>kq v Hf3 H3 (x.f.trans x3.f) (st'.back (s:=.pin l2 xs) (s':=.pin l2 q.1) rfl rfl eo el2 x3 hf3 ⟨rfl,us3,hu3,rx3⟩) r3⟩
 ·cases ef
theorem z23 {m : Addr -> List D -> List D -> List D -> Option (List D × D)} (F : zax X.prog X.w X.K X.mg X.base CX0 k f fd ps (spM (Gx c X) n0 ps.length m)) (hr : zcf k X.A) (hg : Gl X x) (hm : X.mg x = some (.ref f)) (hk : PySem.W.keepIn X.K (.ref f) = true) (hb : za2 X.K fd ps []) (ha : DAM c X (e :: es) i n0 fa)
  (hl : (e :: es).length = ps.length:=by rfl) (hdb : (x == ("__debug__" : Str)) = false:=by decide) (he : starEach (e :: es) X.env = (false,eval e X.env) :: starEach es X.env:=by rfl) (hpl : (backTo pos (starEach es X.env)).any (·.1) = false:=by rfl) :
  DX c X (.Call (.Name x p) (e :: es) [] pos) (zmf i m fa):=PE.imp (zih F hr hg hm hk hb .nil zgo ha.pa hdb he hpl) fun σ H Q q_=>by
 obtain ⟨Hf0,H0,Hf,ρ,d,ρ',st,ef,kq⟩:=q_
 unfold zmf at ef
 split at ef
 ·rename_i xs eo
  cases e1 : fa ρ with
  | none=>rw [e1] at ef; cases ef
  | some pp =>
   rw [e1,Option.bind_some] at ef
   split at ef
   ·rename_i hq
    have e2:=hq.choose_spec
    generalize hq.choose = q at ef e2
    cases ef
    obtain ⟨l',el,h0,hf,us,hu,rx⟩:=st.ownAt (s:=.own xs) rfl eo
    refine ⟨Hf0,H0,Hf,ρ,pp.1,pp.2,l',st,el,e1,fun vs0 vs1 Hf' H' x r0 r1=>?_⟩
    dsimp only
    rw [List.append_nil]
    have st':=st.step x
    obtain ⟨l2,el2,h02,hf2,us2,hu2,rx2⟩:=st'.ownAt (s:=.own xs) rfl eo
    rw [el] at el2; cases el2
    obtain ⟨n1,n2⟩:=ha.len ρ pp e1
    exact ⟨Hf',pp.1,pp.2,xs,q.1,q.2,l',us2,vs0,vs1,rfl,x.s,hf2,hu2,r0,r1,rx2,n1,n2.trans hl,e2 l',fun v Hf3 H3 us3 x3 hf3 hu3 rx3 r3=>kq v Hf3 H3 (x.f.trans x3.f) (st'.back (s:=.own xs) (s':=.own q.1) rfl rfl eo el x3 hf3 ⟨us3,hu3,rx3⟩) r3⟩
   ·cases ef
 ·cases ef
noncomputable def zir (f : List Sl -> Option (D × List Sl)) (ρ : List Sl) : Option Fl:=(f ρ).map fun p=>.nx p.2
theorem zrl {f : List Sl -> Option (D × List Sl)} (he : DX c X e f) (hs : swapsWith e none pos.line X.env = pure false:=by rfl) : DS c X (.Expr e pos) (zir f):=PS.imp (ze7 he hs) fun E σ H q_=>by
 obtain ⟨Hf0,H0,Hf,ρ,o,so,ef,k⟩:=q_
 unfold zir at ef
 cases e1 : f ρ with
 | none=>rw [e1] at ef; cases ef
 | some p =>
  rw [e1] at ef
  cases ef
  exact ⟨Hf0,H0,Hf,ρ,p.1,p.2,so,e1,fun v Hf' H' s so' r=>k σ Hf' H' s so'⟩
noncomputable def zlp (i : Nat) (f : List Sl -> Option (D × List Sl)) (ρ : List Sl) : Option Fl:=(f ρ).map fun p=>.nx (p.2.set i (.im (.lst [p.1])))
theorem z5x (i : Nat) {x : Str} {f : List Sl -> Option (D × List Sl)} {spos : Pos} (hN : X.N.Nodup) (he : DX c X e f) (hi : X.N[i]? = some x:=by rfl) (hx : Loc X.env.scope x:=by first | exact Or.inl rfl | exact Or.inr rfl) (hs : swapsWith (.List [e] pos) (some (.Name x pos')) spos.line X.env = pure false:=by rfl) (hf : X.fn x = true \/ X.env.scope.names.lookup x = some .local:=by first | exact .inl rfl | exact .inr rfl) (hst : starEach [e] X.env = (false,eval e X.env) :: starEach [] X.env:=by rfl) :
  DS c X (.Assign [.Name x pos'] (.List [e] pos) spos) (zlp i f):=PS.imp (zoe hN hi hx (zvt (zdl he zd8 hst)) hs hf) fun E σ H q_=>by
 obtain ⟨Hf0,H0,Hf,ρ,o,so,ef,k⟩:=q_
 unfold zlp at ef
 cases e1 : f ρ with
 | none=>rw [e1] at ef; cases ef
 | some p =>
  rw [e1] at ef
  cases ef
  refine ⟨Hf0,H0,Hf,ρ,p.1,p.2,so,e1,fun v Hf' H' s so' r=>⟨(by rw [sizeLine_eq]; show 1 <= 16777216; decide),fun q hq=>?_⟩⟩
  exact k _ (upd Hf' q (.lst [v])) (upd H' q (.lst [v])) (s.trans (zc2 (so'.sub.free hq))) ((so'.step (Ext.new so'.sub hq)).setIm ⟨q,[v],rfl,zcg,.cons (r.up (zc2 (so'.sub.free hq))) .nil⟩)
noncomputable def zg6 (i : Nat) (ρ : List Sl) : Option D:=match ρ[i]? with
 | some (.pin _ xs)=>some (.lst xs)
 | _=>none
noncomputable def zn6 (i : Nat) (ρ : List Sl) : Option (List D):=match ρ[i]? with
 | some (.pin _ xs)=>some xs
 | _=>none
theorem zp7 (i : Nat) {x : Str} (hN : X.N[i]? = some x:=by rfl) (hv : Vis X.env.scope x:=by first | exact Or.inl rfl | exact Or.inr (Or.inl rfl) | exact Or.inr (Or.inr rfl)) (hd : (x == ("__debug__" : Str)) = false:=by decide)
  (hcd : (x == ("__classdict__" : Str)) = false:=by decide) : DB c X (.Name x pos) (zg6 i):=PE.imp (zg0 hN hv hd hcd) fun σ H Q q_=>by
 obtain ⟨Hf0,H0,Hf,ρ,d,st,ef,k⟩:=q_
 unfold zg6 at ef
 split at ef
 ·rename_i l xs es
  cases ef
  obtain ⟨l',e1,_,_,_,vs,q,r⟩:=st.ownAt (s:=.pin l xs) rfl es
  exact ⟨_,e1,k _ Hf H (Ext.refl st.sub) ⟨l',vs,rfl,q,r.up st.sub⟩⟩
 ·cases ef
theorem zy3 (i : Nat) {tg : Expr} {x : Str} (hN : X.N[i]? = some x:=by rfl) (hv : Vis X.env.scope x:=by first | exact Or.inl rfl | exact Or.inr (Or.inl rfl) | exact Or.inr (Or.inr rfl)) (hd : (x == ("__debug__" : Str)) = false:=by decide)
  (hcd : (x == ("__classdict__" : Str)) = false:=by decide) : DIe c X tg (.Name x pos) (zn6 i):=fun pins s σ H R I q_=>by
 obtain ⟨Hf0,H0,Hf,ρ,ds,st,ef,k⟩:=q_
 unfold zn6 at ef
 split at ef
 ·rename_i l xs es
  cases ef
  obtain ⟨l',e1,_,_,_,vs,q,r⟩:=st.ownAt (s:=.pin l ds) rfl es
  exact ztl (zg0 hN hv hd hcd) pins s σ H R I ⟨_,e1,l',rfl,⟨vs,SqL.of q⟩,k _ Hf H (Ext.refl st.sub) (zw6 (SqL.of q) r)⟩
 ·cases ef
noncomputable def zja (i : Nat) (f : List Sl -> Option D) (ρ : List Sl) : Option Fl:=(f ρ).bind fun d=>match ρ[i]? with
 | some (.pin l xs)=>if xs.length < 16777216 then some (.nx (ρ.set i (.pin l (xs ++ [d])))) else none
 | _=>none
theorem ztq {st : Stmt} {i : Nat} {f : List Sl -> Option D} (h : PS X st (znf (tBM X.K "list" zp3 (zeh i) (zms (tD (Gx c X) f) zm3)))) : DS c X st (zja i f):=PS.imp h fun E σ H q_=>by
 obtain ⟨Hf0,H0,Hf,ρ,o,so,ef,k⟩:=q_
 unfold zja at ef
 cases e1 : f ρ with
 | none=>rw [e1] at ef; cases ef
 | some d =>
  rw [e1,Option.bind_some] at ef
  split at ef
  ·rename_i l xs es
   split at ef
   ·rename_i hl
    cases ef
    obtain ⟨l',e2,h0,hf,eq,vs,q,r⟩:=so.ownAt (s:=.pin l xs) rfl es
    subst eq
    refine ⟨_,e2,.inl ⟨rfl,_,SqL.of q⟩,Hf0,H0,Hf,ρ,d,so,e1,fun v Hf' H' x r'=>?_⟩
    have so':=so.step x
    have q':=x.h _ _ q
    refine ⟨l',vs,v,rfl,rfl,q',by rw [sizeLine_eq,<- r.length]; exact hl,k σ Hf' _ x.f (so'.mutd (s:=.pin l' xs) (s':=.pin l' (xs ++ [d])) rfl rfl es e2 ⟨rfl,vs ++ [v],zcg,(r.up x.f).append (.cons r' .nil)⟩)⟩
   ·cases ef
  ·cases ef
end
theorem zp6 {i : Nat} {m : Addr -> List D -> List D -> List D -> Option (List D × D)} {f : List Sl -> Option (List D × List D)} {ρ : List Sl} {l : Addr} {xs ds0 ds1 ys : List D} {d : D} (h : ρ[i]? = some (.pin l xs)) (hf : f ρ = some (ds0,ds1)) (hm : m l ds0 ds1 xs = some (ys,d)) : zh7 i m f ρ = some (d,ρ.set i (.pin l ys)):=by
 unfold zh7
 rw [h]
 show (f ρ).bind _ = _
 rw [hf,Option.bind_some,hm]
 rfl
theorem z8g {i : Nat} {m : Addr -> List D -> List D -> List D -> Option (List D × D)} {f : List Sl -> Option (List D × List D)} {ρ : List Sl} {xs ds0 ds1 ys : List D} {d : D} (h : ρ[i]? = some (.own xs)) (hf : f ρ = some (ds0,ds1)) (hm : ∀ l,m l ds0 ds1 xs = some (ys,d)) : zmf i m f ρ = some (d,ρ.set i (.own ys)):=by
 unfold zmf
 rw [h]
 show (f ρ).bind _ = _
 rw [hf,Option.bind_some,dif_pos ⟨(ys,d),hm⟩]
 have e : (⟨(ys,d),hm⟩ : ∃ q,∀ l,m l ds0 ds1 xs = some q).choose = (ys,d):=by
  have:=(⟨(ys,d),hm⟩ : ∃ q,∀ l,m l ds0 ds1 xs = some q).choose_spec 0
  rw [hm 0] at this
  exact (Option.some.inj this).symm
 rw [e]
theorem zeq {f : List Sl -> Option D} {g : List Sl -> Option (List D × List D)} {ρ : List Sl} {d : D} {a b : List D} (h : f ρ = some d) (h' : g ρ = some (a,b)) : zdr f g ρ = some (d :: a,b):=by
 unfold zdr
 rw [h,h']
 rfl
theorem zmv {g : List Sl -> Option (List D)} {ρ : List Sl} {ds : List D} (h : g ρ = some ds) : zgc g ρ = some ([],ds):=by
 unfold zgc
 rw [h]
 rfl
theorem zqb {f : List Sl -> Option (D × List Sl)} {ρ ρ' : List Sl} {d : D} {K : Fl -> Prop} (h : f ρ = some (d,ρ')) (k : K (.nx ρ')) : wp (zir f) ρ K:=⟨_,by unfold zir; rw [h]; rfl,k⟩
theorem zzq {i : Nat} {f : List Sl -> Option (D × List Sl)} {ρ ρ' : List Sl} {d : D} {K : Fl -> Prop} (h : f ρ = some (d,ρ')) (k : K (.nx (ρ'.set i (.im (.lst [d]))))) : wp (zlp i f) ρ K:=⟨_,by unfold zlp; rw [h]; rfl,k⟩
theorem zqm {i : Nat} {f : List Sl -> Option D} {ρ : List Sl} {d : D} {l : Addr} {xs : List D} {K : Fl -> Prop} (h : f ρ = some d) (h' : ρ[i]? = some (.pin l xs)) (hl : xs.length < 16777216) (k : K (.nx (ρ.set i (.pin l (xs ++ [d]))))) : wp (zja i f) ρ K:=⟨_,by
 unfold zja
 rw [h,Option.bind_some,h']
 exact if_pos hl,k⟩
theorem znp {f : List Sl -> Option D} {ρ : List Sl} {d : D} {K : Fl -> Prop} (h : f ρ = some d) (k : K (.rtS d ρ)) : wp (zk7 f) ρ K:=⟨_,by unfold zk7; rw [h]; rfl,k⟩
theorem zvd {l : Addr} {i : Nat} {ρ : List Sl} {ys : List D} (h : ρ[i]? = some (.pin l ys)) : zfn l i ρ = some ys:=by
 unfold zfn
 rw [h]
 exact if_pos rfl
theorem zz1 {N : Nat} {F : List Sl -> Option Fl} {l : Addr} {ds0 ds1 xs ys : List D} {ρ : List Sl} (h : F (zh8 N l ds0 ds1 xs) = some (.nx ρ)) (h' : ρ[ds0.length]? = some (.pin l ys)) : zhb N F l ds0 ds1 xs = some (ys,.non):=by
 unfold zhb
 rw [h,Option.bind_some]
 show (zfn l ds0.length ρ).map _ = _
 rw [zvd h']
 rfl
theorem zwz {N : Nat} {F : List Sl -> Option Fl} {l : Addr} {ds0 ds1 xs ys : List D} {d : D} {ρ : List Sl} (h : F (zh8 N l ds0 ds1 xs) = some (.rtS d ρ)) (h' : ρ[ds0.length]? = some (.pin l ys)) : zhb N F l ds0 ds1 xs = some (ys,d):=by
 unfold zhb
 rw [h,Option.bind_some]
 show (zfn l ds0.length ρ).map _ = _
 rw [zvd h']
 rfl
end L2
namespace N_k42
open PySem PySem.Spec PyProof.Rows L2
local macro_rules | `(tactic| walk_at "sc")=>`(tactic| exact ⟨rfl,rfl,rfl,by decide +kernel,rfl,by decide +kernel,by decide +kernel⟩)
noncomputable def top (i : Nat) : Stmt:=PySem.Challenge.pw_standstill_k42_a_paper.main.body.getD i (.Pass ⟨0,0,0,0⟩)
noncomputable abbrev s_8 : Stmt:=top 2
noncomputable abbrev zjh : Stmt:=top 9
noncomputable abbrev zjf : Stmt:=top 10
noncomputable abbrev zjc : Stmt:=top 11
noncomputable abbrev zke : Stmt:=top 12
noncomputable abbrev zkn : Stmt:=top 16
noncomputable abbrev zk3 : Stmt:=top 17
noncomputable abbrev zjj : Stmt:=top 18
noncomputable abbrev zkv : Stmt:=top 19
noncomputable abbrev zjd : Stmt:=top 21
noncomputable abbrev zku : Stmt:=top 22
noncomputable abbrev zjx : Stmt:=top 23
noncomputable abbrev zk0 : Stmt:=top 24
noncomputable abbrev s_4 : Stmt:=top 25
noncomputable abbrev zk2 : Stmt:=top 26
noncomputable abbrev zkt : Stmt:=top 27
noncomputable abbrev zjn : Stmt:=top 28
noncomputable abbrev zi1 : Stmt:=top 30
noncomputable abbrev zk6 : Stmt:=top 31
noncomputable abbrev zji : Stmt:=top 32
noncomputable abbrev zi5 : Stmt:=top 33
noncomputable abbrev s_5 : Stmt:=top 35
noncomputable abbrev s_0 : Stmt:=top 36
noncomputable abbrev zkh : Stmt:=top 37
noncomputable abbrev zi9 : Stmt:=top 38
noncomputable abbrev zk4 : Stmt:=top 39
noncomputable abbrev zki : Stmt:=top 40
noncomputable abbrev s_9 : Stmt:=top 41
noncomputable abbrev zk9 : Stmt:=top 42
noncomputable abbrev s_6 : Stmt:=top 43
noncomputable abbrev zjz : Stmt:=top 44
noncomputable abbrev zkx : Stmt:=top 45
noncomputable abbrev zkw : Stmt:=top 46
noncomputable abbrev zjb : Stmt:=top 47
noncomputable abbrev s_3 : Stmt:=top 48
noncomputable abbrev s_7 : Stmt:=top 49
noncomputable abbrev zj2 : Stmt:=top 50
noncomputable abbrev zj8 : Stmt:=top 51
noncomputable abbrev s_1 : Stmt:=top 52
noncomputable abbrev zj0 : Stmt:=top 53
noncomputable abbrev zjs : Stmt:=top 54
noncomputable abbrev zi7 : Stmt:=top 55
noncomputable abbrev zkr : Stmt:=top 56
noncomputable abbrev zkf : Stmt:=top 57
noncomputable abbrev zjv : Stmt:=top 58
noncomputable abbrev zj3 : Stmt:=top 59
noncomputable abbrev zkq : Stmt:=top 60
noncomputable abbrev zje : Stmt:=top 61
noncomputable abbrev zj7 : Stmt:=top 62
noncomputable abbrev s_2 : Stmt:=top 63
noncomputable abbrev zjp : Stmt:=zfq (top 5) 0
noncomputable abbrev zko : Stmt:=zfq (top 5) 5
noncomputable abbrev zi2 : Stmt:=zfq (top 5) 8
noncomputable abbrev zi3 : Stmt:=zfq (top 6) 0
noncomputable abbrev ziz : Stmt:=zfq (top 6) 5
noncomputable abbrev zi4 : Stmt:=zfq (top 6) 8
noncomputable abbrev zky : Stmt:=zfq (top 7) 0
noncomputable abbrev zkl : Stmt:=zfq (top 7) 5
noncomputable abbrev zka : Stmt:=zfq (top 7) 8
noncomputable abbrev zj1 : Stmt:=zfq (top 8) 0
noncomputable abbrev zj9 : Stmt:=zfq (top 8) 5
noncomputable abbrev zkk : Stmt:=zfq (top 8) 8
theorem zq6 : zba ["many","some","listed","thing"] ["many","some"] (zao s_8):=by walk_at "sc"
theorem zsl : zba ["told","word"] ["told"] (zao zjh):=by walk_at "sc"
theorem zxu : zba ["items","entries"] ["items","entries"] (zao zjf):=by walk_at "sc"
theorem zzw : zba ["items","sheet"] ["items","sheet"] (zao zjc):=by walk_at "sc"
theorem z60 : zba ["items","without"] ["items","without"] (zao zke):=by walk_at "sc"
theorem z0k : zba ["rule"] ["rule"] (zao zkn):=by walk_at "sc"
theorem z9c : zba ["rule","sheet"] ["rule","sheet"] (zao zk3):=by walk_at "sc"
theorem z5e : zba ["rule","sheet","without"] ["rule","sheet","without"] (zao zjj):=by walk_at "sc"
theorem z4q : zba ["rule","sheet"] ["rule","sheet"] (zao zkv):=by walk_at "sc"
theorem zti : zba ["sheet","thing","truth","other"] ["sheet","thing","truth"] (zao zjd):=by walk_at "sc"
theorem zuf : zba ["rule","sheet","without","thing"] ["rule","sheet","without"] (zao zku):=by walk_at "sc"
theorem z87 : zba ["sheet","bar"] ["sheet","bar"] (zao zjx):=by walk_at "sc"
theorem ztk : zba ["plain","worlds","bars","sheet","why","number"] ["plain","worlds","bars","sheet","why"] (zao zk0):=by walk_at "sc"
theorem z8n : zba ["listed","number"] ["listed","number"] (zao s_4):=by walk_at "sc"
theorem zv1 : zba ["plain","sheet","things","without"] ["plain","sheet","things"] (zao zk2):=by walk_at "sc"
theorem z1x : zba ["sheet","things"] ["sheet","things"] (zao zkt):=by walk_at "sc"
theorem zt2 : zba ["plain","worlds","bars","sheet","step","pair"] ["plain","worlds","bars","sheet","step"] (zao zjn):=by walk_at "sc"
theorem zp1 : zba ["plain","worlds","bars","line","bar","things"] ["plain","worlds","bars","line"] (zao zi1):=by walk_at "sc"
theorem zmx : zba ["many","bar","thing","sheet","truth"] ["many","bar"] (zao zk6):=by walk_at "sc"
theorem zmi : zba ["plain","worlds","bars","sheet","steps","after","place","step","ends"] ["plain","worlds","bars","sheet","steps"] (zao zji):=by walk_at "sc"
theorem zq0 : zba ["plain","worlds","paper","bars","line"] ["plain","worlds","paper"] (zao zi5):=by walk_at "sc"
theorem z4r : zba ["_law_script","_law_k"] ["_law_script","_law_k"] (zao s_5):=by walk_at "sc"
theorem zly : zba ["_law_cell","_law_many","_law_found","_law_number","_law_k"] ["_law_cell","_law_many"] (zao s_0):=by walk_at "sc"
theorem z4t : zba ["_law_x"] ["_law_x"] (zao zkh):=by walk_at "sc"
theorem zna : zba ["_law_xs","_law_many","_law_word","_law_items","_law_near"] ["_law_xs","_law_many"] (zao zi9):=by walk_at "sc"
theorem zpl : zba ["_law_cell","_law_many","_law_calm","_law_xs","_law_parts"] ["_law_cell","_law_many","_law_calm"] (zao zk4):=by walk_at "sc"
theorem zlm : zba ["_law_kind","_law_many","_law_rules","_law_k","_law_on","_law_part_here"] ["_law_kind","_law_many"] (zao zki):=by walk_at "sc"
theorem zhl : zba ["_law_rules","_law_found","_law_word","_law_head","_law_parts","_law_mine","_law_part_here"] ["_law_rules"] (zao s_9):=by walk_at "sc"
theorem z5j : zba ["_law_part_here","_law_sheet"] ["_law_part_here","_law_sheet"] (zao zk9):=by walk_at "sc"
theorem z0q : zba ["_law_rule_here","_law_sheet"] ["_law_rule_here","_law_sheet"] (zao s_6):=by walk_at "sc"
theorem zv6 : zba ["_law_part_here","_law_sheet","_law_without","_law_left"] ["_law_part_here","_law_sheet","_law_without"] (zao zjz):=by walk_at "sc"
theorem zxe : zba ["_law_rule_here","_law_sheet","_law_without"] ["_law_rule_here","_law_sheet","_law_without"] (zao zkx):=by walk_at "sc"
theorem zkd : zba ["_law_rules","_law_sheet","_law_left","_law_going","_law_rule_here"] ["_law_rules","_law_sheet"] (zao zkw):=by walk_at "sc"
theorem z79 : zba ["_law_sheet","_law_bar"] ["_law_sheet","_law_bar"] (zao zjb):=by walk_at "sc"
theorem zm4 : zba ["_law_rules","_law_sets","_law_bars","_law_sheet","_law_why","_law_word","_law_told","_law_without"] ["_law_rules","_law_sets","_law_bars","_law_sheet","_law_why"] (zao s_3):=by walk_at "sc"
theorem z8u : zba ["_law_sheet","_law_thing","_law_entry"] ["_law_sheet","_law_thing","_law_entry"] (zao s_7):=by walk_at "sc"
theorem zob : zba ["_law_rules","_law_sets","_law_bars","_law_sheet","_law_found","_law_left","_law_mine"] ["_law_rules","_law_sets","_law_bars","_law_sheet"] (zao zj2):=by walk_at "sc"
theorem zri : zba ["_law_cell","_law_rules","_law_sets","_law_lines","_law_sheet","_law_xs","_law_word"] ["_law_cell","_law_rules","_law_sets","_law_lines","_law_sheet"] (zao zj8):=by walk_at "sc"
theorem zgq : zba ["_law_rules","_law_sets","_law_sheet","_law_bar","_law_lines","_law_cell","_law_xs","_law_thing","_law_things","_law_whys_here","_law_truth","_law_one"] ["_law_rules","_law_sets","_law_sheet","_law_bar","_law_lines","_law_cell"] (zao s_1):=by walk_at "sc"
theorem z1g : zba ["_law_part_here","_law_rising","_law_held"] ["_law_part_here","_law_rising","_law_held"] (zao zj0):=by walk_at "sc"
theorem zi8 : zba ["_law_rules","_law_held","_law_rising","_law_turn","_law_word","_law_head","_law_parts"] ["_law_rules","_law_held"] (zao zjs):=by walk_at "sc"
theorem zln : zba ["_law_many","_law_rules","_law_rows","_law_k","_law_held"] ["_law_many","_law_rules"] (zao zi7):=by walk_at "sc"
theorem zlb : zba ["_law_steps","_law_found","_law_pair","_law_why"] ["_law_steps"] (zao zkr):=by walk_at "sc"
theorem zm2 : zba ["_law_many","_law_bar","_law_sheet","_law_thing","_law_truth"] ["_law_many","_law_bar"] (zao zkf):=by walk_at "sc"
theorem zkc : zba ["_law_many","_law_rules","_law_sets","_law_bars","_law_line","_law_bar","_law_steps","_law_sheet","_law_pair","_law_why"] ["_law_many","_law_rules","_law_sets","_law_bars","_law_line"] (zao zjv):=by walk_at "sc"
theorem zn0 : zba ["_law_many","_law_rules","_law_sets","_law_lines","_law_bars","_law_k","_law_line"] ["_law_many","_law_rules","_law_sets","_law_lines"] (zao zj3):=by walk_at "sc"
theorem zhp : zba ["_law_line","_law_x","_law_bar","_law_steps","_law_at","_law_pair","_law_why"] ["_law_line","_law_x"] (zao zkq):=by walk_at "sc"
theorem zii : zba ["_law_sets","_law_lines","_law_cell","_law_many","_law_xs","_law_way","_law_at","_law_thing","_law_mine"] ["_law_sets","_law_lines","_law_cell","_law_many"] (zao zje):=by walk_at "sc"
theorem znn : zba ["_law_many","_law_rules","_law_sets","_law_lines","_law_handed","_law_mine","_law_found"] ["_law_many","_law_rules","_law_sets","_law_lines"] (zao zj7):=by walk_at "sc"
theorem zfo : zba ["_law_script","_law_hs","_law_many","_law_rules","_law_cell","_law_sets","_law_lines","_law_some","_law_mine"] ["_law_script"] (zao s_2):=by walk_at "sc"
theorem zw3 : zba ["self","thing"] ["self","thing"] (zao zjp):=by walk_at "sc"
theorem z14 : zba ["self","sheet"] ["self","sheet"] (zao zko):=by walk_at "sc"
theorem z7n : zba ["self","sheet","without"] ["self","sheet","without"] (zao zi2):=by walk_at "sc"
theorem z7x : zba ["self","thing"] ["self","thing"] (zao zi3):=by walk_at "sc"
theorem z0p : zba ["self","sheet"] ["self","sheet"] (zao ziz):=by walk_at "sc"
theorem z8t : zba ["self","sheet","without"] ["self","sheet","without"] (zao zi4):=by walk_at "sc"
theorem z6q : zba ["self","bound","items"] ["self","bound","items"] (zao zky):=by walk_at "sc"
theorem z9b : zba ["self","sheet"] ["self","sheet"] (zao zkl):=by walk_at "sc"
theorem zxi : zba ["self","sheet","without"] ["self","sheet","without"] (zao zka):=by walk_at "sc"
theorem z3b : zba ["self","bound","items"] ["self","bound","items"] (zao zj1):=by walk_at "sc"
theorem z52 : zba ["self","sheet"] ["self","sheet"] (zao zj9):=by walk_at "sc"
theorem z42 : zba ["self","sheet","without"] ["self","sheet","without"] (zao zkk):=by walk_at "sc"
set_option genInjectivity false
set_option genSizeOf false
structure Wa where
 f_8 : Addr
 fd_8 : FuncData
 f_48 : Addr
 fd_48 : FuncData
 f_30 : Addr
 fd_30 : FuncData
 f_20 : Addr
 fd_20 : FuncData
 f_51 : Addr
 fd_51 : FuncData
 f_31 : Addr
 fd_31 : FuncData
 f_52 : Addr
 fd_52 : FuncData
 f_53 : Addr
 fd_53 : FuncData
 f_54 : Addr
 fd_54 : FuncData
 f_44 : Addr
 fd_44 : FuncData
 f_45 : Addr
 fd_45 : FuncData
 f_55 : Addr
 fd_55 : FuncData
 f_13 : Addr
 fd_13 : FuncData
 f_4 : Addr
 fd_4 : FuncData
 f_46 : Addr
 fd_46 : FuncData
 f_56 : Addr
 fd_56 : FuncData
 f_47 : Addr
 fd_47 : FuncData
 f_40 : Addr
 fd_40 : FuncData
 f_32 : Addr
 fd_32 : FuncData
 f_33 : Addr
 fd_33 : FuncData
 f_41 : Addr
 fd_41 : FuncData
 f_5 : Addr
 fd_5 : FuncData
 f_0 : Addr
 fd_0 : FuncData
 f_42 : Addr
 fd_42 : FuncData
 f_34 : Addr
 fd_34 : FuncData
 f_43 : Addr
 fd_43 : FuncData
 f_21 : Addr
 fd_21 : FuncData
 f_9 : Addr
 fd_9 : FuncData
 f_49 : Addr
 fd_49 : FuncData
 f_6 : Addr
 fd_6 : FuncData
 f_50 : Addr
 fd_50 : FuncData
 f_22 : Addr
 fd_22 : FuncData
 f_14 : Addr
 fd_14 : FuncData
 f_35 : Addr
 fd_35 : FuncData
 f_3 : Addr
 fd_3 : FuncData
 f_7 : Addr
 fd_7 : FuncData
 f_23 : Addr
 fd_23 : FuncData
 f_10 : Addr
 fd_10 : FuncData
 f_1 : Addr
 fd_1 : FuncData
 f_57 : Addr
 fd_57 : FuncData
 f_11 : Addr
 fd_11 : FuncData
 f_36 : Addr
 fd_36 : FuncData
 f_37 : Addr
 fd_37 : FuncData
 f_24 : Addr
 fd_24 : FuncData
 f_25 : Addr
 fd_25 : FuncData
 f_38 : Addr
 fd_38 : FuncData
 f_12 : Addr
 fd_12 : FuncData
 f_15 : Addr
 fd_15 : FuncData
 f_39 : Addr
 fd_39 : FuncData
 f_2 : Addr
 fd_2 : FuncData
 f_58 : Addr
 fd_58 : FuncData
 f_26 : Addr
 fd_26 : FuncData
 f_16 : Addr
 fd_16 : FuncData
 f_59 : Addr
 fd_59 : FuncData
 f_27 : Addr
 fd_27 : FuncData
 f_17 : Addr
 fd_17 : FuncData
 f_60 : Addr
 fd_60 : FuncData
 f_28 : Addr
 fd_28 : FuncData
 f_18 : Addr
 fd_18 : FuncData
 f_61 : Addr
 fd_61 : FuncData
 f_29 : Addr
 fd_29 : FuncData
 f_19 : Addr
 fd_19 : FuncData
 C_In : Addr
 C_Out : Addr
 C_Least : Addr
 C_Most : Addr
structure Wd (K : PySem.W.Frag) (mg : Str -> Option Value) (a : Wa) : Prop where
 F_8 : Fun K "marks" "marks" s_8 a.f_8 a.fd_8
 b_8 : za2 K a.fd_8 ["many","some"] []
 g_8 : mg "marks" = some (.ref a.f_8)
 F_48 : Fun K "part_of" "part_of" zjh a.f_48 a.fd_48
 b_48 : za2 K a.fd_48 ["told"] []
 g_48 : mg "part_of" = some (.ref a.f_48)
 F_30 : Fun K "worth_in" "worth_in" zjf a.f_30 a.fd_30
 b_30 : za2 K a.fd_30 ["items","entries"] []
 g_30 : mg "worth_in" = some (.ref a.f_30)
 F_20 : Fun K "worth_not_out" "worth_not_out" zjc a.f_20 a.fd_20
 b_20 : za2 K a.fd_20 ["items","sheet"] []
 g_20 : mg "worth_not_out" = some (.ref a.f_20)
 F_51 : Fun K "outside" "outside" zke a.f_51 a.fd_51
 b_51 : za2 K a.fd_51 ["items","without"] []
 g_51 : mg "outside" = some (.ref a.f_51)
 F_31 : Fun K "body_of" "body_of" zkn a.f_31 a.fd_31
 b_31 : za2 K a.fd_31 ["rule"] []
 g_31 : mg "body_of" = some (.ref a.f_31)
 F_52 : Fun K "body_sure" "body_sure" zk3 a.f_52 a.fd_52
 b_52 : za2 K a.fd_52 ["rule","sheet"] []
 g_52 : mg "body_sure" = some (.ref a.f_52)
 F_53 : Fun K "body_lost" "body_lost" zjj a.f_53 a.fd_53
 b_53 : za2 K a.fd_53 ["rule","sheet","without"] []
 g_53 : mg "body_lost" = some (.ref a.f_53)
 F_54 : Fun K "surely_broken" "surely_broken" zkv a.f_54 a.fd_54
 b_54 : za2 K a.fd_54 ["rule","sheet"] []
 g_54 : mg "surely_broken" = some (.ref a.f_54)
 F_44 : Fun K "put_to" "put_to" zjd a.f_44 a.fd_44
 b_44 : za2 K a.fd_44 ["sheet","thing","truth"] []
 g_44 : mg "put_to" = some (.ref a.f_44)
 F_45 : Fun K "rests_outside" "rests_outside" zku a.f_45 a.fd_45
 b_45 : za2 K a.fd_45 ["rule","sheet","without"] []
 g_45 : mg "rests_outside" = some (.ref a.f_45)
 F_55 : Fun K "fits" "fits" zjx a.f_55 a.fd_55
 b_55 : za2 K a.fd_55 ["sheet","bar"] []
 g_55 : mg "fits" = some (.ref a.f_55)
 F_13 : Fun K "right_why" "right_why" zk0 a.f_13 a.fd_13
 b_13 : za2 K a.fd_13 ["plain","worlds","bars","sheet","why"] []
 g_13 : mg "right_why" = some (.ref a.f_13)
 F_4 : Fun K "has_number" "has_number" s_4 a.f_4 a.fd_4
 b_4 : za2 K a.fd_4 ["listed","number"] []
 g_4 : mg "has_number" = some (.ref a.f_4)
 F_46 : Fun K "right_group" "right_group" zk2 a.f_46 a.fd_46
 b_46 : za2 K a.fd_46 ["plain","sheet","things"] []
 g_46 : mg "right_group" = some (.ref a.f_46)
 F_56 : Fun K "has_in" "has_in" zkt a.f_56 a.fd_56
 b_56 : za2 K a.fd_56 ["sheet","things"] []
 g_56 : mg "has_in" = some (.ref a.f_56)
 F_47 : Fun K "right_step" "right_step" zjn a.f_47 a.fd_47
 b_47 : za2 K a.fd_47 ["plain","worlds","bars","sheet","step"] []
 g_47 : mg "right_step" = some (.ref a.f_47)
 F_40 : Fun K "right_line" "right_line" zi1 a.f_40 a.fd_40
 b_40 : za2 K a.fd_40 ["plain","worlds","bars","line"] []
 g_40 : mg "right_line" = some (.ref a.f_40)
 F_32 : Fun K "begun" "begun" zk6 a.f_32 a.fd_32
 b_32 : za2 K a.fd_32 ["many","bar"] []
 g_32 : mg "begun" = some (.ref a.f_32)
 F_33 : Fun K "right_steps" "right_steps" zji a.f_33 a.fd_33
 b_33 : za2 K a.fd_33 ["plain","worlds","bars","sheet","steps"] []
 g_33 : mg "right_steps" = some (.ref a.f_33)
 F_41 : Fun K "right_paper" "right_paper" zi5 a.f_41 a.fd_41
 b_41 : za2 K a.fd_41 ["plain","worlds","paper"] []
 g_41 : mg "right_paper" = some (.ref a.f_41)
 F_5 : Fun K "_law_cell_at" "_law_cell_at" s_5 a.f_5 a.fd_5
 b_5 : za2 K a.fd_5 ["_law_script","_law_k"] []
 g_5 : mg "_law_cell_at" = some (.ref a.f_5)
 F_0 : Fun K "_law_mixed" "_law_mixed" s_0 a.f_0 a.fd_0
 b_0 : za2 K a.fd_0 ["_law_cell","_law_many"] []
 g_0 : mg "_law_mixed" = some (.ref a.f_0)
 F_42 : Fun K "_law_worth" "_law_worth" zkh a.f_42 a.fd_42
 b_42 : za2 K a.fd_42 ["_law_x"] []
 g_42 : mg "_law_worth" = some (.ref a.f_42)
 F_34 : Fun K "_law_part" "_law_part" zi9 a.f_34 a.fd_34
 b_34 : za2 K a.fd_34 ["_law_xs","_law_many"] []
 g_34 : mg "_law_part" = some (.ref a.f_34)
 F_43 : Fun K "_law_rule" "_law_rule" zk4 a.f_43 a.fd_43
 b_43 : za2 K a.fd_43 ["_law_cell","_law_many","_law_calm"] []
 g_43 : mg "_law_rule" = some (.ref a.f_43)
 F_21 : Fun K "_law_ring" "_law_ring" zki a.f_21 a.fd_21
 b_21 : za2 K a.fd_21 ["_law_kind","_law_many"] []
 g_21 : mg "_law_ring" = some (.ref a.f_21)
 F_9 : Fun K "_law_copy" "_law_copy" s_9 a.f_9 a.fd_9
 b_9 : za2 K a.fd_9 ["_law_rules"] []
 g_9 : mg "_law_copy" = some (.ref a.f_9)
 F_49 : Fun K "_law_part_sure" "_law_part_sure" zk9 a.f_49 a.fd_49
 b_49 : za2 K a.fd_49 ["_law_part_here","_law_sheet"] []
 g_49 : mg "_law_part_sure" = some (.ref a.f_49)
 F_6 : Fun K "_law_broken" "_law_broken" s_6 a.f_6 a.fd_6
 b_6 : za2 K a.fd_6 ["_law_rule_here","_law_sheet"] []
 g_6 : mg "_law_broken" = some (.ref a.f_6)
 F_50 : Fun K "_law_part_lost" "_law_part_lost" zjz a.f_50 a.fd_50
 b_50 : za2 K a.fd_50 ["_law_part_here","_law_sheet","_law_without"] []
 g_50 : mg "_law_part_lost" = some (.ref a.f_50)
 F_22 : Fun K "_law_holds_up" "_law_holds_up" zkx a.f_22 a.fd_22
 b_22 : za2 K a.fd_22 ["_law_rule_here","_law_sheet","_law_without"] []
 g_22 : mg "_law_holds_up" = some (.ref a.f_22)
 F_14 : Fun K "_law_loose" "_law_loose" zkw a.f_14 a.fd_14
 b_14 : za2 K a.fd_14 ["_law_rules","_law_sheet"] []
 g_14 : mg "_law_loose" = some (.ref a.f_14)
 F_35 : Fun K "_law_fits" "_law_fits" zjb a.f_35 a.fd_35
 b_35 : za2 K a.fd_35 ["_law_sheet","_law_bar"] []
 g_35 : mg "_law_fits" = some (.ref a.f_35)
 F_3 : Fun K "_law_right" "_law_right" s_3 a.f_3 a.fd_3
 b_3 : za2 K a.fd_3 ["_law_rules","_law_sets","_law_bars","_law_sheet","_law_why"] []
 g_3 : mg "_law_right" = some (.ref a.f_3)
 F_7 : Fun K "_law_with" "_law_with" s_7 a.f_7 a.fd_7
 b_7 : za2 K a.fd_7 ["_law_sheet","_law_thing","_law_entry"] []
 g_7 : mg "_law_with" = some (.ref a.f_7)
 F_23 : Fun K "_law_whys" "_law_whys" zj2 a.f_23 a.fd_23
 b_23 : za2 K a.fd_23 ["_law_rules","_law_sets","_law_bars","_law_sheet"] []
 g_23 : mg "_law_whys" = some (.ref a.f_23)
 F_10 : Fun K "_law_lie" "_law_lie" zj8 a.f_10 a.fd_10
 b_10 : za2 K a.fd_10 ["_law_cell","_law_rules","_law_sets","_law_lines","_law_sheet"] []
 g_10 : mg "_law_lie" = some (.ref a.f_10)
 F_1 : Fun K "_law_bar_out" "_law_bar_out" s_1 a.f_1 a.fd_1
 b_1 : za2 K a.fd_1 ["_law_rules","_law_sets","_law_sheet","_law_bar","_law_lines","_law_cell"] []
 g_1 : mg "_law_bar_out" = some (.ref a.f_1)
 F_57 : Fun K "_law_holds" "_law_holds" zj0 a.f_57 a.fd_57
 b_57 : za2 K a.fd_57 ["_law_part_here","_law_rising","_law_held"] []
 g_57 : mg "_law_holds" = some (.ref a.f_57)
 F_11 : Fun K "_law_stands" "_law_stands" zjs a.f_11 a.fd_11
 b_11 : za2 K a.fd_11 ["_law_rules","_law_held"] []
 g_11 : mg "_law_stands" = some (.ref a.f_11)
 F_36 : Fun K "_law_standing" "_law_standing" zi7 a.f_36 a.fd_36
 b_36 : za2 K a.fd_36 ["_law_many","_law_rules"] []
 g_36 : mg "_law_standing" = some (.ref a.f_36)
 F_37 : Fun K "_law_again" "_law_again" zkr a.f_37 a.fd_37
 b_37 : za2 K a.fd_37 ["_law_steps"] []
 g_37 : mg "_law_again" = some (.ref a.f_37)
 F_24 : Fun K "_law_begun" "_law_begun" zkf a.f_24 a.fd_24
 b_24 : za2 K a.fd_24 ["_law_many","_law_bar"] []
 g_24 : mg "_law_begun" = some (.ref a.f_24)
 F_25 : Fun K "_law_line_right" "_law_line_right" zjv a.f_25 a.fd_25
 b_25 : za2 K a.fd_25 ["_law_many","_law_rules","_law_sets","_law_bars","_law_line"] []
 g_25 : mg "_law_line_right" = some (.ref a.f_25)
 F_38 : Fun K "_law_paper_right" "_law_paper_right" zj3 a.f_38 a.fd_38
 b_38 : za2 K a.fd_38 ["_law_many","_law_rules","_law_sets","_law_lines"] []
 g_38 : mg "_law_paper_right" = some (.ref a.f_38)
 F_12 : Fun K "_law_other_line" "_law_other_line" zkq a.f_12 a.fd_12
 b_12 : za2 K a.fd_12 ["_law_line","_law_x"] []
 g_12 : mg "_law_other_line" = some (.ref a.f_12)
 F_15 : Fun K "_law_spoiled" "_law_spoiled" zje a.f_15 a.fd_15
 b_15 : za2 K a.fd_15 ["_law_sets","_law_lines","_law_cell","_law_many"] []
 g_15 : mg "_law_spoiled" = some (.ref a.f_15)
 F_39 : Fun K "_law_asked" "_law_asked" zj7 a.f_39 a.fd_39
 b_39 : za2 K a.fd_39 ["_law_many","_law_rules","_law_sets","_law_lines"] []
 g_39 : mg "_law_asked" = some (.ref a.f_39)
 F_2 : Fun K "law" "law" s_2 a.f_2 a.fd_2
 b_2 : za2 K a.fd_2 ["_law_script"] []
 g_2 : mg "law" = some (.ref a.f_2)
 F_58 : Fun K "__init__" "In.__init__" zjp a.f_58 a.fd_58
 b_58 : za2 K a.fd_58 ["self","thing"] []
 F_26 : Fun K "sure" "In.sure" zko a.f_26 a.fd_26
 b_26 : za2 K a.fd_26 ["self","sheet"] []
 F_16 : Fun K "lost" "In.lost" zi2 a.f_16 a.fd_16
 b_16 : za2 K a.fd_16 ["self","sheet","without"] []
 F_59 : Fun K "__init__" "Out.__init__" zi3 a.f_59 a.fd_59
 b_59 : za2 K a.fd_59 ["self","thing"] []
 F_27 : Fun K "sure" "Out.sure" ziz a.f_27 a.fd_27
 b_27 : za2 K a.fd_27 ["self","sheet"] []
 F_17 : Fun K "lost" "Out.lost" zi4 a.f_17 a.fd_17
 b_17 : za2 K a.fd_17 ["self","sheet","without"] []
 F_60 : Fun K "__init__" "Least.__init__" zky a.f_60 a.fd_60
 b_60 : za2 K a.fd_60 ["self","bound","items"] []
 F_28 : Fun K "sure" "Least.sure" zkl a.f_28 a.fd_28
 b_28 : za2 K a.fd_28 ["self","sheet"] []
 F_18 : Fun K "lost" "Least.lost" zka a.f_18 a.fd_18
 b_18 : za2 K a.fd_18 ["self","sheet","without"] []
 F_61 : Fun K "__init__" "Most.__init__" zj1 a.f_61 a.fd_61
 b_61 : za2 K a.fd_61 ["self","bound","items"] []
 F_29 : Fun K "sure" "Most.sure" zj9 a.f_29 a.fd_29
 b_29 : za2 K a.fd_29 ["self","sheet"] []
 F_19 : Fun K "lost" "Most.lost" zkk a.f_19 a.fd_19
 b_19 : za2 K a.fd_19 ["self","sheet","without"] []
 g_In : mg "In" = some (.ref a.C_In)
 cl_In : Cls K a.C_In
 mk_In : Mk K a.C_In a.f_58
 na_In_thing : zdo K a.C_In "thing"
 m_26 : zd1 K a.C_In "sure" a.f_26
 m_16 : zd1 K a.C_In "lost" a.f_16
 g_Out : mg "Out" = some (.ref a.C_Out)
 cl_Out : Cls K a.C_Out
 mk_Out : Mk K a.C_Out a.f_59
 na_Out_thing : zdo K a.C_Out "thing"
 m_27 : zd1 K a.C_Out "sure" a.f_27
 m_17 : zd1 K a.C_Out "lost" a.f_17
 g_Least : mg "Least" = some (.ref a.C_Least)
 cl_Least : Cls K a.C_Least
 mk_Least : Mk K a.C_Least a.f_60
 na_Least_bound : zdo K a.C_Least "bound"
 na_Least_pieces : zdo K a.C_Least "pieces"
 m_28 : zd1 K a.C_Least "sure" a.f_28
 m_18 : zd1 K a.C_Least "lost" a.f_18
 g_Most : mg "Most" = some (.ref a.C_Most)
 cl_Most : Cls K a.C_Most
 mk_Most : Mk K a.C_Most a.f_61
 na_Most_bound : zdo K a.C_Most "bound"
 na_Most_pieces : zdo K a.C_Most "pieces"
 m_29 : zd1 K a.C_Most "sure" a.f_29
 m_19 : zd1 K a.C_Most "lost" a.f_19
 kt_NoneType_bool : PySem.W.kitOne K (.type "NoneType") (.type "bool") = some false
 kt_bool_bool : PySem.W.kitOne K (.type "bool") (.type "bool") = some true
 kt_int_bool : PySem.W.kitOne K (.type "int") (.type "bool") = some false
 kt_str_bool : PySem.W.kitOne K (.type "str") (.type "bool") = some false
 kt_list_bool : PySem.W.kitOne K (.type "list") (.type "bool") = some false
 kt_tuple_bool : PySem.W.kitOne K (.type "tuple") (.type "bool") = some false
 kt_dict_bool : PySem.W.kitOne K (.type "dict") (.type "bool") = some false
 z_all : mg "all" = none
 z_any : mg "any" = none
 z_bool : mg "bool" = none
 z_enumerate : mg "enumerate" = none
 z_isinstance : mg "isinstance" = none
 z_len : mg "len" = none
 z_list : mg "list" = none
 z_range : mg "range" = none
 z_set : mg "set" = none
 z_sorted : mg "sorted" = none
 z_sum : mg "sum" = none
set_option genInjectivity true
set_option genSizeOf true
section
variable {P : Program} {w : World} {K : PySem.W.Frag} {mg : Str -> Option Value} {base : Heap}
noncomputable def cl (a : Wa) : Str -> Addr:=fun s=>if s = "In" then a.C_In else if s = "Out" then a.C_Out else if s = "Least" then a.C_Least else if s = "Most" then a.C_Most else 0
theorem zjg {a : Wa} : cl a "In" = a.C_In:=by unfold cl; rw [if_pos rfl]
theorem zk1 {a : Wa} (W : Wd K mg a) : Cls K (cl a "In"):=by rw [zjg]; exact W.cl_In
theorem z3d {a : Wa} (W : Wd K mg a) : Mk K (cl a "In") a.f_58:=by rw [zjg]; exact W.mk_In
theorem z7t {a : Wa} (W : Wd K mg a) : mg "In" = some (.ref (cl a "In")):=by rw [zjg]; exact W.g_In
theorem zne {a : Wa} (W : Wd K mg a) : zdo K (cl a "In") "thing":=by rw [zjg]; exact W.na_In_thing
theorem z7l {a : Wa} (W : Wd K mg a) : zd1 K (cl a "In") "sure" a.f_26:=by rw [zjg]; exact W.m_26
theorem z5w {a : Wa} (W : Wd K mg a) : zd1 K (cl a "In") "lost" a.f_16:=by rw [zjg]; exact W.m_16
theorem zk5 {a : Wa} : cl a "Out" = a.C_Out:=by unfold cl; rw [if_neg (by decide +kernel)]; rw [if_pos rfl]
theorem zmd {a : Wa} (W : Wd K mg a) : Cls K (cl a "Out"):=by rw [zk5]; exact W.cl_Out
theorem z0t {a : Wa} (W : Wd K mg a) : Mk K (cl a "Out") a.f_59:=by rw [zk5]; exact W.mk_Out
theorem zx7 {a : Wa} (W : Wd K mg a) : mg "Out" = some (.ref (cl a "Out")):=by rw [zk5]; exact W.g_Out
theorem zry {a : Wa} (W : Wd K mg a) : zdo K (cl a "Out") "thing":=by rw [zk5]; exact W.na_Out_thing
theorem z66 {a : Wa} (W : Wd K mg a) : zd1 K (cl a "Out") "sure" a.f_27:=by rw [zk5]; exact W.m_27
theorem z8q {a : Wa} (W : Wd K mg a) : zd1 K (cl a "Out") "lost" a.f_17:=by rw [zk5]; exact W.m_17
theorem zh3 {a : Wa} : cl a "Least" = a.C_Least:=by unfold cl; rw [if_neg (by decide +kernel)]; rw [if_neg (by decide +kernel)]; rw [if_pos rfl]
theorem zhr {a : Wa} (W : Wd K mg a) : Cls K (cl a "Least"):=by rw [zh3]; exact W.cl_Least
theorem z0a {a : Wa} (W : Wd K mg a) : Mk K (cl a "Least") a.f_60:=by rw [zh3]; exact W.mk_Least
theorem z49 {a : Wa} (W : Wd K mg a) : mg "Least" = some (.ref (cl a "Least")):=by rw [zh3]; exact W.g_Least
theorem zqs {a : Wa} (W : Wd K mg a) : zdo K (cl a "Least") "bound":=by rw [zh3]; exact W.na_Least_bound
theorem zpp {a : Wa} (W : Wd K mg a) : zdo K (cl a "Least") "pieces":=by rw [zh3]; exact W.na_Least_pieces
theorem z9e {a : Wa} (W : Wd K mg a) : zd1 K (cl a "Least") "sure" a.f_28:=by rw [zh3]; exact W.m_28
theorem z7c {a : Wa} (W : Wd K mg a) : zd1 K (cl a "Least") "lost" a.f_18:=by rw [zh3]; exact W.m_18
theorem zik {a : Wa} : cl a "Most" = a.C_Most:=by unfold cl; rw [if_neg (by decide +kernel)]; rw [if_neg (by decide +kernel)]; rw [if_neg (by decide +kernel)]; rw [if_pos rfl]
theorem zhw {a : Wa} (W : Wd K mg a) : Cls K (cl a "Most"):=by rw [zik]; exact W.cl_Most
theorem z71 {a : Wa} (W : Wd K mg a) : Mk K (cl a "Most") a.f_61:=by rw [zik]; exact W.mk_Most
theorem z0r {a : Wa} (W : Wd K mg a) : mg "Most" = some (.ref (cl a "Most")):=by rw [zik]; exact W.g_Most
theorem zop {a : Wa} (W : Wd K mg a) : zdo K (cl a "Most") "bound":=by rw [zik]; exact W.na_Most_bound
theorem zqq {a : Wa} (W : Wd K mg a) : zdo K (cl a "Most") "pieces":=by rw [zik]; exact W.na_Most_pieces
theorem z3k {a : Wa} (W : Wd K mg a) : zd1 K (cl a "Most") "sure" a.f_29:=by rw [zik]; exact W.m_29
theorem z2p {a : Wa} (W : Wd K mg a) : zd1 K (cl a "Most") "lost" a.f_19:=by rw [zik]; exact W.m_19
theorem z4e {a : Wa} (W : Wd K mg a) : zwj K "bool":=fun t ht=>by
 simp only [List.mem_cons,List.not_mem_nil,or_false] at ht
 rcases ht with rfl | rfl | rfl | rfl | rfl | rfl | rfl
 ·exact W.kt_NoneType_bool
 ·exact W.kt_bool_bool
 ·exact W.kt_int_bool
 ·exact W.kt_str_bool
 ·exact W.kt_list_bool
 ·exact W.kt_tuple_bool
 ·exact W.kt_dict_bool
end
noncomputable def b_37 : List Sl -> Option Fl :=
 (zai (zde 1 (fun _=>some []))
  (zai (zc9 (zbl (zaa 0)) (zb8 (za3 (zaq 2) (za3 (zaq 3) zcd))) (zai (za4 (mB (m2 dEq (mIx (zaf 3) (fun _=>some (.int 0))) (fun _=>some (.str "group")))) (zbe 3 (zbn (zab (mIx (zaf 3) (fun _=>some (.int 0))) (zab (zal (zbl (mIx (zaf 3) (fun _=>some (.int 1))))) (fun _=>some []))))) zbg)
  (ze8 1 (zbn (zab (zaa 2) (zab (zaa 3) (fun _=>some [])))))))
  (ze1 1)))
noncomputable def zpg (as : List D) : Option D:=zbk 4 b_37 as
noncomputable def b_9 : List Sl -> Option Fl :=
 (zai (zde 1 (fun _=>some []))
  (zai (zc9 (zbl (zaa 0)) (zb8 (za3 (zaq 2) (za3 (zaq 3) (za3 (zaq 4) zcd)))) (zai (zde 5 (fun _=>some []))
  (zai (zc9 (zbl (zaa 4)) (zaq 6) (zai (za4 (mB (m2 dEq (zap zce (zab (zaa 6) (fun _=>some []))) (fun _=>some (.int 3)))) (zbe 6 (zbn (zab (mIx (zaf 6) (fun _=>some (.int 0))) (zab (mIx (zaf 6) (fun _=>some (.int 1))) (zab (zal (zbl (mIx (zaf 6) (fun _=>some (.int 2))))) (fun _=>some [])))))) zbg)
  (ze8 5 (zaa 6))))
  (ze9 5 (ze8 1 (zbn (zab (zaa 2) (zab (zaa 3) (zab (zaa 5) (fun _=>some []))))))))))
  (ze1 1)))
noncomputable def m_9 (as : List D) : Option D:=zbk 7 b_9 as
noncomputable def b_24 : List Sl -> Option Fl :=
 (zai (zde 2 (za6 1 [] (zdn (zab (zaa 0) (fun _=>some []))) (zaq 0) (fun _=>some true) (fun _=>some .non)))
  (zai (zc9 (zbl (zaa 1)) (zb8 (za3 (zaq 3) (za3 (zaq 4) zcd))) (zfc 2 (zaa 3) (zaa 4)))
  (ze1 2)))
noncomputable def znj (as : List D) : Option (List D):=zjr 5 b_24 as
noncomputable def b_49 : List Sl -> Option Fl :=
 (zai (za4 (mB (m2 dEq (mIx (zaf 0) (fun _=>some (.int 0))) (fun _=>some (.str "in")))) (zav (m2 dIs (mIx (zaf 1) (mIx (zaf 0) (fun _=>some (.int 1)))) (fun _=>some (.bl true)))) zbg)
  (zai (za4 (mB (m2 dEq (mIx (zaf 0) (fun _=>some (.int 0))) (fun _=>some (.str "out")))) (zav (m2 dIs (mIx (zaf 1) (mIx (zaf 0) (fun _=>some (.int 1)))) (fun _=>some (.bl false)))) zbg)
  (zai (za4 (mB (m2 dEq (mIx (zaf 0) (fun _=>some (.int 0))) (fun _=>some (.str "least")))) (zav (m2 dGe (zap zd5 (zab (zal (za6 2 [1] (zbl (mIx (zaf 0) (fun _=>some (.int 2)))) (zb8 (za3 (zaq 0) (za3 (zaq 1) zcd))) (mB (m2 dIs (mIx (zaf 2) (zaa 0)) (fun _=>some (.bl true)))) (zaa 1))) (fun _=>some []))) (mIx (zaf 0) (fun _=>some (.int 1))))) zbg)
  (zav (m2 dLe (zap zd5 (zab (zal (za6 2 [1] (zbl (mIx (zaf 0) (fun _=>some (.int 2)))) (zb8 (za3 (zaq 0) (za3 (zaq 1) zcd))) (mB (m2 zdq (mIx (zaf 2) (zaa 0)) (fun _=>some (.bl false)))) (zaa 1))) (fun _=>some []))) (mIx (zaf 0) (fun _=>some (.int 1))))))))
noncomputable def zn8 (as : List D) : Option D:=zbk 2 b_49 as
noncomputable def b_6 : List Sl -> Option Fl :=
 (zai (za4 (mOr (mB (m2 dEq (mIx (zaf 0) (fun _=>some (.int 0))) (fun _=>some (.str "may")))) (zdj (mB (m2 dEq (mIx (zaf 0) (fun _=>some (.int 0))) (fun _=>some (.str "make")))) (mB (m2 zdq (mIx (zaf 1) (mIx (zaf 0) (fun _=>some (.int 1)))) (fun _=>some (.bl false)))))) (zav (fun _=>some (.bl false))) zbg)
  (zav (zap zfz (zab (zal (za6 1 [1] (zbl (mIx (zaf 0) (fun _=>some (.int 2)))) (zaq 0) (fun _=>some true) (zap zn8 (zab (zaa 0) (zab (zaa 1) (fun _=>some [])))))) (fun _=>some [])))))
noncomputable def m_6 (as : List D) : Option D:=zbk 2 b_6 as
noncomputable def b_35 : List Sl -> Option Fl :=
 (zav (zap zfz (zab (zal (za6 2 [0] (zbl (zaa 1)) (zb8 (za3 (zaq 0) (za3 (zaq 1) zcd))) (fun _=>some true) (m2 dEq (mIx (zaf 2) (zaa 0)) (zaa 1)))) (fun _=>some []))))
noncomputable def znd (as : List D) : Option D:=zbk 2 b_35 as
noncomputable def b_50 : List Sl -> Option Fl :=
 (zai (za4 (mB (m2 dEq (mIx (zaf 0) (fun _=>some (.int 0))) (fun _=>some (.str "in")))) (zav (vOr (m2 dIs (mIx (zaf 1) (mIx (zaf 0) (fun _=>some (.int 1)))) (fun _=>some (.bl false))) (mIx (zaf 2) (mIx (zaf 0) (fun _=>some (.int 1)))))) zbg)
  (zai (za4 (mB (m2 dEq (mIx (zaf 0) (fun _=>some (.int 0))) (fun _=>some (.str "out")))) (zav (m2 dIs (mIx (zaf 1) (mIx (zaf 0) (fun _=>some (.int 1)))) (fun _=>some (.bl true)))) zbg)
  (zai (za4 (mB (m2 dEq (mIx (zaf 0) (fun _=>some (.int 0))) (fun _=>some (.str "least")))) (zai (zbe 3 (zal (za6 2 [1,2] (zbl (mIx (zaf 0) (fun _=>some (.int 2)))) (zb8 (za3 (zaq 0) (za3 (zaq 1) zcd))) (zdj (mB (m2 zdq (mIx (zaf 2) (zaa 0)) (fun _=>some (.bl false)))) (zee (zcn (mIx (zaf 3) (zaa 0))))) (zaa 1))))
  (zav (m2 dLt (zap zd5 (zab (zaa 3) (fun _=>some []))) (mIx (zaf 0) (fun _=>some (.int 1)))))) zbg)
  (zav (m2 dGt (zap zd5 (zab (zal (za6 2 [1] (zbl (mIx (zaf 0) (fun _=>some (.int 2)))) (zb8 (za3 (zaq 0) (za3 (zaq 1) zcd))) (mB (m2 dIs (mIx (zaf 2) (zaa 0)) (fun _=>some (.bl true)))) (zaa 1))) (fun _=>some []))) (mIx (zaf 0) (fun _=>some (.int 1))))))))
noncomputable def zrb (as : List D) : Option D:=zbk 4 b_50 as
noncomputable def b_22 : List Sl -> Option Fl :=
 (zai (za4 (mOr (mB (m2 dEq (mIx (zaf 0) (fun _=>some (.int 0))) (fun _=>some (.str "never")))) (zee (zcn (mIx (zaf 2) (mIx (zaf 0) (fun _=>some (.int 1))))))) (zav (fun _=>some (.bl false))) zbg)
  (zav (zfb (zap zfd (zab (zal (za6 1 [1,2] (zbl (mIx (zaf 0) (fun _=>some (.int 2)))) (zaq 0) (fun _=>some true) (zap zrb (zab (zaa 0) (zab (zaa 1) (zab (zaa 2) (fun _=>some []))))))) (fun _=>some []))))))
noncomputable def zn5 (as : List D) : Option D:=zbk 3 b_22 as
noncomputable def b_3 : List Sl -> Option Fl :=
 (zai (zg2 (zb8 (za3 (zaq 5) (za3 (zaq 6) zcd))) (zaa 4))
  (zai (za4 (mB (m2 dEq (zaa 5) (fun _=>some (.str "rule")))) (zav (zd2 (m2 dLt (zaa 6) (zap zce (zab (zaa 0) (fun _=>some [])))) (zap m_6 (zab (mIx (zaf 0) (zaa 6)) (zab (zaa 3) (fun _=>some [])))))) zbg)
  (zai (za4 (mB (m2 dEq (zaa 5) (fun _=>some (.str "bar")))) (zav (zd2 (m2 dLt (zaa 6) (zap zce (zab (zaa 2) (fun _=>some [])))) (zap znd (zab (zaa 3) (zab (mIx (zaf 2) (zaa 6)) (fun _=>some [])))))) zbg)
  (zai (za4 (zdj (mB (m2 dEq (zaa 5) (fun _=>some (.str "world")))) (mB (m2 dLt (zaa 6) (zap zce (zab (zaa 1) (fun _=>some [])))))) (zav (m2 dEq (zaa 3) (zal (za6 1 [1,6] (zdn (zab (zap zce (zab (zaa 3) (fun _=>some []))) (fun _=>some []))) (zaq 0) (fun _=>some true) (m2 dIn (zaa 0) (mIx (zaf 1) (zaa 2))))))) zbg)
  (zai (za4 (mB (m2 dEq (zaa 5) (fun _=>some (.str "world")))) (zav (fun _=>some (.bl false))) zbg)
  (zai (za4 (zee (zcn (zap zfd (zab (zal (za6 1 [3] (zbl (zaa 6)) (zaq 0) (fun _=>some true) (m2 dIs (mIx (zaf 1) (zaa 0)) (fun _=>some (.bl true))))) (fun _=>some []))))) (zav (fun _=>some (.bl false))) zbg)
  (zai (zbe 7 (zal (za6 1 [6] (zdn (zab (zap zce (zab (zaa 3) (fun _=>some []))) (fun _=>some []))) (zaq 0) (fun _=>some true) (m2 dIn (zaa 0) (zaa 1)))))
  (zav (zfb (zap zfd (zab (zal (za6 1 [3,7] (zbl (zaa 0)) (zaq 0) (fun _=>some true) (zap zn5 (zab (zaa 0) (zab (zaa 1) (zab (zaa 2) (fun _=>some []))))))) (fun _=>some []))))))))))))
noncomputable def m_3 (as : List D) : Option D:=zbk 8 b_3 as
noncomputable def b_7 : List Sl -> Option Fl :=
 (zgv (zcx (zal (zcx (zal (mSl (zaa 0) (fun _=>some none) (mPt (zaa 1)))) (zal (zab (zaa 2) (fun _=>some []))))) (zal (mSl (zaa 0) (mPt (m2 zci (zaa 1) (fun _=>some (.int 1)))) (fun _=>some none)))))
noncomputable def m_7 (as : List D) : Option D:=zbk 3 b_7 as
noncomputable def b_25 : List Sl -> Option Fl :=
 (zai (zg2 (zb8 (za3 (zaq 5) (za3 (zaq 6) zcd))) (zaa 4))
  (zai (za4 (mOr (mB (m2 dEq (zaa 6) (zal (fun _=>some [])))) (mB (m2 zdq (mIx (zbl (mIx (zaf 6) (m1 zfh (fun _=>some (.int 1))))) (fun _=>some (.int 0))) (fun _=>some .non)))) (zav (fun _=>some (.bl false))) zbg)
  (zai (zde 7 (zjq znj (zab (zaa 0) (zab (zaa 5) (fun _=>some [])))))
  (zai (zc9 (zbl (zal (mSl (zaa 6) (fun _=>some none) (mPt (m1 zfh (fun _=>some (.int 1))))))) (zb8 (za3 (zaq 8) (za3 (zaq 9) zcd))) (zai (za4 (mOr (mB (m2 dIs (zaa 8) (fun _=>some .non))) (mB (m2 zdq (mIx (zaf 7) (mIx (zaf 8) (fun _=>some (.int 0)))) (fun _=>some .non)))) (zav (fun _=>some (.bl false))) zbg)
  (zai (za4 (zee (zcn (zhh m_3 (zab (zaa 1) (zab (zaa 2) (zab (zaa 3) (zab (zap m_7 (zab (zg3 7) (zab (mIx (zaf 8) (fun _=>some (.int 0))) (zab (zfb (mIx (zaf 8) (fun _=>some (.int 1)))) (fun _=>some []))))) (zab (zaa 9) (fun _=>some []))))))))) (zav (fun _=>some (.bl false))) zbg)
  (zfc 7 (mIx (zaf 8) (fun _=>some (.int 0))) (mIx (zaf 8) (fun _=>some (.int 1)))))))
  (ze9 7 (zav (zap m_3 (zab (zaa 1) (zab (zaa 2) (zab (zaa 3) (zab (zaa 7) (zab (mIx (zbl (mIx (zaf 6) (m1 zfh (fun _=>some (.int 1))))) (fun _=>some (.int 1))) (fun _=>some [])))))))))))))
noncomputable def zo6 (as : List D) : Option D:=zbk 10 b_25 as
noncomputable def b_38 : List Sl -> Option Fl :=
 (zai (zbe 4 (zal (za6 2 [] (zbl (zaa 3)) (zb8 (za3 (zaq 0) (za3 (zaq 1) zcd))) (fun _=>some true) (zaa 0))))
  (zai (zc9 (zfi (zab (zaa 3) (fun _=>some []))) (zb8 (za3 (zaq 5) (za3 (zaq 6) zcd))) (za4 (zee (zcn (zap zo6 (zab (zaa 0) (zab (zaa 1) (zab (zaa 2) (zab (zal (mSl (zaa 4) (fun _=>some none) (mPt (zaa 5)))) (zab (zaa 6) (fun _=>some []))))))))) (zav (fun _=>some (.bl false))) zbg))
  (zav (zd2 (m2 dNe (zaa 3) (zal (fun _=>some []))) (m2 dEq (mIx (zaf 4) (m1 zfh (fun _=>some (.int 1)))) (zal (fun _=>some [])))))))
noncomputable def zoy (as : List D) : Option D:=zbk 7 b_38 as
noncomputable def b_32 : List Sl -> Option Fl :=
 (zai (zde 3 (za6 1 [] (zdn (zab (zaa 0) (fun _=>some []))) (zaq 0) (fun _=>some true) (fun _=>some .non)))
  (zai (zc9 (zbl (zaa 1)) (zb8 (za3 (zaq 2) (za3 (zaq 4) zcd))) (zfc 3 (zaa 2) (zaa 4)))
  (ze1 3)))
noncomputable def znz (as : List D) : Option D:=zbk 5 b_32 as
noncomputable def b_44 : List Sl -> Option Fl :=
 (zai (zde 3 (zaf 0))
  (zai (zfc 3 (zaa 1) (zaa 2))
  (ze1 3)))
noncomputable def zp8 (as : List D) : Option D:=zbk 4 b_44 as
noncomputable def b_55 : List Sl -> Option Fl :=
 (zav (zap zfz (zab (zal (za6 2 [0] (zbl (zaa 1)) (zb8 (za3 (zaq 0) (za3 (zaq 1) zcd))) (fun _=>some true) (m2 dEq (mIx (zaf 2) (zaa 0)) (zaa 1)))) (fun _=>some []))))
noncomputable def zpn (as : List D) : Option D:=zbk 2 b_55 as
noncomputable def b_4 : List Sl -> Option Fl :=
 (zav (zim dLe dLt (fun _=>some (.int 0)) (zaa 1) (zap zce (zab (zaa 0) (fun _=>some [])))))
noncomputable def m_4 (as : List D) : Option D:=zbk 2 b_4 as
noncomputable def b_8 : List Sl -> Option Fl :=
 (zai (zpj 2)
  (zai (zc9 (zbl (zaa 1)) (zaq 3) (zix 2 (zaa 3) (fun _=>some (.bl true))))
  (ze9 2 (zgv (za6 1 [2] (zdn (zab (zaa 0) (fun _=>some []))) (zaq 0) (fun _=>some true) (m2 zpu (zaa 0) (zaa 1)))))))
noncomputable def m_8 (as : List D) : Option D:=zbk 4 b_8 as
noncomputable def b_56 : List Sl -> Option Fl :=
 (zav (zap zfd (zab (zal (za6 1 [0] (zbl (zaa 1)) (zaq 0) (fun _=>some true) (m2 dIs (mIx (zaf 1) (zaa 0)) (fun _=>some (.bl true))))) (fun _=>some []))))
noncomputable def zpz (as : List D) : Option D:=zbk 2 b_56 as
noncomputable def b_16 : List Sl -> Option Fl :=
 (zav (vOr (m2 dIs (mIx (zaf 1) (zep "In" "thing" (zaa 0))) (fun _=>some (.bl false))) (mIx (zaf 2) (zep "In" "thing" (zaa 0)))))
noncomputable def m_16 (as : List D) : Option D:=zbk 3 b_16 as
noncomputable def b_51 : List Sl -> Option Fl :=
 (zgv (za6 1 [1] (zbl (zaa 0)) (zaq 0) (zee (zcn (mIx (zaf 1) (mIx (zaf 0) (fun _=>some (.int 0)))))) (zaa 0)))
noncomputable def zrm (as : List D) : Option D:=zbk 2 b_51 as
noncomputable def b_20 : List Sl -> Option Fl :=
 (zav (zap zd5 (zab (zal (za6 2 [1] (zbl (zaa 0)) (zb8 (za3 (zaq 0) (za3 (zaq 1) zcd))) (mB (m2 zdq (mIx (zaf 2) (zaa 0)) (fun _=>some (.bl false)))) (zaa 1))) (fun _=>some []))))
noncomputable def zld (as : List D) : Option D:=zbk 2 b_20 as
noncomputable def b_18 : List Sl -> Option Fl :=
 (zav (m2 dLt (zap zld (zab (zap zrm (zab (zep "Least" "pieces" (zaa 0)) (zab (zaa 2) (fun _=>some [])))) (zab (zaa 1) (fun _=>some [])))) (zep "Least" "bound" (zaa 0))))
noncomputable def m_18 (as : List D) : Option D:=zbk 3 b_18 as
noncomputable def b_30 : List Sl -> Option Fl :=
 (zav (zap zd5 (zab (zal (za6 2 [1] (zbl (zaa 0)) (zb8 (za3 (zaq 0) (za3 (zaq 1) zcd))) (mB (m2 dIs (mIx (zaf 2) (zaa 0)) (fun _=>some (.bl true)))) (zaa 1))) (fun _=>some []))))
noncomputable def zno (as : List D) : Option D:=zbk 2 b_30 as
noncomputable def b_19 : List Sl -> Option Fl :=
 (zav (m2 dGt (zap zno (zab (zep "Most" "pieces" (zaa 0)) (zab (zaa 1) (fun _=>some [])))) (zep "Most" "bound" (zaa 0))))
noncomputable def m_19 (as : List D) : Option D:=zbk 3 b_19 as
noncomputable def b_17 : List Sl -> Option Fl :=
 (zav (m2 dIs (mIx (zaf 1) (zep "Out" "thing" (zaa 0))) (fun _=>some (.bl true))))
noncomputable def m_17 (as : List D) : Option D:=zbk 3 b_17 as
noncomputable def zs6 (as : List D) : Option (List Str × List D):=zlw 2 [("thing",(zaa 1))] as
noncomputable def zvl (as : List D) : Option (List Str × List D):=zlw 3 [("bound",(zaa 1)),("pieces",(zal (zaf 2)))] as
noncomputable def zvg (as : List D) : Option (List Str × List D):=zlw 3 [("bound",(zaa 1)),("pieces",(zal (zaf 2)))] as
noncomputable def zsk (as : List D) : Option (List Str × List D):=zlw 2 [("thing",(zaa 1))] as
noncomputable def b_48 : List Sl -> Option Fl :=
 (zai (zbe 1 (mIx (zaf 0) (fun _=>some (.int 0))))
  (zai (za4 (mB (m2 dEq (zaa 1) (fun _=>some (.str "in")))) (zav (zkm "In" zs6 (zab (mIx (zaf 0) (fun _=>some (.int 1))) (fun _=>some [])))) zbg)
  (zai (za4 (mB (m2 dEq (zaa 1) (fun _=>some (.str "out")))) (zav (zkm "Out" zsk (zab (mIx (zaf 0) (fun _=>some (.int 1))) (fun _=>some [])))) zbg)
  (zai (za4 (mB (m2 dEq (zaa 1) (fun _=>some (.str "least")))) (zav (zkm "Least" zvl (zab (mIx (zaf 0) (fun _=>some (.int 1))) (zab (mIx (zaf 0) (fun _=>some (.int 2))) (fun _=>some []))))) zbg)
  (zav (zkm "Most" zvg (zab (mIx (zaf 0) (fun _=>some (.int 1))) (zab (mIx (zaf 0) (fun _=>some (.int 2))) (fun _=>some [])))))))))
noncomputable def zo1 (as : List D) : Option D:=zbk 2 b_48 as
noncomputable def b_31 : List Sl -> Option Fl :=
 (zgv (za6 1 [] (zbl (mIx (zaf 0) (fun _=>some (.int 2)))) (zaq 0) (fun _=>some true) (zap zo1 (zab (zaa 0) (fun _=>some [])))))
noncomputable def zmq (as : List D) : Option D:=zbk 1 b_31 as
noncomputable def b_53 : List Sl -> Option Fl :=
 (zav (zap zfd (zab (zal (za6 1 [1,2] (zbl (zap zmq (zab (zaa 0) (fun _=>some [])))) (zaq 0) (fun _=>some true) (zd6 (zdf "In" "lost" m_16 (zaa 0) (zab (zaa 1) (zab (zaa 2) (fun _=>some [])))) (zd6 (zdf "Out" "lost" m_17 (zaa 0) (zab (zaa 1) (zab (zaa 2) (fun _=>some [])))) (zd6 (zdf "Least" "lost" m_18 (zaa 0) (zab (zaa 1) (zab (zaa 2) (fun _=>some [])))) (zdf "Most" "lost" m_19 (zaa 0) (zab (zaa 1) (zab (zaa 2) (fun _=>some []))))))))) (fun _=>some []))))
noncomputable def zqx (as : List D) : Option D:=zbk 3 b_53 as
noncomputable def b_45 : List Sl -> Option Fl :=
 (zai (zbe 3 (mIx (zaf 0) (fun _=>some (.int 1))))
  (zav (zd2 (m2 zdq (zaa 3) (fun _=>some .non)) (zd2 (mIx (zaf 2) (zaa 3)) (zfb (zap zqx (zab (zaa 0) (zab (zaa 1) (zab (zaa 2) (fun _=>some []))))))))))
noncomputable def zrd (as : List D) : Option D:=zbk 4 b_45 as
noncomputable def b_46 : List Sl -> Option Fl :=
 (zai (zbe 3 (zap m_8 (zab (mIx (zaf 0) (fun _=>some (.int 0))) (zab (zaa 2) (fun _=>some [])))))
  (zai (za4 (zcn (zap zfd (zab (zal (za6 1 [1,3] (zbl (mIx (zaf 0) (fun _=>some (.int 1)))) (zaq 0) (fun _=>some true) (zap zrd (zab (zaa 0) (zab (zaa 1) (zab (zaa 2) (fun _=>some []))))))) (fun _=>some [])))) (zav (fun _=>some (.bl false))) zbg)
  (zav (zap zpz (zab (zaa 1) (zab (zaa 2) (fun _=>some [])))))))
noncomputable def zqw (as : List D) : Option D:=zbk 4 b_46 as
noncomputable def b_26 : List Sl -> Option Fl :=
 (zav (m2 dIs (mIx (zaf 1) (zep "In" "thing" (zaa 0))) (fun _=>some (.bl true))))
noncomputable def m_26 (as : List D) : Option D:=zbk 2 b_26 as
noncomputable def b_28 : List Sl -> Option Fl :=
 (zav (m2 dGe (zap zno (zab (zep "Least" "pieces" (zaa 0)) (zab (zaa 1) (fun _=>some [])))) (zep "Least" "bound" (zaa 0))))
noncomputable def m_28 (as : List D) : Option D:=zbk 2 b_28 as
noncomputable def b_29 : List Sl -> Option Fl :=
 (zav (m2 dLe (zap zld (zab (zep "Most" "pieces" (zaa 0)) (zab (zaa 1) (fun _=>some [])))) (zep "Most" "bound" (zaa 0))))
noncomputable def m_29 (as : List D) : Option D:=zbk 2 b_29 as
noncomputable def b_27 : List Sl -> Option Fl :=
 (zav (m2 dIs (mIx (zaf 1) (zep "Out" "thing" (zaa 0))) (fun _=>some (.bl false))))
noncomputable def m_27 (as : List D) : Option D:=zbk 2 b_27 as
noncomputable def b_52 : List Sl -> Option Fl :=
 (zav (zap zfz (zab (zal (za6 1 [1] (zbl (zap zmq (zab (zaa 0) (fun _=>some [])))) (zaq 0) (fun _=>some true) (zd6 (zdf "In" "sure" m_26 (zaa 0) (zab (zaa 1) (fun _=>some []))) (zd6 (zdf "Out" "sure" m_27 (zaa 0) (zab (zaa 1) (fun _=>some []))) (zd6 (zdf "Least" "sure" m_28 (zaa 0) (zab (zaa 1) (fun _=>some []))) (zdf "Most" "sure" m_29 (zaa 0) (zab (zaa 1) (fun _=>some [])))))))) (fun _=>some []))))
noncomputable def zrr (as : List D) : Option D:=zbk 2 b_52 as
noncomputable def b_54 : List Sl -> Option Fl :=
 (zai (za4 (mB (m2 dEq (mIx (zaf 0) (fun _=>some (.int 0))) (fun _=>some (.str "may")))) (zav (fun _=>some (.bl false))) zbg)
  (zai (za4 (zdj (mB (m2 dEq (mIx (zaf 0) (fun _=>some (.int 0))) (fun _=>some (.str "make")))) (mB (m2 zdq (mIx (zaf 1) (mIx (zaf 0) (fun _=>some (.int 1)))) (fun _=>some (.bl false))))) (zav (fun _=>some (.bl false))) zbg)
  (zav (zap zrr (zab (zaa 0) (zab (zaa 1) (fun _=>some [])))))))
noncomputable def zrf (as : List D) : Option D:=zbk 2 b_54 as
noncomputable def b_13 : List Sl -> Option Fl :=
 (zai (za4 (mB (m2 dEq (mIx (zaf 4) (fun _=>some (.int 0))) (fun _=>some (.str "group")))) (zav (zap zqw (zab (zaa 0) (zab (zaa 3) (zab (mIx (zaf 4) (fun _=>some (.int 1))) (fun _=>some [])))))) zbg)
  (zai (zbe 5 (mIx (zaf 4) (fun _=>some (.int 1))))
  (zai (za4 (mB (m2 dEq (mIx (zaf 4) (fun _=>some (.int 0))) (fun _=>some (.str "rule")))) (zav (zd2 (zap m_4 (zab (mIx (zaf 0) (fun _=>some (.int 1))) (zab (zaa 5) (fun _=>some [])))) (zap zrf (zab (mIx (zbl (mIx (zaf 0) (fun _=>some (.int 1)))) (zaa 5)) (zab (zaa 3) (fun _=>some [])))))) zbg)
  (zai (za4 (mB (m2 dEq (mIx (zaf 4) (fun _=>some (.int 0))) (fun _=>some (.str "bar")))) (zav (zd2 (zap m_4 (zab (zaa 2) (zab (zaa 5) (fun _=>some [])))) (zap zpn (zab (zaa 3) (zab (mIx (zaf 2) (zaa 5)) (fun _=>some [])))))) zbg)
  (zav (zd2 (m2 dEq (mIx (zaf 4) (fun _=>some (.int 0))) (fun _=>some (.str "world"))) (zd2 (zap m_4 (zab (zaa 1) (zab (zaa 5) (fun _=>some [])))) (m2 dEq (zaa 3) (zap m_8 (zab (mIx (zaf 0) (fun _=>some (.int 0))) (zab (mIx (zaf 1) (zaa 5)) (fun _=>some []))))))))))))
noncomputable def zm6 (as : List D) : Option D:=zbk 6 b_13 as
noncomputable def b_47 : List Sl -> Option Fl :=
 (zai (zbe 5 (mIx (zaf 4) (fun _=>some (.int 0))))
  (zai (za4 (mB (m2 dIs (zaa 5) (fun _=>some .non))) (zav (zap zm6 (zab (zaa 0) (zab (zaa 1) (zab (zaa 2) (zab (zaa 3) (zab (mIx (zaf 4) (fun _=>some (.int 1))) (fun _=>some [])))))))) zbg)
  (zai (za4 (mB (m2 zdq (mIx (zaf 3) (mIx (zaf 5) (fun _=>some (.int 0)))) (fun _=>some .non))) (zav (fun _=>some (.bl false))) zbg)
  (zav (zap zm6 (zab (zaa 0) (zab (zaa 1) (zab (zaa 2) (zab (zap zp8 (zab (zaa 3) (zab (mIx (zaf 5) (fun _=>some (.int 0))) (zab (zfb (mIx (zaf 5) (fun _=>some (.int 1)))) (fun _=>some []))))) (zab (mIx (zaf 4) (fun _=>some (.int 1))) (fun _=>some [])))))))))))
noncomputable def zrx (as : List D) : Option D:=zbk 6 b_47 as
noncomputable def b_33 : List Sl -> Option Fl :=
 (zai (zde 5 (zaf 3))
  (zai (zc9 (zl5 (zaa 4)) (zb8 (za3 (zaq 6) (za3 (zaq 7) zcd))) (zai (zbe 8 (m2 dIs (mIx (zaf 7) (fun _=>some (.int 0))) (fun _=>some .non)))
  (zai (za4 (mB (m2 dNe (zaa 8) (m2 dEq (zaa 6) (zap zce (zab (zaa 4) (fun _=>some [])))))) (zav (fun _=>some (.bl false))) zbg)
  (zai (za4 (zee (zcn (zhh zrx (zab (zaa 0) (zab (zaa 1) (zab (zaa 2) (zab (zg3 5) (zab (zaa 7) (fun _=>some []))))))))) (zav (fun _=>some (.bl false))) zbg)
  (za4 (zee (zcn (zaa 8))) (zfc 5 (mIx (zbl (mIx (zaf 7) (fun _=>some (.int 0)))) (fun _=>some (.int 0))) (mIx (zbl (mIx (zaf 7) (fun _=>some (.int 0)))) (fun _=>some (.int 1)))) zbg)))))
  (zav (m2 dGt (zap zce (zab (zaa 4) (fun _=>some []))) (fun _=>some (.int 0))))))
noncomputable def zqj (as : List D) : Option D:=zbk 9 b_33 as
noncomputable def b_40 : List Sl -> Option Fl :=
 (zai (zbe 4 (mIx (zaf 3) (fun _=>some (.int 0))))
  (zai (zbe 5 (zal (za6 2 [] (zbl (zaa 4)) (zb8 (za3 (zaq 0) (za3 (zaq 1) zcd))) (fun _=>some true) (zaa 0))))
  (zai (za4 (mB (m2 dLt (zlh (zaa 5)) (zap zce (zab (zaa 5) (fun _=>some []))))) (zav (fun _=>some (.bl false))) zbg)
  (zav (zap zqj (zab (zaa 0) (zab (zaa 1) (zab (zaa 2) (zab (zap znz (zab (mIx (zaf 0) (fun _=>some (.int 0))) (zab (zaa 4) (fun _=>some [])))) (zab (mIx (zaf 3) (fun _=>some (.int 1))) (fun _=>some [])))))))))))
noncomputable def zqf (as : List D) : Option D:=zbk 6 b_40 as
noncomputable def b_41 : List Sl -> Option Fl :=
 (zai (zde 3 (fun _=>some []))
  (zai (zc9 (zbl (zaa 2)) (zaq 4) (zai (za4 (zee (zcn (zhh zqf (zab (zaa 0) (zab (zaa 1) (zab (zg3 3) (zab (zaa 4) (fun _=>some [])))))))) (zav (fun _=>some (.bl false))) zbg)
  (ze8 3 (mIx (zaf 4) (fun _=>some (.int 0))))))
  (ze9 3 (zav (zd2 (m2 dGt (zap zce (zab (zaa 3) (fun _=>some []))) (fun _=>some (.int 0))) (m2 dEq (zap zce (zab (mIx (zaf 3) (m1 zfh (fun _=>some (.int 1)))) (fun _=>some []))) (fun _=>some (.int 0))))))))
noncomputable def zp2 (as : List D) : Option D:=zbk 5 b_41 as
noncomputable def b_39 : List Sl -> Option Fl :=
 (zai (zbe 4 (zal (zab (zbn (zab (zaa 0) (zab (zap m_9 (zab (zaa 1) (fun _=>some []))) (fun _=>some [])))) (zab (zal (za6 1 [] (zbl (zaa 2)) (zaq 0) (fun _=>some true) (zal (zaf 0)))) (fun _=>some [])))))
  (zai (zbe 5 (zal (za6 2 [] (zbl (zaa 3)) (zb8 (za3 (zaq 0) (za3 (zaq 1) zcd))) (fun _=>some true) (zbn (zab (zal (zaf 0)) (zab (zap zpg (zab (zaa 1) (fun _=>some []))) (fun _=>some [])))))))
  (zai (zbe 6 (zap zp2 (zab (mIx (zaf 4) (fun _=>some (.int 0))) (zab (mIx (zaf 4) (fun _=>some (.int 1))) (zab (zaa 5) (fun _=>some []))))))
  (zai (za4 (mOr (zee (zcn (zq9 "bool" (zaa 6)))) (mB (m2 dNe (zaa 6) (zap zoy (zab (zaa 0) (zab (zaa 1) (zab (zaa 2) (zab (zaa 3) (fun _=>some []))))))))) (zav (fun _=>some (.bl false))) zbg)
  (zav (zd2 (m2 dEq (zaa 4) (zal (zab (zbn (zab (zaa 0) (zab (zaa 1) (fun _=>some [])))) (zab (zaa 2) (fun _=>some []))))) (m2 dEq (zaa 5) (zaa 3))))))))
noncomputable def zpm (as : List D) : Option D:=zbk 7 b_39 as
noncomputable def b_0 : List Sl -> Option Fl :=
 (zai (zde 2 (fun _=>some []))
  (zai (zbe 3 (m2 zci (m2 zdd (m2 zbv (zaa 0) (fun _=>some (.int 2305843009213693951))) (fun _=>some (.int 1315423911))) (fun _=>some (.int 48271))))
  (zai (zc9 (zdn (zab (zaa 1) (fun _=>some []))) (zaq 4) (zai (zbe 3 (m2 zbv (m2 zci (m2 zci (m2 zdd (zaa 3) (m2 zci (zaa 3) (fun _=>some (.int 69621)))) (m2 zdd (fun _=>some (.int 7)) (zaa 4))) (fun _=>some (.int 1))) (fun _=>some (.int 2305843009213693951))))
  (ze8 2 (zaa 3))))
  (ze1 2))))
noncomputable def m_0 (as : List D) : Option D:=zbk 5 b_0 as
noncomputable def b_10 : List Sl -> Option Fl :=
 (zai (zbe 5 (zap m_0 (zab (zaa 0) (zab (fun _=>some (.int 3)) (fun _=>some [])))))
  (zai (zbe 6 (mIx (zab (fun _=>some (.str "rule")) (zab (fun _=>some (.str "group")) (zab (fun _=>some (.str "bar")) (zab (fun _=>some (.str "world")) (fun _=>some []))))) (m2 zbv (mIx (zaf 5) (fun _=>some (.int 0))) (fun _=>some (.int 4)))))
  (zai (za4 (mB (m2 dEq (zaa 6) (fun _=>some (.str "group")))) (zk7 (zbn (zab (zaa 6) (zab (zal (za6 2 [5] (zfi (zab (zaa 4) (fun _=>some []))) (zb8 (za3 (zaq 0) (za3 (zaq 1) zcd))) (mOr (mB (m2 dIs (zaa 1) (fun _=>some (.bl true)))) (mB (m2 dEq (m2 zbv (m2 zgm (mIx (zaf 2) (fun _=>some (.int 1))) (m2 zci (zaa 0) (fun _=>some (.int 1)))) (fun _=>some (.int 2))) (fun _=>some (.int 0))))) (zaa 0))) (fun _=>some []))))) zbg)
  (zk7 (zbn (zab (zaa 6) (zab (m2 zbv (mIx (zaf 5) (fun _=>some (.int 2))) (m2 zci (fun _=>some (.int 1)) (zis "rule" "bar" "world" (zap zce (zab (zaa 1) (fun _=>some []))) (zap zce (zab (zg6 3) (fun _=>some []))) (zap zce (zab (zaa 2) (fun _=>some []))) (zaa 6)))) (fun _=>some []))))))))
noncomputable def znt : Addr -> List D -> List D -> List D -> Option (List D × D):=zhb 7 b_10
noncomputable def b_14 : List Sl -> Option Fl :=
 (zai (zde 2 (za6 1 [] (zbl (zaa 1)) (zaq 0) (fun _=>some true) (m2 zdq (zaa 0) (fun _=>some (.bl false)))))
  (zai (zbe 3 (fun _=>some (.bl true)))
  (zai (zgh (zcn (zaa 3)) (zai (zbe 3 (fun _=>some (.bl false)))
  (zc9 (zbl (zaa 0)) (zaq 4) (za4 (zcn (zhh zn5 (zab (zaa 4) (zab (zaa 1) (zab (zg3 2) (fun _=>some [])))))) (zai (zfc 2 (mIx (zaf 4) (fun _=>some (.int 1))) (fun _=>some (.bl false)))
  (zbe 3 (fun _=>some (.bl true)))) zbg))) 1000000000)
  (ze1 2))))
noncomputable def zrw (as : List D) : Option D:=zbk 5 b_14 as
noncomputable def b_23 : List Sl -> Option Fl :=
 (zai (zde 4 (za6 2 [3] (zfi (zab (zaa 0) (fun _=>some []))) (zb8 (za3 (zaq 0) (za3 (zaq 1) zcd))) (zcn (zap m_6 (zab (zaa 1) (zab (zaa 2) (fun _=>some []))))) (zbn (zab (fun _=>some (.str "rule")) (zab (zaa 0) (fun _=>some []))))))
  (zai (zh1 4 (zin (zal (za6 2 [3] (zfi (zab (zaa 2) (fun _=>some []))) (zb8 (za3 (zaq 0) (za3 (zaq 1) zcd))) (zcn (zap znd (zab (zaa 2) (zab (zaa 1) (fun _=>some []))))) (zbn (zab (fun _=>some (.str "bar")) (zab (zaa 0) (fun _=>some []))))))))
  (zai (zh1 4 (zin (zal (za6 1 [0,1,2,3] (zdn (zab (zap zce (zab (zaa 1) (fun _=>some []))) (fun _=>some []))) (zaq 0) (zcn (zap m_3 (zab (zaa 1) (zab (zaa 2) (zab (zaa 3) (zab (zaa 4) (zab (zbn (zab (fun _=>some (.str "world")) (zab (zaa 0) (fun _=>some [])))) (fun _=>some [])))))))) (zbn (zab (fun _=>some (.str "world")) (zab (zaa 0) (fun _=>some []))))))))
  (zai (zbe 5 (zap zrw (zab (zaa 0) (zab (zaa 3) (fun _=>some [])))))
  (zai (zbe 6 (zal (za6 2 [] (zfi (zab (zaa 5) (fun _=>some []))) (zb8 (za3 (zaq 0) (za3 (zaq 1) zcd))) (zcn (zaa 1)) (zaa 0))))
  (zai (za4 (zcn (zap zfd (zab (zal (za6 1 [3] (zbl (zaa 6)) (zaq 0) (fun _=>some true) (m2 dIs (mIx (zaf 1) (zaa 0)) (fun _=>some (.bl true))))) (fun _=>some [])))) (ze8 4 (zbn (zab (fun _=>some (.str "group")) (zab (zaa 6) (fun _=>some []))))) zbg)
  (ze1 4)))))))
noncomputable def zos (as : List D) : Option D:=zbk 7 b_23 as
noncomputable def b_1 (rc : Addr -> List D -> List D -> List D -> Option (List D × D)) : List Sl -> Option Fl :=
 (zai (zbe 6 (zap m_0 (zab (zaa 5) (zab (fun _=>some (.int 4)) (fun _=>some [])))))
  (zai (zbe 8 (zal (za6 2 [] (zfi (zab (zaa 2) (fun _=>some []))) (zb8 (za3 (zaq 0) (za3 (zaq 1) zcd))) (mB (m2 dIs (zaa 1) (fun _=>some .non))) (zaa 0))))
  (zai (zbe 9 (zap zos (zab (zaa 0) (zab (zaa 1) (zab (zal (za6 1 [] (zn6 4) (zaq 0) (fun _=>some true) (mIx (zaf 0) (fun _=>some (.int 0))))) (zab (zaa 2) (fun _=>some [])))))))
  (za4 (mOr (mB (m2 dEq (zaa 8) (zal (fun _=>some [])))) (zdj (mB (m2 dNe (zaa 9) (zal (fun _=>some [])))) (mB (m2 dGt (m2 zbv (mIx (zaf 6) (fun _=>some (.int 0))) (fun _=>some (.int 4))) (fun _=>some (.int 0)))))) (zai (za4 (mB (m2 dEq (zaa 9) (zal (fun _=>some [])))) (zlp 9 (zh7 4 znt (zdr (mIx (zaf 6) (fun _=>some (.int 1))) (zdr (zaa 0) (zdr (zaa 1) (zgc (zab (zaa 2) (fun _=>some [])))))))) zbg)
  (zja 4 (zbn (zab (zaa 3) (zab (zal (zab (zbn (zab (fun _=>some .non) (zab (mIx (zaf 9) (m2 zbv (mIx (zaf 6) (fun _=>some (.int 2))) (zap zce (zab (zaa 9) (fun _=>some []))))) (fun _=>some [])))) (fun _=>some []))) (fun _=>some [])))))) (zai (zbe 7 (mIx (zaf 8) (m2 zbv (mIx (zaf 6) (fun _=>some (.int 2))) (zap zce (zab (zaa 8) (fun _=>some []))))))
  (zai (zbe 10 (m2 dEq (m2 zbv (mIx (zaf 6) (fun _=>some (.int 3))) (fun _=>some (.int 2))) (fun _=>some (.int 0))))
  (zai (zir (zh7 4 rc (zdr (zaa 0) (zdr (zaa 1) (zdr (zap m_7 (zab (zaa 2) (zab (zaa 7) (zab (zaa 10) (fun _=>some []))))) (zdr (zal (zcx (zaa 3) (zal (zab (zbn (zab (zaa 7) (zab (zaa 10) (fun _=>some [])))) (fun _=>some []))))) (zgc (zab (mIx (zaf 6) (fun _=>some (.int 0))) (fun _=>some [])))))))))
  (zai (zbe 11 (m2 zh6 (zap zce (zab (zg6 4) (fun _=>some []))) (fun _=>some (.int 1))))
  (zai (zir (zh7 4 rc (zdr (zaa 0) (zdr (zaa 1) (zdr (zap m_7 (zab (zaa 2) (zab (zaa 7) (zab (zfb (zaa 10)) (fun _=>some []))))) (zdr (zal (zcx (zaa 3) (zal (zab (zbn (zab (zaa 7) (zab (zfb (zaa 10)) (fun _=>some [])))) (fun _=>some []))))) (zgc (zab (mIx (zaf 6) (fun _=>some (.int 1))) (fun _=>some [])))))))))
  (zja 4 (zbn (zab (zaa 3) (zab (zal (zab (zbn (zab (zbn (zab (zaa 7) (zab (zfb (zaa 10)) (fun _=>some [])))) (zab (zbn (zab (fun _=>some (.str "bar")) (zab (zaa 11) (fun _=>some [])))) (fun _=>some [])))) (zab (zbn (zab (fun _=>some .non) (zab (zbn (zab (fun _=>some (.str "bar")) (zab (m2 zh6 (zap zce (zab (zg6 4) (fun _=>some []))) (fun _=>some (.int 1))) (fun _=>some [])))) (fun _=>some [])))) (fun _=>some [])))) (fun _=>some []))))))))))))))
noncomputable def m_1 : Nat -> Addr -> List D -> List D -> List D -> Option (List D × D)
 | 0=>fun _ _ _ _=>none
 | j + 1=>zhb 12 (b_1 (m_1 j))
noncomputable def b_5 : List Sl -> Option Fl :=
 (zai (za4 (mB (m2 dLt (zaa 1) (zap zce (zab (zaa 0) (fun _=>some []))))) (zav (mIx (zaf 0) (zaa 1))) zbg)
  (zav (fun _=>some (.int 0))))
noncomputable def m_5 (as : List D) : Option D:=zbk 2 b_5 as
noncomputable def b_21 : List Sl -> Option Fl :=
 (zai (zde 2 (fun _=>some []))
  (zai (zc9 (zdn (zab (zaa 1) (fun _=>some []))) (zaq 3) (zai (zbe 4 (m2 zbv (m2 zci (zaa 3) (fun _=>some (.int 1))) (zaa 1)))
  (zai (zbe 5 (mIx (zab (fun _=>some .non) (zab (zbn (zab (fun _=>some (.str "in")) (zab (zaa 3) (fun _=>some [])))) (zab (zbn (zab (fun _=>some (.str "out")) (zab (zaa 3) (fun _=>some [])))) (zab (zbn (zab (fun _=>some (.str "least")) (zab (fun _=>some (.int 2)) (zab (zal (zab (zbn (zab (zaa 3) (zab (fun _=>some (.int 2)) (fun _=>some [])))) (zab (zbn (zab (zaa 4) (zab (fun _=>some (.int 1)) (fun _=>some [])))) (fun _=>some [])))) (fun _=>some []))))) (zab (zbn (zab (fun _=>some (.str "most")) (zab (fun _=>some (.int 0)) (zab (zal (zab (zbn (zab (zaa 3) (zab (fun _=>some (.int 1)) (fun _=>some [])))) (fun _=>some []))) (fun _=>some []))))) (fun _=>some [])))))) (zaa 0)))
  (za4 (mB (m2 zdq (zaa 5) (fun _=>some .non))) (ze8 2 (zbn (zab (mIx (zab (fun _=>some (.str "make")) (zab (fun _=>some (.str "may")) (fun _=>some []))) (m2 zgm (m2 zbv (m2 zdd (zaa 3) (zaa 0)) (fun _=>some (.int 5))) (fun _=>some (.int 4)))) (zab (zaa 4) (zab (zal (zab (zaa 5) (fun _=>some []))) (fun _=>some [])))))) zbg))))
  (ze1 2)))
noncomputable def zoj (as : List D) : Option (List D):=zjr 6 b_21 as
noncomputable def b_42 : List Sl -> Option Fl :=
 (zai (za4 (mB (m2 dEq (m2 zbv (zaa 0) (fun _=>some (.int 8))) (fun _=>some (.int 5)))) (zav (m2 zbv (m2 zdd (m2 zdd (m2 zdd (zaa 0) (zaa 0)) (zaa 0)) (zaa 0)) (m2 zpy (fun _=>some (.int 10)) (fun _=>some (.int 60))))) zbg)
  (zav (mIx (zab (fun _=>some (.int 1)) (zab (fun _=>some (.int 1)) (zab (fun _=>some (.int 2)) (zab (fun _=>some (.int 0)) (zab (fun _=>some (.int 3)) (zab (fun _=>some (.int 1)) (zab (fun _=>some (.int 1)) (zab (fun _=>some (.int 2)) (fun _=>some []))))))))) (m2 zbv (m2 zgm (zaa 0) (fun _=>some (.int 8))) (fun _=>some (.int 8))))))
noncomputable def zmc (as : List D) : Option D:=zbk 1 b_42 as
noncomputable def b_34 : List Sl -> Option Fl :=
 (zai (zbe 2 (mIx (zab (fun _=>some (.str "in")) (zab (fun _=>some (.str "out")) (zab (fun _=>some (.str "in")) (zab (fun _=>some (.str "least")) (zab (fun _=>some (.str "most")) (fun _=>some [])))))) (m2 zbv (mIx (zaf 0) (fun _=>some (.int 0))) (fun _=>some (.int 5)))))
  (zai (za4 (mOr (mB (m2 dEq (zaa 2) (fun _=>some (.str "in")))) (mB (m2 dEq (zaa 2) (fun _=>some (.str "out"))))) (zav (zbn (zab (zaa 2) (zab (m2 zbv (mIx (zaf 0) (fun _=>some (.int 1))) (zaa 1)) (fun _=>some []))))) zbg)
  (zai (zbe 3 (zal (za6 1 [1,0] (zdn (zab (m2 zbv (mIx (zaf 0) (fun _=>some (.int 2))) (fun _=>some (.int 4))) (fun _=>some []))) (zaq 0) (fun _=>some true) (zbn (zab (m2 zbv (mIx (zaf 2) (m2 zci (fun _=>some (.int 4)) (m2 zdd (fun _=>some (.int 2)) (zaa 0)))) (zaa 1)) (zab (zap zmc (zab (mIx (zaf 2) (m2 zci (fun _=>some (.int 5)) (m2 zdd (fun _=>some (.int 2)) (zaa 0)))) (fun _=>some []))) (fun _=>some [])))))))
  (zai (zbe 4 (zap zd5 (zab (zal (za6 2 [] (zbl (zal (mSl (zaa 3) (fun _=>some none) (mPt (m2 zbv (mIx (zaf 0) (fun _=>some (.int 3))) (fun _=>some (.int 5))))))) (zb8 (za3 (zaq 0) (za3 (zaq 1) zcd))) (fun _=>some true) (zaa 1))) (fun _=>some []))))
  (zav (zbn (zab (zaa 2) (zab (m2 zh6 (m2 zci (zaa 4) (m2 zbv (m2 zgm (mIx (zaf 0) (fun _=>some (.int 3))) (fun _=>some (.int 5))) (fun _=>some (.int 3)))) (fun _=>some (.int 1))) (zab (zaa 3) (fun _=>some []))))))))))
noncomputable def zn4 (as : List D) : Option D:=zbk 5 b_34 as
noncomputable def b_43 : List Sl -> Option Fl :=
 (zai (zbe 3 (zap m_0 (zab (zaa 0) (zab (fun _=>some (.int 33)) (fun _=>some [])))))
  (zai (za4 (mB (m2 dEq (zaa 1) (fun _=>some (.int 0)))) (zav (zbn (zab (fun _=>some (.str "never")) (zab (fun _=>some .non) (zab (zal (mSl (zal (zab (zbn (zab (mIx (zab (fun _=>some (.str "least")) (zab (fun _=>some (.str "most")) (fun _=>some []))) (m2 zbv (mIx (zaf 3) (fun _=>some (.int 0))) (fun _=>some (.int 2)))) (zab (m2 zh6 (m2 zbv (mIx (zaf 3) (fun _=>some (.int 1))) (fun _=>some (.int 3))) (fun _=>some (.int 1))) (zab (zal (fun _=>some [])) (fun _=>some []))))) (fun _=>some []))) (fun _=>some none) (mPt (m2 zbv (mIx (zaf 3) (fun _=>some (.int 2))) (fun _=>some (.int 6)))))) (fun _=>some [])))))) zbg)
  (zai (zbe 4 (zal (za6 1 [1,3] (zdn (zab (mIx (zab (fun _=>some (.int 1)) (zab (fun _=>some (.int 1)) (zab (fun _=>some (.int 2)) (zab (fun _=>some (.int 2)) (zab (fun _=>some (.int 3)) (zab (fun _=>some (.int 0)) (fun _=>some []))))))) (m2 zbv (mIx (zaf 3) (fun _=>some (.int 0))) (fun _=>some (.int 6)))) (fun _=>some []))) (zaq 0) (fun _=>some true) (zap zn4 (zab (zal (mSl (zaa 2) (mPt (m2 zci (fun _=>some (.int 3)) (m2 zdd (fun _=>some (.int 10)) (zaa 0)))) (mPt (m2 zci (fun _=>some (.int 13)) (m2 zdd (fun _=>some (.int 10)) (zaa 0)))))) (zab (zaa 1) (fun _=>some [])))))))
  (zai (za4 (zdj (mB (m2 dEq (m2 zbv (mIx (zaf 3) (fun _=>some (.int 1))) (fun _=>some (.int 8))) (fun _=>some (.int 0)))) (zdj (zee (zcn (zaa 2))) (mOr (mB (m2 dNe (zaa 4) (zal (fun _=>some [])))) (mB (m2 dEq (m2 zbv (mIx (zaf 3) (fun _=>some (.int 2))) (fun _=>some (.int 4))) (fun _=>some (.int 0))))))) (zav (zbn (zab (fun _=>some (.str "never")) (zab (fun _=>some .non) (zab (zaa 4) (fun _=>some [])))))) zbg)
  (zav (zbn (zab (mIx (zab (fun _=>some (.str "make")) (zab (fun _=>some (.str "may")) (fun _=>some []))) (m2 zbv (m2 zgm (mIx (zaf 3) (fun _=>some (.int 1))) (fun _=>some (.int 8))) (fun _=>some (.int 2)))) (zab (m2 zbv (m2 zgm (mIx (zaf 3) (fun _=>some (.int 2))) (fun _=>some (.int 4))) (zaa 1)) (zab (zaa 4) (fun _=>some []))))))))))
noncomputable def zph (as : List D) : Option D:=zbk 5 b_43 as
noncomputable def b_12 : List Sl -> Option Fl :=
 (zai (zg2 (zb8 (za3 (zaq 2) (za3 (zaq 3) zcd))) (zaa 0))
  (zai (zbe 4 (m2 zbv (zaa 1) (zap zce (zab (zaa 3) (fun _=>some [])))))
  (zai (zg2 (zb8 (za3 (zaq 5) (za3 (zaq 6) zcd))) (mIx (zaf 3) (zaa 4)))
  (zai (za4 (mB (m2 dEq (mIx (zaf 6) (fun _=>some (.int 0))) (fun _=>some (.str "group")))) (zbe 6 (zbn (zab (fun _=>some (.str "group")) (zab (zal (mSl (mIx (zaf 6) (fun _=>some (.int 1))) (mPt (fun _=>some (.int 1))) (fun _=>some none))) (fun _=>some []))))) (zbe 6 (zbn (zab (mIx (zaf 6) (fun _=>some (.int 0))) (zab (m2 zci (mIx (zaf 6) (fun _=>some (.int 1))) (fun _=>some (.int 1))) (fun _=>some []))))))
  (zav (zbn (zab (zaa 2) (zab (zal (zcx (zal (zcx (zal (mSl (zaa 3) (fun _=>some none) (mPt (zaa 4)))) (zal (zab (zbn (zab (zaa 5) (zab (zaa 6) (fun _=>some [])))) (fun _=>some []))))) (zal (mSl (zaa 3) (mPt (m2 zci (zaa 4) (fun _=>some (.int 1)))) (fun _=>some none))))) (fun _=>some [])))))))))
noncomputable def zo0 (as : List D) : Option D:=zbk 7 b_12 as
noncomputable def b_15 : List Sl -> Option Fl :=
 (zai (zbe 4 (zap m_0 (zab (zaa 2) (zab (fun _=>some (.int 4)) (fun _=>some [])))))
  (zai (zbe 5 (m2 zbv (mIx (zaf 4) (fun _=>some (.int 0))) (fun _=>some (.int 14))))
  (zai (zbe 6 (m2 zbv (mIx (zaf 4) (fun _=>some (.int 1))) (zap zce (zab (zaa 1) (fun _=>some [])))))
  (zai (za4 (mB (m2 dEq (zaa 5) (fun _=>some (.int 4)))) (zav (zbn (zab (zaa 0) (zab (zal (mSl (zaa 1) (fun _=>some none) (mPt (m1 zfh (fun _=>some (.int 1)))))) (fun _=>some []))))) zbg)
  (zai (za4 (mB (m2 dEq (zaa 5) (fun _=>some (.int 5)))) (zav (zbn (zab (zaa 0) (zab (zal (zcx (zal (mSl (zaa 1) (fun _=>some none) (mPt (zaa 6)))) (zal (mSl (zaa 1) (mPt (m2 zci (zaa 6) (fun _=>some (.int 1)))) (fun _=>some none))))) (fun _=>some []))))) zbg)
  (zai (za4 (mB (m2 dEq (zaa 5) (fun _=>some (.int 6)))) (zav (zbn (zab (zaa 0) (zab (zal (zcx (zal (mSl (zaa 1) (fun _=>some none) (mPt (m2 zci (zaa 6) (fun _=>some (.int 1)))))) (zal (mSl (zaa 1) (mPt (zaa 6)) (fun _=>some none))))) (fun _=>some []))))) zbg)
  (zai (za4 (mB (m2 dEq (zaa 5) (fun _=>some (.int 7)))) (zav (zbn (zab (zaa 0) (zab (zal (zcx (zal (mSl (zaa 1) (mPt (zaa 6)) (fun _=>some none))) (zal (mSl (zaa 1) (fun _=>some none) (mPt (zaa 6)))))) (fun _=>some []))))) zbg)
  (zai (za4 (zdj (mB (m2 dEq (zaa 5) (fun _=>some (.int 8)))) (mB (m2 dNe (zaa 0) (zal (fun _=>some []))))) (zav (zbn (zab (zal (mSl (zaa 0) (mPt (fun _=>some (.int 1))) (fun _=>some none))) (zab (zaa 1) (fun _=>some []))))) zbg)
  (zai (za4 (zdj (mB (m2 dEq (zaa 5) (fun _=>some (.int 9)))) (zdj (mB (m2 dNe (zaa 0) (zal (fun _=>some [])))) (mB (m2 dGt (zaa 3) (fun _=>some (.int 0)))))) (zai (zbe 7 (m2 zbv (mIx (zaf 4) (fun _=>some (.int 2))) (zaa 3)))
  (zai (zbe 8 (zal (za6 1 [7] (zbl (mIx (zaf 0) (m1 zfh (fun _=>some (.int 1))))) (zaq 0) (mB (m2 dNe (zaa 0) (zaa 1))) (zaa 0))))
  (zai (za4 (mB (m2 dEq (zaa 8) (mIx (zaf 0) (m1 zfh (fun _=>some (.int 1)))))) (zbe 8 (zal (zli (zal (zcx (zaa 8) (zal (zab (zaa 7) (fun _=>some [])))))))) zbg)
  (zav (zbn (zab (zal (zcx (zal (mSl (zaa 0) (fun _=>some none) (mPt (m1 zfh (fun _=>some (.int 1)))))) (zal (zab (zaa 8) (fun _=>some []))))) (zab (zaa 1) (fun _=>some [])))))))) zbg)
  (zai (za4 (mOr (mB (m2 dEq (zaa 5) (fun _=>some (.int 10)))) (mB (m2 dEq (zaa 5) (fun _=>some (.int 11))))) (zav (zbn (zab (zaa 0) (zab (zal (zcx (zal (zcx (zal (mSl (zaa 1) (fun _=>some none) (mPt (zaa 6)))) (zal (zab (zap zo0 (zab (mIx (zaf 1) (zaa 6)) (zab (mIx (zaf 4) (fun _=>some (.int 3))) (fun _=>some [])))) (fun _=>some []))))) (zal (mSl (zaa 1) (mPt (m2 zci (zaa 6) (fun _=>some (.int 1)))) (fun _=>some none))))) (fun _=>some []))))) zbg)
  (zai (za4 (mB (m2 dEq (zaa 5) (fun _=>some (.int 12)))) (zav (zbn (zab (zaa 0) (zab (zal (zcx (zaa 1) (zal (zab (mIx (zaf 1) (mIx (zab (m1 zfh (fun _=>some (.int 1))) (zab (fun _=>some (.int 0)) (fun _=>some []))) (m2 zbv (mIx (zaf 4) (fun _=>some (.int 2))) (fun _=>some (.int 2))))) (fun _=>some []))))) (fun _=>some []))))) zbg)
  (zai (za4 (mB (m2 dEq (zaa 5) (fun _=>some (.int 13)))) (zav (zbn (zab (zaa 0) (zab (zal (mSl (zaa 1) (fun _=>some none) (mPt (fun _=>some (.int 0))))) (fun _=>some []))))) zbg)
  (zav (zbn (zab (zaa 0) (zab (zaa 1) (fun _=>some [])))))))))))))))))
noncomputable def zrz (as : List D) : Option D:=zbk 9 b_15 as
noncomputable def b_57 : List Sl -> Option Fl :=
 (zai (za4 (mB (m2 dEq (mIx (zaf 0) (fun _=>some (.int 0))) (fun _=>some (.str "in")))) (zav (mIx (zaf 1) (mIx (zaf 0) (fun _=>some (.int 1))))) zbg)
  (zai (za4 (mB (m2 dEq (mIx (zaf 0) (fun _=>some (.int 0))) (fun _=>some (.str "out")))) (zav (zfb (mIx (zaf 2) (mIx (zaf 0) (fun _=>some (.int 1)))))) zbg)
  (zai (za4 (mB (m2 dEq (mIx (zaf 0) (fun _=>some (.int 0))) (fun _=>some (.str "least")))) (zav (m2 dGe (zap zd5 (zab (zal (za6 2 [1] (zbl (mIx (zaf 0) (fun _=>some (.int 2)))) (zb8 (za3 (zaq 0) (za3 (zaq 1) zcd))) (zcn (mIx (zaf 2) (zaa 0))) (zaa 1))) (fun _=>some []))) (mIx (zaf 0) (fun _=>some (.int 1))))) zbg)
  (zav (m2 dLe (zap zd5 (zab (zal (za6 2 [2] (zbl (mIx (zaf 0) (fun _=>some (.int 2)))) (zb8 (za3 (zaq 0) (za3 (zaq 1) zcd))) (zcn (mIx (zaf 2) (zaa 0))) (zaa 1))) (fun _=>some []))) (mIx (zaf 0) (fun _=>some (.int 1))))))))
noncomputable def zpx (as : List D) : Option D:=zbk 3 b_57 as
noncomputable def b_11 : List Sl -> Option Fl :=
 (zai (za4 (zcn (zap zfd (zab (zal (za6 1 [1] (zbl (zaa 0)) (zaq 0) (fun _=>some true) (zap m_6 (zab (zaa 0) (zab (zaa 1) (fun _=>some [])))))) (fun _=>some [])))) (zav (fun _=>some (.bl false))) zbg)
  (zai (zde 2 (za6 1 [] (zbl (zaa 1)) (zaq 0) (fun _=>some true) (fun _=>some (.bl false))))
  (zai (zc9 (zdn (zab (zap zce (zab (zaa 1) (fun _=>some []))) (fun _=>some []))) (zaq 3) (zc9 (zbl (zaa 0)) (zb8 (za3 (zaq 4) (za3 (zaq 5) (za3 (zaq 6) zcd)))) (za4 (zdj (mB (m2 dNe (zaa 4) (fun _=>some (.str "never")))) (zdj (zcn (mIx (zaf 1) (zaa 5))) (zee (zcn (mIx (zaf 2) (zaa 5)))))) (zfc 2 (zaa 5) (zap zfz (zab (zal (za6 1 [2,1] (zbl (zaa 6)) (zaq 0) (fun _=>some true) (zmb zpx (zab (zaa 0) (zab (zg3 1) (zab (zaa 2) (fun _=>some []))))))) (fun _=>some [])))) zbg)))
  (ze9 2 (zav (m2 dEq (zaa 2) (zaa 1)))))))
noncomputable def zlq (as : List D) : Option D:=zbk 7 b_11 as
noncomputable def b_36 : List Sl -> Option Fl :=
 (zai (zbe 2 (zal (zab (zal (fun _=>some [])) (fun _=>some []))))
  (zai (zc9 (zdn (zab (zaa 0) (fun _=>some []))) (zaq 3) (zbe 2 (zal (zcx (zal (za6 1 [] (zbl (zaa 2)) (zaq 0) (fun _=>some true) (zal (zcx (zaa 0) (zal (zab (fun _=>some (.bl true)) (fun _=>some []))))))) (zal (za6 1 [] (zbl (zaa 2)) (zaq 0) (fun _=>some true) (zal (zcx (zaa 0) (zal (zab (fun _=>some (.bl false)) (fun _=>some [])))))))))))
  (zai (zbe 4 (zal (za6 1 [1] (zbl (zaa 2)) (zaq 0) (zcn (zap zlq (zab (zaa 1) (zab (zaa 0) (fun _=>some []))))) (zaa 0))))
  (zgv (za6 1 [] (zbl (zaa 4)) (zaq 0) (fun _=>some true) (zal (za6 2 [] (zfi (zab (zaa 0) (fun _=>some []))) (zb8 (za3 (zaq 0) (za3 (zaq 1) zcd))) (zcn (zaa 1)) (zaa 0))))))))
noncomputable def zp4 (as : List D) : Option D:=zbk 5 b_36 as
noncomputable def b_2 : List Sl -> Option Fl :=
 (zai (zbe 1 (zap m_0 (zab (zap m_5 (zab (zaa 0) (zab (fun _=>some (.int 0)) (fun _=>some [])))) (zab (fun _=>some (.int 6)) (fun _=>some [])))))
  (zai (zbe 2 (m2 zgm (m2 zci (m2 zbv (mIx (zaf 1) (fun _=>some (.int 0))) (fun _=>some (.int 10))) (fun _=>some (.int 2))) (fun _=>some (.int 3))))
  (zai (zde 3 (zjq zoj (zab (m2 zbv (mIx (zaf 1) (fun _=>some (.int 1))) (fun _=>some (.int 5))) (zab (zaa 2) (fun _=>some [])))))
  (zai (zc9 (zbl (zal (mSl (zaa 0) (mPt (fun _=>some (.int 2))) (mPt (fun _=>some (.int 12)))))) (zaq 4) (ze8 3 (zap zph (zab (zaa 4) (zab (zaa 2) (zab (m2 dEq (m2 zbv (mIx (zaf 1) (fun _=>some (.int 2))) (fun _=>some (.int 2))) (fun _=>some (.int 0))) (fun _=>some [])))))))
  (zai (ze9 3 (zbe 5 (zap zp4 (zab (zaa 2) (zab (zaa 3) (fun _=>some []))))))
  (zai (za4 (mB (m2 dEq (m2 zbv (mIx (zaf 1) (fun _=>some (.int 3))) (fun _=>some (.int 4))) (fun _=>some (.int 1)))) (zbe 5 (zal (mSl (zaa 5) (mPt (fun _=>some (.int 1))) (fun _=>some none)))) zbg)
  (zai (za4 (mB (m2 dEq (m2 zbv (mIx (zaf 1) (fun _=>some (.int 3))) (fun _=>some (.int 4))) (fun _=>some (.int 2)))) (zbe 5 (zal (zcx (zaa 5) (zal (zab (zal (za6 1 [1] (zdn (zab (zaa 2) (fun _=>some []))) (zaq 0) (mB (m2 dEq (m2 zbv (m2 zgm (mIx (zaf 1) (fun _=>some (.int 4))) (m2 zci (zaa 0) (fun _=>some (.int 1)))) (fun _=>some (.int 2))) (fun _=>some (.int 0)))) (zaa 0))) (fun _=>some [])))))) zbg)
  (zai (zde 6 (fun _=>some []))
  (zai (ze9 3 (zir (zmf 6 (m_1 9) (zdr (zaa 3) (zdr (zaa 5) (zdr (zal (za6 1 [] (zdn (zab (zaa 2) (fun _=>some []))) (zaq 0) (fun _=>some true) (fun _=>some .non))) (zdr (zal (fun _=>some [])) (zgc (zab (zap m_5 (zab (zaa 0) (zab (fun _=>some (.int 1)) (fun _=>some [])))) (fun _=>some []))))))))))
  (zai (zc9 (zbl (zal (zcx (zal (zab (zap m_5 (zab (zaa 0) (zab (fun _=>some (.int 0)) (fun _=>some [])))) (fun _=>some []))) (zal (mSl (zaa 0) (mPt (fun _=>some (.int 2))) (mPt (fun _=>some (.int 42)))))))) (zaq 4) (zai (ze9 6 (zg2 (zb8 (za3 (zaq 7) (za3 (zaq 8) zcd))) (zap zrz (zab (zaa 5) (zab (zaa 6) (zab (zaa 4) (zab (zaa 2) (fun _=>some []))))))))
  (ze9 3 (za4 (zee (zcn (zap zpm (zab (zaa 2) (zab (zaa 3) (zab (zaa 7) (zab (zaa 8) (fun _=>some [])))))))) (zav (fun _=>some (.bl false))) zbg))))
  (zav (fun _=>some (.bl true)))))))))))))
noncomputable def m_2 (as : List D) : Option D:=zbk 9 b_2 as
section
variable {P : Program} {w : World} {K : PySem.W.Frag} {mg : Str -> Option Value} {base : Heap}
theorem zxp {a : Wa} (W : Wd K mg a) : zax P w K mg base CX0 1 a.f_37 a.fd_37 ["_law_steps"] (spD ⟨K,cl a⟩ ["_law_steps"].length zpg) :=
 zbt (k:=0) (N:=["_law_steps","_law_found","_law_pair","_law_why"]) (F:=b_37) W.F_37 zlb fun cdv A outer s H E hr=>have hu:=hr.units; by
  unfold b_37
  exact (zaj (zfj 1 zlb.nd (zby zag))
  (zaj (zd4 PassesOwn.never rfl (zb2 (dv 0)) (zck rfl (zbc (zcb 2 4 zlb.nd) (zbc (zcb 3 4 zlb.nd) zcl))) (zaj (zbf (za0 (zbi hu) zbh (DE.db (zah (dvC 3) zae)) (DE.db zbq)) (zan (zb5 3 zlb.nd (zbu (zac (zah (dvC 3) zae) (zac (DO.de (zhv boot_list rfl W.z_list (DE.dc (zah (dvC 3) zae)))) zag))))) zbj)
  (zan (zhk (ze7 (zfk PySem.F.plainAttrs_list PySem.F.slot_list_append PySem.F.type_list_append zgl (pv 1) (zdl (zbu (zac (dv 2) (zac (dv 3) zag))) zd8)))))))
  (zan (zg4 1))))
theorem z2u {a : Wa} (W : Wd K mg a) : zax P w K mg base CX0 1 a.f_9 a.fd_9 ["_law_rules"] (spD ⟨K,cl a⟩ ["_law_rules"].length m_9) :=
 zbt (k:=0) (N:=["_law_rules","_law_found","_law_word","_law_head","_law_parts","_law_mine","_law_part_here"]) (F:=b_9) W.F_9 zhl fun cdv A outer s H E hr=>have hu:=hr.units; by
  unfold b_9
  exact (zaj (zfj 1 zhl.nd (zby zag))
  (zaj (zd4 PassesOwn.never rfl (zb2 (dv 0)) (zck rfl (zbc (zcb 2 7 zhl.nd) (zbc (zcb 3 7 zhl.nd) (zbc (zcb 4 7 zhl.nd) zcl)))) (zaj (zfj 5 zhl.nd (zby zag))
  (zaj (zd4 PassesOwn.never rfl (zb2 (dv 4)) (zcb 6 7 zhl.nd) (zaj (zbf (za0 (zbi hu) zbh (DE.db (zb3 zc7 zc5 rfl W.z_len PySem.boot_len (zbb (DE.db (dv 6)) zbw))) (DE.db zae)) (zan (zb5 6 zhl.nd (zbu (zac (zah (dvC 6) zae) (zac (zah (dvC 6) zae) (zac (DO.de (zhv boot_list rfl W.z_list (DE.dc (zah (dvC 6) zae)))) zag)))))) zbj)
  (zan (zhk (ze7 (zfk PySem.F.plainAttrs_list PySem.F.slot_list_append PySem.F.type_list_append zgl (pv 5) (zdl (dv 6) zd8)))))))
  (zan (zg5 5 (zhk (ze7 (zfk PySem.F.plainAttrs_list PySem.F.slot_list_append PySem.F.type_list_append zgl (pv 1) (zdl (zbu (zac (dv 2) (zac (dv 3) (zac (dv 5) zag)))) zd8)))))))))
  (zan (zg4 1))))
theorem z3u {a : Wa} (W : Wd K mg a) : zax P w K mg base CX0 1 a.f_24 a.fd_24 ["_law_many","_law_bar"] (spO ⟨K,cl a⟩ ["_law_many","_law_bar"].length znj) :=
 zwb (k:=0) (N:=["_law_many","_law_bar","_law_sheet","_law_thing","_law_truth"]) (F:=b_24) W.F_24 zm2 fun cdv A outer s H E hr=>by
  unfold b_24
  exact (zaj (zoh 2 1 [] ["_law_k"] zm2.nd rfl (DI.de (zeu rfl W.z_range (zac (dv 0) zag))) (fun _ _ _ _ _=>(dgc 0 1)) (fun _ _ _ _ _=>zcm) (fun _ _ _ _ _=>zea))
  (zaj (zd4 PassesOwn.never rfl (zb2 (dv 1)) (zck rfl (zbc (zcb 3 5 zm2.nd) (zbc (zcb 4 5 zm2.nd) zcl))) (zan (zij (pv 2) (dv 3) (dv 4))))
  (zan (zg4 2))))
theorem z8f {a : Wa} (W : Wd K mg a) : zax P w K mg base CX0 1 a.f_49 a.fd_49 ["_law_part_here","_law_sheet"] (spD ⟨K,cl a⟩ ["_law_part_here","_law_sheet"].length zn8) :=
 zbt (k:=0) (N:=["_law_part_here","_law_sheet"]) (F:=b_49) W.F_49 z5j fun cdv A outer s H E hr=>have hu:=hr.units; by
  unfold b_49
  exact (zaj (zbf (za0 (zbi hu) zbh (DE.db (zah (dvC 0) zae)) (DE.db zbq)) (zan (zaw (zb6 zdw zdv (DE.db (zah (dvC 1) (zah (dvC 0) zae))) (DE.db zbz)))) zbj)
  (zaj (zbf (za0 (zbi hu) zbh (DE.db (zah (dvC 0) zae)) (DE.db zbq)) (zan (zaw (zb6 zdw zdv (DE.db (zah (dvC 1) (zah (dvC 0) zae))) (DE.db zbz)))) zbj)
  (zaj (zbf (za0 (zbi hu) zbh (DE.db (zah (dvC 0) zae)) (DE.db zbq)) (zan (zaw (zb6 zpf zqi (DE.db (zb3 (zgy rfl) zgr rfl W.z_sum boot_sum (zbb (DE.db (DO.de (zcc 2 [1] ["_law_thing","_law_worth_here","_law_sheet"] rfl (DI.de (zb2 (zah (dvC 0) zae))) (fun _ _ _ _ _=>(zck rfl (zbc (dgc 0 2) (zbc (dgc 1 2) zcl)))) (fun _ _ _ _ _=>(zdy (za0 zdw zdv (DE.db (zah (zc8 2) (dvc 0))) (DE.db zbz)))) (fun _ _ _ _ _=>(dvc 1))))) zbw))) (DE.db (zah (dvC 0) zae))))) zbj)
  (zan (zaw (zb6 zny zmk (DE.db (zb3 (zgy rfl) zgr rfl W.z_sum boot_sum (zbb (DE.db (DO.de (zcc 2 [1] ["_law_thing","_law_worth_here","_law_sheet"] rfl (DI.de (zb2 (zah (dvC 0) zae))) (fun _ _ _ _ _=>(zck rfl (zbc (dgc 0 2) (zbc (dgc 1 2) zcl)))) (fun _ _ _ _ _=>(zdy (za0 zf4 zft (DE.db (zah (zc8 2) (dvc 0))) (DE.db zbz)))) (fun _ _ _ _ _=>(dvc 1))))) zbw))) (DE.db (zah (dvC 0) zae))))))))
theorem zql {a : Wa} (W : Wd K mg a) : zax P w K mg base CX0 2 a.f_6 a.fd_6 ["_law_rule_here","_law_sheet"] (spD ⟨K,cl a⟩ ["_law_rule_here","_law_sheet"].length m_6) :=
 zbt (k:=1) (N:=["_law_rule_here","_law_sheet"]) (F:=b_6) W.F_6 z0q fun cdv A outer s H E hr=>have hu:=hr.units; by
  unfold b_6
  exact (zaj (zbf (DW.dt (zf7 (za0 (zbi hu) zbh (DE.db (zah (dvC 0) zae)) (DE.db zbq)) (zge (DW.dt (zfe (za0 (zbi hu) zbh (DE.db (zah (dvC 0) zae)) (DE.db zbq)) (zgs (za0 zf4 zft (DE.db (zah (dvC 1) (zah (dvC 0) zae))) (DE.db zbz)))))))) (zan (zaw zbz)) zbj)
  (zan (zaw (zb3 (zle rfl) zme rfl W.z_all boot_all (zbb (DE.db (DO.de (zcc 1 [1] ["_law_part_here","_law_sheet"] rfl (DI.de (zb2 (zah (dvC 0) zae))) (fun _ _ _ _ _=>(dgc 0 1)) (fun _ _ _ _ _=>zcm) (fun _ _ _ _ _=>(zbp (z8f W) (hr.mono (by decide)) (glc rfl) W.g_49 W.F_49.kp W.b_49 (zac (dvc 0) (zac (dvc 1) zag))))))) zbw)))))
theorem zse {a : Wa} (W : Wd K mg a) : zax P w K mg base CX0 1 a.f_35 a.fd_35 ["_law_sheet","_law_bar"] (spD ⟨K,cl a⟩ ["_law_sheet","_law_bar"].length znd) :=
 zbt (k:=0) (N:=["_law_sheet","_law_bar"]) (F:=b_35) W.F_35 z79 fun cdv A outer s H E hr=>have hu:=hr.units; by
  unfold b_35
  exact (zan (zaw (zb3 (zle rfl) zme rfl W.z_all boot_all (zbb (DE.db (DO.de (zcc 2 [0] ["_law_thing","_law_truth","_law_sheet"] rfl (DI.de (zb2 (dv 1))) (fun _ _ _ _ _=>(zck rfl (zbc (dgc 0 2) (zbc (dgc 1 2) zcl)))) (fun _ _ _ _ _=>zcm) (fun _ _ _ _ _=>(zb6 (zbi hu) zbh (DE.db (zah (zc8 2) (dvc 0))) (DE.db (dvc 1))))))) zbw))))
theorem zzj {a : Wa} (W : Wd K mg a) : zax P w K mg base CX0 1 a.f_50 a.fd_50 ["_law_part_here","_law_sheet","_law_without"] (spD ⟨K,cl a⟩ ["_law_part_here","_law_sheet","_law_without"].length zrb) :=
 zbt (k:=0) (N:=["_law_part_here","_law_sheet","_law_without","_law_left"]) (F:=b_50) W.F_50 zv6 fun cdv A outer s H E hr=>have hu:=hr.units; by
  unfold b_50
  exact (zaj (zbf (za0 (zbi hu) zbh (DE.db (zah (dvC 0) zae)) (DE.db zbq)) (zan (zaw (zvc (zb6 zdw zdv (DE.db (zah (dvC 1) (zah (dvC 0) zae))) (DE.db zbz)) (zfx (zah (dvC 2) (zah (dvC 0) zae)))))) zbj)
  (zaj (zbf (za0 (zbi hu) zbh (DE.db (zah (dvC 0) zae)) (DE.db zbq)) (zan (zaw (zb6 zdw zdv (DE.db (zah (dvC 1) (zah (dvC 0) zae))) (DE.db zbz)))) zbj)
  (zaj (zbf (za0 (zbi hu) zbh (DE.db (zah (dvC 0) zae)) (DE.db zbq)) (zaj (zf6 3 2 [1,2] ["_law_thing","_law_worth_here","_law_sheet","_law_without"] zv6.nd rfl (DI.de (zb2 (zah (dvC 0) zae))) (fun _ _ _ _ _=>(zck rfl (zbc (dgc 0 2) (zbc (dgc 1 2) zcl)))) (fun _ _ _ _ _=>(zdy (DW.dt (zfe (za0 zf4 zft (DE.db (zah (zc8 2) (dvc 0))) (DE.db zbz)) (zgs (zfa (zcz (DE.db (zah (zc8 3) (dvc 0)))))))))) (fun _ _ _ _ _=>(dvc 1)))
  (zan (zaw (zb6 zha zhg (DE.db (zb3 (zgy rfl) zgr rfl W.z_sum boot_sum (zbb (DE.db (dv 3)) zbw))) (DE.db (zah (dvC 0) zae)))))) zbj)
  (zan (zaw (zb6 zkj zi6 (DE.db (zb3 (zgy rfl) zgr rfl W.z_sum boot_sum (zbb (DE.db (DO.de (zcc 2 [1] ["_law_thing","_law_worth_here","_law_sheet"] rfl (DI.de (zb2 (zah (dvC 0) zae))) (fun _ _ _ _ _=>(zck rfl (zbc (dgc 0 2) (zbc (dgc 1 2) zcl)))) (fun _ _ _ _ _=>(zdy (za0 zdw zdv (DE.db (zah (zc8 2) (dvc 0))) (DE.db zbz)))) (fun _ _ _ _ _=>(dvc 1))))) zbw))) (DE.db (zah (dvC 0) zae))))))))
theorem zwf {a : Wa} (W : Wd K mg a) : zax P w K mg base CX0 2 a.f_22 a.fd_22 ["_law_rule_here","_law_sheet","_law_without"] (spD ⟨K,cl a⟩ ["_law_rule_here","_law_sheet","_law_without"].length zn5) :=
 zbt (k:=1) (N:=["_law_rule_here","_law_sheet","_law_without"]) (F:=b_22) W.F_22 zxe fun cdv A outer s H E hr=>have hu:=hr.units; by
  unfold b_22
  exact (zaj (zbf (DW.dt (zf7 (za0 (zbi hu) zbh (DE.db (zah (dvC 0) zae)) (DE.db zbq)) (zge (zfa (zcz (DE.db (zah (dvC 2) (zah (dvC 0) zae)))))))) (zan (zaw zbz)) zbj)
  (zan (zaw (zgp (zb3 (zhm rfl) zhx rfl W.z_any boot_any (zbb (DE.db (DO.de (zcc 1 [1,2] ["_law_part_here","_law_sheet","_law_without"] rfl (DI.de (zb2 (zah (dvC 0) zae))) (fun _ _ _ _ _=>(dgc 0 1)) (fun _ _ _ _ _=>zcm) (fun _ _ _ _ _=>(zbp (zzj W) (hr.mono (by decide)) (glc rfl) W.g_50 W.F_50.kp W.b_50 (zac (dvc 0) (zac (dvc 1) (zac (dvc 2) zag)))))))) zbw))))))
theorem zo2 {a : Wa} (W : Wd K mg a) : zax P w K mg base CX0 3 a.f_3 a.fd_3 ["_law_rules","_law_sets","_law_bars","_law_sheet","_law_why"] (spD ⟨K,cl a⟩ ["_law_rules","_law_sets","_law_bars","_law_sheet","_law_why"].length m_3) :=
 zbt (k:=2) (N:=["_law_rules","_law_sets","_law_bars","_law_sheet","_law_why","_law_word","_law_told","_law_without"]) (F:=b_3) W.F_3 zm4 fun cdv A outer s H E hr=>have hu:=hr.units; by
  unfold b_3
  exact (zaj (zl6 (dv 4) (zck rfl (zbc (zcb 5 8 zm4.nd) (zbc (zcb 6 8 zm4.nd) zcl))))
  (zaj (zbf (za0 (zbi hu) zbh (DE.db (dv 5)) (DE.db zbq)) (zan (zaw (zf2 (zb6 zha zhg (DE.db (dv 6)) (DE.db (zb3 zc7 zc5 rfl W.z_len PySem.boot_len (zbb (DE.db (dv 0)) zbw)))) (zfx (zbp (zql W) (hr.mono (by decide)) rfl W.g_6 W.F_6.kp W.b_6 (zac (zah (dvC 0) (dv 6)) (zac (dv 3) zag))))))) zbj)
  (zaj (zbf (za0 (zbi hu) zbh (DE.db (dv 5)) (DE.db zbq)) (zan (zaw (zf2 (zb6 zha zhg (DE.db (dv 6)) (DE.db (zb3 zc7 zc5 rfl W.z_len PySem.boot_len (zbb (DE.db (dv 2)) zbw)))) (zfx (zbp (zse W) (hr.mono (by decide)) rfl W.g_35 W.F_35.kp W.b_35 (zac (dv 3) (zac (zah (dvC 2) (dv 6)) zag))))))) zbj)
  (zaj (zbf (DW.dt (zfe (za0 (zbi hu) zbh (DE.db (dv 5)) (DE.db zbq)) (zgs (za0 zha zhg (DE.db (dv 6)) (DE.db (zb3 zc7 zc5 rfl W.z_len PySem.boot_len (zbb (DE.db (dv 1)) zbw))))))) (zan (zaw (zb6 (zbi hu) zbh (DE.db (dv 3)) (DE.db (DO.de (zcc 1 [1,6] ["_law_thing","_law_sets","_law_told"] rfl (DI.de (zeu rfl W.z_range (zac (zb3 zc7 zc5 rfl W.z_len PySem.boot_len (zbb (DE.db (dv 3)) zbw)) zag))) (fun _ _ _ _ _=>(dgc 0 1)) (fun _ _ _ _ _=>zcm) (fun _ _ _ _ _=>(zb6 zuu zuh (DE.db (dvc 0)) (DE.db (zah (zc8 1) (dvc 2))))))))))) zbj)
  (zaj (zbf (za0 (zbi hu) zbh (DE.db (dv 5)) (DE.db zbq)) (zan (zaw zbz)) zbj)
  (zaj (zbf (zfa (zcz (DE.db (zb3 (zhm rfl) zhx rfl W.z_any boot_any (zbb (DE.db (DO.de (zcc 1 [3] ["_law_thing","_law_sheet"] rfl (DI.de (zb2 (dv 6))) (fun _ _ _ _ _=>(dgc 0 1)) (fun _ _ _ _ _=>zcm) (fun _ _ _ _ _=>(zb6 zdw zdv (DE.db (zah (zc8 1) (dvc 0))) (DE.db zbz)))))) zbw))))) (zan (zaw zbz)) zbj)
  (zaj (zb5 7 zm4.nd (DO.de (zcc 1 [6] ["_law_thing","_law_told"] rfl (DI.de (zeu rfl W.z_range (zac (zb3 zc7 zc5 rfl W.z_len PySem.boot_len (zbb (DE.db (dv 3)) zbw)) zag))) (fun _ _ _ _ _=>(dgc 0 1)) (fun _ _ _ _ _=>zcm) (fun _ _ _ _ _=>(zb6 zuu zuh (DE.db (dvc 0)) (DE.db (dvc 1)))))))
  (zan (zaw (zgp (zb3 (zhm rfl) zhx rfl W.z_any boot_any (zbb (DE.db (DO.de (zcc 1 [3,7] ["_law_rule_here","_law_sheet","_law_without"] rfl (DI.de (zb2 (dv 0))) (fun _ _ _ _ _=>(dgc 0 1)) (fun _ _ _ _ _=>zcm) (fun _ _ _ _ _=>(zbp (zwf W) (hr.mono (by decide)) (glc rfl) W.g_22 W.F_22.kp W.b_22 (zac (dvc 0) (zac (dvc 1) (zac (dvc 2) zag)))))))) zbw))))))))))))
theorem zrh {a : Wa} (W : Wd K mg a) : zax P w K mg base CX0 1 a.f_7 a.fd_7 ["_law_sheet","_law_thing","_law_entry"] (spD ⟨K,cl a⟩ ["_law_sheet","_law_thing","_law_entry"].length m_7) :=
 zbt (k:=0) (N:=["_law_sheet","_law_thing","_law_entry"]) (F:=b_7) W.F_7 z8u fun cdv A outer s H E hr=>by
  unfold b_7
  exact (zan (zlg (zds (DO.de (zds (DO.de (by refine zc3 ?a ?b ?c; (case a=>exact (dv 0)); (case b=>exact zdg); (case c=>exact (zcu (dv 1))))) (DO.de (zby (zac (dv 2) zag))))) (DO.de (by refine zc3 ?a ?b ?c; (case a=>exact (dv 0)); (case b=>exact (zcu (zay zdk (dv 1) zae))); (case c=>exact zdg))))))
theorem z3g {a : Wa} (W : Wd K mg a) : zax P w K mg base CX0 4 a.f_25 a.fd_25 ["_law_many","_law_rules","_law_sets","_law_bars","_law_line"] (spD ⟨K,cl a⟩ ["_law_many","_law_rules","_law_sets","_law_bars","_law_line"].length zo6) :=
 zbt (k:=3) (N:=["_law_many","_law_rules","_law_sets","_law_bars","_law_line","_law_bar","_law_steps","_law_sheet","_law_pair","_law_why"]) (F:=b_25) W.F_25 zkc fun cdv A outer s H E hr=>have hu:=hr.units; by
  unfold b_25
  exact (zaj (zl6 (dv 4) (zck rfl (zbc (zcb 5 10 zkc.nd) (zbc (zcb 6 10 zkc.nd) zcl))))
  (zaj (zbf (DW.dt (zf7 (za0 (zbi hu) zbh (DE.db (dv 6)) (DE.db (DO.de (zby zag)))) (zge (za0 zf4 zft (DE.db (zah (DE.dc (zah (dvC 6) (zf8 zae))) zae)) (DE.db zea))))) (zan (zaw zbz)) zbj)
  (zaj (zfj 7 zkc.nd (zwe (z3u W) (hr.mono (by decide)) rfl W.g_24 W.F_24.kp W.b_24 (zac (dv 0) (zac (dv 5) zag))))
  (zaj (zd4 PassesOwn.never rfl (zb2 (DO.de (by refine zc3 ?a ?b ?c; (case a=>exact (dv 6)); (case b=>exact zdg); (case c=>exact (zcu (zf8 zae)))))) (zck rfl (zbc (zcb 8 10 zkc.nd) (zbc (zcb 9 10 zkc.nd) zcl))) (zaj (zbf (DW.dt (zf7 (za0 zdw zdv (DE.db (dv 8)) (DE.db zea)) (zge (za0 zf4 zft (DE.db (zah (dvC 7) (zah (dvC 8) zae))) (DE.db zea))))) (zan (zaw zbz)) zbj)
  (zaj (zbf (zfa (zcz (DE.db (zns (zo2 W) (hr.mono (by decide)) rfl W.g_3 W.F_3.kp W.b_3 (zbb (DE.db (dv 1)) (zbb (DE.db (dv 2)) (zbb (DE.db (dv 3)) (zbb (z2b (zrh W) (hr.mono (by decide)) rfl W.g_7 W.F_7.kp W.b_7 (zbb (dvB 7) (zbb (DE.db (zah (dvC 8) zae)) (zbb (DE.db (zgp (zah (dvC 8) zae))) zbw)))) (zbb (DE.db (dv 9)) zbw))))))))) (zan (zaw zbz)) zbj)
  (zan (zij (pv 7) (zah (dvC 8) zae) (zah (dvC 8) zae))))))
  (zan (zg5 7 (zaw (zbp (zo2 W) (hr.mono (by decide)) rfl W.g_3 W.F_3.kp W.b_3 (zac (dv 1) (zac (dv 2) (zac (dv 3) (zac (dv 7) (zac (zah (DE.dc (zah (dvC 6) (zf8 zae))) zae) zag)))))))))))))
theorem zx4 {a : Wa} (W : Wd K mg a) : zax P w K mg base CX0 5 a.f_38 a.fd_38 ["_law_many","_law_rules","_law_sets","_law_lines"] (spD ⟨K,cl a⟩ ["_law_many","_law_rules","_law_sets","_law_lines"].length zoy) :=
 zbt (k:=4) (N:=["_law_many","_law_rules","_law_sets","_law_lines","_law_bars","_law_k","_law_line"]) (F:=b_38) W.F_38 zn0 fun cdv A outer s H E hr=>have hu:=hr.units; by
  unfold b_38
  exact (zaj (zf6 4 2 [] ["_law_bar","_law_steps"] zn0.nd rfl (DI.de (zb2 (dv 3))) (fun _ _ _ _ _=>(zck rfl (zbc (dgc 0 2) (zbc (dgc 1 2) zcl)))) (fun _ _ _ _ _=>zcm) (fun _ _ _ _ _=>(dvc 0)))
  (zaj (zd4 PassesOwn.never rfl (zit rfl W.z_enumerate (zac (dv 3) zag)) (zck rfl (zbc (zcb 5 7 zn0.nd) (zbc (zcb 6 7 zn0.nd) zcl))) (zan (zbf (zfa (zcz (DE.db (zbp (z3g W) (hr.mono (by decide)) rfl W.g_25 W.F_25.kp W.b_25 (zac (dv 0) (zac (dv 1) (zac (dv 2) (zac (DO.de (by refine zc3 ?a ?b ?c; (case a=>exact (dv 4)); (case b=>exact zdg); (case c=>exact (zcu (dv 5))))) (zac (dv 6) zag))))))))) (zan (zaw zbz)) zbj)))
  (zan (zaw (zf2 (zb6 (zgw hu) zg8 (DE.db (dv 3)) (DE.db (DO.de (zby zag)))) (zfx (zb6 (zbi hu) zbh (DE.db (zah (dvC 4) (zf8 zae))) (DE.db (DO.de (zby zag))))))))))
theorem z5i {a : Wa} (W : Wd K mg a) : zax P w K mg base CX0 1 a.f_32 a.fd_32 ["many","bar"] (spD ⟨K,cl a⟩ ["many","bar"].length znz) :=
 zbt (k:=0) (N:=["many","bar","thing","sheet","truth"]) (F:=b_32) W.F_32 zmx fun cdv A outer s H E hr=>by
  unfold b_32
  exact (zaj (zoh 3 1 [] ["thing"] zmx.nd rfl (DI.de (zeu rfl W.z_range (zac (dv 0) zag))) (fun _ _ _ _ _=>(dgc 0 1)) (fun _ _ _ _ _=>zcm) (fun _ _ _ _ _=>zea))
  (zaj (zd4 PassesOwn.never rfl (zb2 (dv 1)) (zck rfl (zbc (zcb 2 5 zmx.nd) (zbc (zcb 4 5 zmx.nd) zcl))) (zan (zij (pv 3) (dv 2) (dv 4))))
  (zan (zg4 3))))
theorem z1j {a : Wa} (W : Wd K mg a) : zax P w K mg base CX0 1 a.f_44 a.fd_44 ["sheet","thing","truth"] (spD ⟨K,cl a⟩ ["sheet","thing","truth"].length zp8) :=
 zbt (k:=0) (N:=["sheet","thing","truth","other"]) (F:=b_44) W.F_44 zti fun cdv A outer s H E hr=>by
  unfold b_44
  exact (zaj (zfj 3 zti.nd (zhv boot_list rfl W.z_list (dvC 0)))
  (zaj (zij (pv 3) (dv 1) (dv 2))
  (zan (zg4 3))))
theorem z81 {a : Wa} (W : Wd K mg a) : zax P w K mg base CX0 1 a.f_55 a.fd_55 ["sheet","bar"] (spD ⟨K,cl a⟩ ["sheet","bar"].length zpn) :=
 zbt (k:=0) (N:=["sheet","bar"]) (F:=b_55) W.F_55 z87 fun cdv A outer s H E hr=>have hu:=hr.units; by
  unfold b_55
  exact (zan (zaw (zb3 (zle rfl) zme rfl W.z_all boot_all (zbb (DE.db (DO.de (zcc 2 [0] ["thing","truth","sheet"] rfl (DI.de (zb2 (dv 1))) (fun _ _ _ _ _=>(zck rfl (zbc (dgc 0 2) (zbc (dgc 1 2) zcl)))) (fun _ _ _ _ _=>zcm) (fun _ _ _ _ _=>(zb6 (zbi hu) zbh (DE.db (zah (zc8 2) (dvc 0))) (DE.db (dvc 1))))))) zbw))))
theorem zpi {a : Wa} (W : Wd K mg a) : zax P w K mg base CX0 1 a.f_4 a.fd_4 ["listed","number"] (spD ⟨K,cl a⟩ ["listed","number"].length m_4) :=
 zbt (k:=0) (N:=["listed","number"]) (F:=b_4) W.F_4 z8n fun cdv A outer s H E hr=>by
  unfold b_4
  exact (zan (zaw (z22 zny zmk zha zhg (DE.db zae) (DE.db (dv 1)) (DE.db (zb3 zc7 zc5 rfl W.z_len PySem.boot_len (zbb (DE.db (dv 0)) zbw))))))
theorem zuq {a : Wa} (W : Wd K mg a) : zax P w K mg base CX0 1 a.f_8 a.fd_8 ["many","some"] (spD ⟨K,cl a⟩ ["many","some"].length m_8) :=
 zbt (k:=0) (N:=["many","some","listed","thing"]) (F:=b_8) W.F_8 zq6 fun cdv A outer s H E hr=>have hu:=hr.units; by
  unfold b_8
  exact (zaj (z4m 2 zq6.nd)
  (zaj (zd4 PassesOwn.never rfl (zb2 (dv 1)) (zcb 3 4 zq6.nd) (zan (zy7 hu (pv 2) (dv 3) zbz)))
  (zan (zg5 2 (zlg (zcc 1 [2] ["thing","listed"] rfl (DI.de (zeu rfl W.z_range (zac (dv 0) zag))) (fun _ _ _ _ _=>(dgc 0 1)) (fun _ _ _ _ _=>zcm) (fun _ _ _ _ _=>(z8c hu (dvc 0) (dvc 1)))))))))
theorem z8b {a : Wa} (W : Wd K mg a) : zax P w K mg base CX0 1 a.f_56 a.fd_56 ["sheet","things"] (spD ⟨K,cl a⟩ ["sheet","things"].length zpz) :=
 zbt (k:=0) (N:=["sheet","things"]) (F:=b_56) W.F_56 z1x fun cdv A outer s H E hr=>by
  unfold b_56
  exact (zan (zaw (zb3 (zhm rfl) zhx rfl W.z_any boot_any (zbb (DE.db (DO.de (zcc 1 [0] ["thing","sheet"] rfl (DI.de (zb2 (dv 1))) (fun _ _ _ _ _=>(dgc 0 1)) (fun _ _ _ _ _=>zcm) (fun _ _ _ _ _=>(zb6 zdw zdv (DE.db (zah (zc8 1) (dvc 0))) (DE.db zbz)))))) zbw))))
theorem zzi {a : Wa} (W : Wd K mg a) : zax P w K mg base CX0 1 a.f_16 a.fd_16 ["self","sheet","without"] (spD ⟨K,cl a⟩ ["self","sheet","without"].length m_16) :=
 zbt (k:=0) (N:=["self","sheet","without"]) (F:=b_16) W.F_16 z7n fun cdv A outer s H E hr=>by
  unfold b_16
  exact (zan (zaw (zvc (zb6 zdw zdv (DE.db (zah (dvC 1) (ze3 "In" (zk1 W) (zne W) (dv 0)))) (DE.db zbz)) (zfx (zah (dvC 2) (ze3 "In" (zk1 W) (zne W) (dv 0)))))))
theorem zyx {a : Wa} (W : Wd K mg a) : zax P w K mg base CX0 1 a.f_51 a.fd_51 ["items","without"] (spD ⟨K,cl a⟩ ["items","without"].length zrm) :=
 zbt (k:=0) (N:=["items","without"]) (F:=b_51) W.F_51 z60 fun cdv A outer s H E hr=>by
  unfold b_51
  exact (zan (zlg (zcc 1 [1] ["item","without"] rfl (DI.de (zb2 (dv 0))) (fun _ _ _ _ _=>(dgc 0 1)) (fun _ _ _ _ _=>(zdy (zfa (zcz (DE.db (zah (zc8 1) (zah (zc8 0) zae))))))) (fun _ _ _ _ _=>(dvc 0)))))
theorem zvq {a : Wa} (W : Wd K mg a) : zax P w K mg base CX0 1 a.f_20 a.fd_20 ["items","sheet"] (spD ⟨K,cl a⟩ ["items","sheet"].length zld) :=
 zbt (k:=0) (N:=["items","sheet"]) (F:=b_20) W.F_20 zzw fun cdv A outer s H E hr=>by
  unfold b_20
  exact (zan (zaw (zb3 (zgy rfl) zgr rfl W.z_sum boot_sum (zbb (DE.db (DO.de (zcc 2 [1] ["thing","worth","sheet"] rfl (DI.de (zb2 (dv 0))) (fun _ _ _ _ _=>(zck rfl (zbc (dgc 0 2) (zbc (dgc 1 2) zcl)))) (fun _ _ _ _ _=>(zdy (za0 zf4 zft (DE.db (zah (zc8 2) (dvc 0))) (DE.db zbz)))) (fun _ _ _ _ _=>(dvc 1))))) zbw))))
theorem zyr {a : Wa} (W : Wd K mg a) : zax P w K mg base CX0 2 a.f_18 a.fd_18 ["self","sheet","without"] (spD ⟨K,cl a⟩ ["self","sheet","without"].length m_18) :=
 zbt (k:=1) (N:=["self","sheet","without"]) (F:=b_18) W.F_18 zxi fun cdv A outer s H E hr=>by
  unfold b_18
  exact (zan (zaw (zb6 zha zhg (DE.db (zbp (zvq W) (hr.mono (by decide)) rfl W.g_20 W.F_20.kp W.b_20 (zac (zbp (zyx W) (hr.mono (by decide)) rfl W.g_51 W.F_51.kp W.b_51 (zac (ze3 "Least" (zhr W) (zpp W) (dv 0)) (zac (dv 2) zag))) (zac (dv 1) zag)))) (DE.db (ze3 "Least" (zhr W) (zqs W) (dv 0))))))
theorem zu5 {a : Wa} (W : Wd K mg a) : zax P w K mg base CX0 1 a.f_30 a.fd_30 ["items","entries"] (spD ⟨K,cl a⟩ ["items","entries"].length zno) :=
 zbt (k:=0) (N:=["items","entries"]) (F:=b_30) W.F_30 zxu fun cdv A outer s H E hr=>by
  unfold b_30
  exact (zan (zaw (zb3 (zgy rfl) zgr rfl W.z_sum boot_sum (zbb (DE.db (DO.de (zcc 2 [1] ["thing","worth","entries"] rfl (DI.de (zb2 (dv 0))) (fun _ _ _ _ _=>(zck rfl (zbc (dgc 0 2) (zbc (dgc 1 2) zcl)))) (fun _ _ _ _ _=>(zdy (za0 zdw zdv (DE.db (zah (zc8 2) (dvc 0))) (DE.db zbz)))) (fun _ _ _ _ _=>(dvc 1))))) zbw))))
theorem zyo {a : Wa} (W : Wd K mg a) : zax P w K mg base CX0 2 a.f_19 a.fd_19 ["self","sheet","without"] (spD ⟨K,cl a⟩ ["self","sheet","without"].length m_19) :=
 zbt (k:=1) (N:=["self","sheet","without"]) (F:=b_19) W.F_19 z42 fun cdv A outer s H E hr=>by
  unfold b_19
  exact (zan (zaw (zb6 zkj zi6 (DE.db (zbp (zu5 W) (hr.mono (by decide)) rfl W.g_30 W.F_30.kp W.b_30 (zac (ze3 "Most" (zhw W) (zqq W) (dv 0)) (zac (dv 1) zag)))) (DE.db (ze3 "Most" (zhw W) (zop W) (dv 0))))))
theorem z44 {a : Wa} (W : Wd K mg a) : zax P w K mg base CX0 1 a.f_17 a.fd_17 ["self","sheet","without"] (spD ⟨K,cl a⟩ ["self","sheet","without"].length m_17) :=
 zbt (k:=0) (N:=["self","sheet","without"]) (F:=b_17) W.F_17 z8t fun cdv A outer s H E hr=>by
  unfold b_17
  exact (zan (zaw (zb6 zdw zdv (DE.db (zah (dvC 1) (ze3 "Out" (zmd W) (zry W) (dv 0)))) (DE.db zbz))))
theorem z8r {a : Wa} (W : Wd K mg a) : zax P w K mg base CX0 1 a.f_58 a.fd_58 ["self","thing"] (spI ⟨K,cl a⟩ "In" ["self","thing"].length zs6) :=
 zmt (k:=0) (N:=["self","thing"]) (cn:="In") W.F_58 zw3 fun cdv A outer s H E hr=>(zjy (zk1 W) (zne W) (pv 0) (dv 1) zmp)
theorem zwn {a : Wa} (W : Wd K mg a) : zax P w K mg base CX0 1 a.f_60 a.fd_60 ["self","bound","items"] (spI ⟨K,cl a⟩ "Least" ["self","bound","items"].length zvl) :=
 zmt (k:=0) (N:=["self","bound","items"]) (cn:="Least") W.F_60 z6q fun cdv A outer s H E hr=>(zjy (zhr W) (zqs W) (pv 0) (dv 1) (zjy (zhr W) (zpp W) (pv 0) (DO.de (zhv boot_list rfl W.z_list (dvC 2))) zmp))
theorem zw7 {a : Wa} (W : Wd K mg a) : zax P w K mg base CX0 1 a.f_61 a.fd_61 ["self","bound","items"] (spI ⟨K,cl a⟩ "Most" ["self","bound","items"].length zvg) :=
 zmt (k:=0) (N:=["self","bound","items"]) (cn:="Most") W.F_61 z3b fun cdv A outer s H E hr=>(zjy (zhw W) (zop W) (pv 0) (dv 1) (zjy (zhw W) (zqq W) (pv 0) (DO.de (zhv boot_list rfl W.z_list (dvC 2))) zmp))
theorem zw4 {a : Wa} (W : Wd K mg a) : zax P w K mg base CX0 1 a.f_59 a.fd_59 ["self","thing"] (spI ⟨K,cl a⟩ "Out" ["self","thing"].length zsk) :=
 zmt (k:=0) (N:=["self","thing"]) (cn:="Out") W.F_59 z7x fun cdv A outer s H E hr=>(zjy (zmd W) (zry W) (pv 0) (dv 1) zmp)
theorem z1d {a : Wa} (W : Wd K mg a) : zax P w K mg base CX0 3 a.f_48 a.fd_48 ["told"] (spD ⟨K,cl a⟩ ["told"].length zo1) :=
 zbt (k:=2) (N:=["told","word"]) (F:=b_48) W.F_48 zsl fun cdv A outer s H E hr=>have hu:=hr.units; by
  unfold b_48
  exact (zaj (zb5 1 zsl.nd (zah (dvC 0) zae))
  (zaj (zbf (za0 (zbi hu) zbh (DE.db (dv 1)) (DE.db zbq)) (zan (zaw (znc "In" (z3d W) (z8r W) (hr.mono (by decide)) rfl (z7t W) W.b_58 (zac (zah (dvC 0) zae) zag)))) zbj)
  (zaj (zbf (za0 (zbi hu) zbh (DE.db (dv 1)) (DE.db zbq)) (zan (zaw (znc "Out" (z0t W) (zw4 W) (hr.mono (by decide)) rfl (zx7 W) W.b_59 (zac (zah (dvC 0) zae) zag)))) zbj)
  (zaj (zbf (za0 (zbi hu) zbh (DE.db (dv 1)) (DE.db zbq)) (zan (zaw (znc "Least" (z0a W) (zwn W) (hr.mono (by decide)) rfl (z49 W) W.b_60 (zac (zah (dvC 0) zae) (zac (zah (dvC 0) zae) zag))))) zbj)
  (zan (zaw (znc "Most" (z71 W) (zw7 W) (hr.mono (by decide)) rfl (z0r W) W.b_61 (zac (zah (dvC 0) zae) (zac (zah (dvC 0) zae) zag)))))))))
theorem ztc {a : Wa} (W : Wd K mg a) : zax P w K mg base CX0 4 a.f_31 a.fd_31 ["rule"] (spD ⟨K,cl a⟩ ["rule"].length zmq) :=
 zbt (k:=3) (N:=["rule"]) (F:=b_31) W.F_31 z0k fun cdv A outer s H E hr=>by
  unfold b_31
  exact (zan (zlg (zcc 1 [] ["told"] rfl (DI.de (zb2 (zah (dvC 0) zae))) (fun _ _ _ _ _=>(dgc 0 1)) (fun _ _ _ _ _=>zcm) (fun _ _ _ _ _=>(zbp (z1d W) (hr.mono (by decide)) (glc rfl) W.g_48 W.F_48.kp W.b_48 (zac (dvc 0) zag))))))
theorem zw5 {a : Wa} (W : Wd K mg a) : zax P w K mg base CX0 5 a.f_53 a.fd_53 ["rule","sheet","without"] (spD ⟨K,cl a⟩ ["rule","sheet","without"].length zqx) :=
 zbt (k:=4) (N:=["rule","sheet","without"]) (F:=b_53) W.F_53 z5e fun cdv A outer s H E hr=>by
  unfold b_53
  exact (zan (zaw (zb3 (zhm rfl) zhx rfl W.z_any boot_any (zbb (DE.db (DO.de (zcc 1 [1,2] ["part","sheet","without"] rfl (DI.de (zb2 (zbp (ztc W) (hr.mono (by decide)) rfl W.g_31 W.F_31.kp W.b_31 (zac (dv 0) zag)))) (fun _ _ _ _ _=>(dgc 0 1)) (fun _ _ _ _ _=>zcm) (fun _ _ _ _ _=>(DE.orE (zhs "In" (dvc 0) (zk1 W) (z5w W) (zzi W) (hr.mono (by decide)) W.b_16 (zac (dvc 1) (zac (dvc 2) zag))) (DE.orE (zhs "Out" (dvc 0) (zmd W) (z8q W) (z44 W) (hr.mono (by decide)) W.b_17 (zac (dvc 1) (zac (dvc 2) zag))) (DE.orE (zhs "Least" (dvc 0) (zhr W) (z7c W) (zyr W) (hr.mono (by decide)) W.b_18 (zac (dvc 1) (zac (dvc 2) zag))) (zhs "Most" (dvc 0) (zhw W) (z2p W) (zyo W) (hr.mono (by decide)) W.b_19 (zac (dvc 1) (zac (dvc 2) zag)))))))))) zbw))))
theorem z2g {a : Wa} (W : Wd K mg a) : zax P w K mg base CX0 6 a.f_45 a.fd_45 ["rule","sheet","without"] (spD ⟨K,cl a⟩ ["rule","sheet","without"].length zrd) :=
 zbt (k:=5) (N:=["rule","sheet","without","thing"]) (F:=b_45) W.F_45 zuf fun cdv A outer s H E hr=>by
  unfold b_45
  exact (zaj (zb5 3 zuf.nd (zah (dvC 0) zae))
  (zan (zaw (zf2 (zb6 zf4 zft (DE.db (dv 3)) (DE.db zea)) (zf2 (zah (dvC 2) (dv 3)) (zfx (zgp (zbp (zw5 W) (hr.mono (by decide)) rfl W.g_53 W.F_53.kp W.b_53 (zac (dv 0) (zac (dv 1) (zac (dv 2) zag)))))))))))
theorem zye {a : Wa} (W : Wd K mg a) : zax P w K mg base CX0 7 a.f_46 a.fd_46 ["plain","sheet","things"] (spD ⟨K,cl a⟩ ["plain","sheet","things"].length zqw) :=
 zbt (k:=6) (N:=["plain","sheet","things","without"]) (F:=b_46) W.F_46 zv1 fun cdv A outer s H E hr=>by
  unfold b_46
  exact (zaj (zb5 3 zv1.nd (zbp (zuq W) (hr.mono (by decide)) rfl W.g_8 W.F_8.kp W.b_8 (zac (zah (dvC 0) zae) (zac (dv 2) zag))))
  (zaj (zbf (zcz (DE.db (zb3 (zhm rfl) zhx rfl W.z_any boot_any (zbb (DE.db (DO.de (zcc 1 [1,3] ["rule","sheet","without"] rfl (DI.de (zb2 (zah (dvC 0) zae))) (fun _ _ _ _ _=>(dgc 0 1)) (fun _ _ _ _ _=>zcm) (fun _ _ _ _ _=>(zbp (z2g W) (hr.mono (by decide)) (glc rfl) W.g_45 W.F_45.kp W.b_45 (zac (dvc 0) (zac (dvc 1) (zac (dvc 2) zag)))))))) zbw)))) (zan (zaw zbz)) zbj)
  (zan (zaw (zbp (z8b W) (hr.mono (by decide)) rfl W.g_56 W.F_56.kp W.b_56 (zac (dv 1) (zac (dv 2) zag)))))))
theorem zxw {a : Wa} (W : Wd K mg a) : zax P w K mg base CX0 1 a.f_26 a.fd_26 ["self","sheet"] (spD ⟨K,cl a⟩ ["self","sheet"].length m_26) :=
 zbt (k:=0) (N:=["self","sheet"]) (F:=b_26) W.F_26 z14 fun cdv A outer s H E hr=>by
  unfold b_26
  exact (zan (zaw (zb6 zdw zdv (DE.db (zah (dvC 1) (ze3 "In" (zk1 W) (zne W) (dv 0)))) (DE.db zbz))))
theorem z2y {a : Wa} (W : Wd K mg a) : zax P w K mg base CX0 2 a.f_28 a.fd_28 ["self","sheet"] (spD ⟨K,cl a⟩ ["self","sheet"].length m_28) :=
 zbt (k:=1) (N:=["self","sheet"]) (F:=b_28) W.F_28 z9b fun cdv A outer s H E hr=>by
  unfold b_28
  exact (zan (zaw (zb6 zpf zqi (DE.db (zbp (zu5 W) (hr.mono (by decide)) rfl W.g_30 W.F_30.kp W.b_30 (zac (ze3 "Least" (zhr W) (zpp W) (dv 0)) (zac (dv 1) zag)))) (DE.db (ze3 "Least" (zhr W) (zqs W) (dv 0))))))
theorem z3t {a : Wa} (W : Wd K mg a) : zax P w K mg base CX0 2 a.f_29 a.fd_29 ["self","sheet"] (spD ⟨K,cl a⟩ ["self","sheet"].length m_29) :=
 zbt (k:=1) (N:=["self","sheet"]) (F:=b_29) W.F_29 z52 fun cdv A outer s H E hr=>by
  unfold b_29
  exact (zan (zaw (zb6 zny zmk (DE.db (zbp (zvq W) (hr.mono (by decide)) rfl W.g_20 W.F_20.kp W.b_20 (zac (ze3 "Most" (zhw W) (zqq W) (dv 0)) (zac (dv 1) zag)))) (DE.db (ze3 "Most" (zhw W) (zop W) (dv 0))))))
theorem zxd {a : Wa} (W : Wd K mg a) : zax P w K mg base CX0 1 a.f_27 a.fd_27 ["self","sheet"] (spD ⟨K,cl a⟩ ["self","sheet"].length m_27) :=
 zbt (k:=0) (N:=["self","sheet"]) (F:=b_27) W.F_27 z0p fun cdv A outer s H E hr=>by
  unfold b_27
  exact (zan (zaw (zb6 zdw zdv (DE.db (zah (dvC 1) (ze3 "Out" (zmd W) (zry W) (dv 0)))) (DE.db zbz))))
theorem zzt {a : Wa} (W : Wd K mg a) : zax P w K mg base CX0 5 a.f_52 a.fd_52 ["rule","sheet"] (spD ⟨K,cl a⟩ ["rule","sheet"].length zrr) :=
 zbt (k:=4) (N:=["rule","sheet"]) (F:=b_52) W.F_52 z9c fun cdv A outer s H E hr=>by
  unfold b_52
  exact (zan (zaw (zb3 (zle rfl) zme rfl W.z_all boot_all (zbb (DE.db (DO.de (zcc 1 [1] ["part","sheet"] rfl (DI.de (zb2 (zbp (ztc W) (hr.mono (by decide)) rfl W.g_31 W.F_31.kp W.b_31 (zac (dv 0) zag)))) (fun _ _ _ _ _=>(dgc 0 1)) (fun _ _ _ _ _=>zcm) (fun _ _ _ _ _=>(DE.orE (zhs "In" (dvc 0) (zk1 W) (z7l W) (zxw W) (hr.mono (by decide)) W.b_26 (zac (dvc 1) zag)) (DE.orE (zhs "Out" (dvc 0) (zmd W) (z66 W) (zxd W) (hr.mono (by decide)) W.b_27 (zac (dvc 1) zag)) (DE.orE (zhs "Least" (dvc 0) (zhr W) (z9e W) (z2y W) (hr.mono (by decide)) W.b_28 (zac (dvc 1) zag)) (zhs "Most" (dvc 0) (zhw W) (z3k W) (z3t W) (hr.mono (by decide)) W.b_29 (zac (dvc 1) zag))))))))) zbw))))
theorem z8o {a : Wa} (W : Wd K mg a) : zax P w K mg base CX0 6 a.f_54 a.fd_54 ["rule","sheet"] (spD ⟨K,cl a⟩ ["rule","sheet"].length zrf) :=
 zbt (k:=5) (N:=["rule","sheet"]) (F:=b_54) W.F_54 z4q fun cdv A outer s H E hr=>have hu:=hr.units; by
  unfold b_54
  exact (zaj (zbf (za0 (zbi hu) zbh (DE.db (zah (dvC 0) zae)) (DE.db zbq)) (zan (zaw zbz)) zbj)
  (zaj (zbf (DW.dt (zfe (za0 (zbi hu) zbh (DE.db (zah (dvC 0) zae)) (DE.db zbq)) (zgs (za0 zf4 zft (DE.db (zah (dvC 1) (zah (dvC 0) zae))) (DE.db zbz))))) (zan (zaw zbz)) zbj)
  (zan (zaw (zbp (zzt W) (hr.mono (by decide)) rfl W.g_52 W.F_52.kp W.b_52 (zac (dv 0) (zac (dv 1) zag)))))))
theorem zt8 {a : Wa} (W : Wd K mg a) : zax P w K mg base CX0 8 a.f_13 a.fd_13 ["plain","worlds","bars","sheet","why"] (spD ⟨K,cl a⟩ ["plain","worlds","bars","sheet","why"].length zm6) :=
 zbt (k:=7) (N:=["plain","worlds","bars","sheet","why","number"]) (F:=b_13) W.F_13 ztk fun cdv A outer s H E hr=>have hu:=hr.units; by
  unfold b_13
  exact (zaj (zbf (za0 (zbi hu) zbh (DE.db (zah (dvC 4) zae)) (DE.db zbq)) (zan (zaw (zbp (zye W) (hr.mono (by decide)) rfl W.g_46 W.F_46.kp W.b_46 (zac (dv 0) (zac (dv 3) (zac (zah (dvC 4) zae) zag)))))) zbj)
  (zaj (zb5 5 ztk.nd (zah (dvC 4) zae))
  (zaj (zbf (za0 (zbi hu) zbh (DE.db (zah (dvC 4) zae)) (DE.db zbq)) (zan (zaw (zf2 (zbp (zpi W) (hr.mono (by decide)) rfl W.g_4 W.F_4.kp W.b_4 (zac (zah (dvC 0) zae) (zac (dv 5) zag))) (zfx (zbp (z8o W) (hr.mono (by decide)) rfl W.g_54 W.F_54.kp W.b_54 (zac (zah (DE.dc (zah (dvC 0) zae)) (dv 5)) (zac (dv 3) zag))))))) zbj)
  (zaj (zbf (za0 (zbi hu) zbh (DE.db (zah (dvC 4) zae)) (DE.db zbq)) (zan (zaw (zf2 (zbp (zpi W) (hr.mono (by decide)) rfl W.g_4 W.F_4.kp W.b_4 (zac (dv 2) (zac (dv 5) zag))) (zfx (zbp (z81 W) (hr.mono (by decide)) rfl W.g_55 W.F_55.kp W.b_55 (zac (dv 3) (zac (zah (dvC 2) (dv 5)) zag))))))) zbj)
  (zan (zaw (zf2 (zb6 (zbi hu) zbh (DE.db (zah (dvC 4) zae)) (DE.db zbq)) (zf2 (zbp (zpi W) (hr.mono (by decide)) rfl W.g_4 W.F_4.kp W.b_4 (zac (dv 1) (zac (dv 5) zag))) (zfx (zb6 (zbi hu) zbh (DE.db (dv 3)) (DE.db (zbp (zuq W) (hr.mono (by decide)) rfl W.g_8 W.F_8.kp W.b_8 (zac (zah (dvC 0) zae) (zac (zah (dvC 1) (dv 5)) zag))))))))))))))
theorem zyg {a : Wa} (W : Wd K mg a) : zax P w K mg base CX0 9 a.f_47 a.fd_47 ["plain","worlds","bars","sheet","step"] (spD ⟨K,cl a⟩ ["plain","worlds","bars","sheet","step"].length zrx) :=
 zbt (k:=8) (N:=["plain","worlds","bars","sheet","step","pair"]) (F:=b_47) W.F_47 zt2 fun cdv A outer s H E hr=>by
  unfold b_47
  exact (zaj (zb5 5 zt2.nd (zah (dvC 4) zae))
  (zaj (zbf (za0 zdw zdv (DE.db (dv 5)) (DE.db zea)) (zan (zaw (zbp (zt8 W) (hr.mono (by decide)) rfl W.g_13 W.F_13.kp W.b_13 (zac (dv 0) (zac (dv 1) (zac (dv 2) (zac (dv 3) (zac (zah (dvC 4) zae) zag)))))))) zbj)
  (zaj (zbf (za0 zf4 zft (DE.db (zah (dvC 3) (zah (dvC 5) zae))) (DE.db zea)) (zan (zaw zbz)) zbj)
  (zan (zaw (zbp (zt8 W) (hr.mono (by decide)) rfl W.g_13 W.F_13.kp W.b_13 (zac (dv 0) (zac (dv 1) (zac (dv 2) (zac (zbp (z1j W) (hr.mono (by decide)) rfl W.g_44 W.F_44.kp W.b_44 (zac (dv 3) (zac (zah (dvC 5) zae) (zac (zgp (zah (dvC 5) zae)) zag)))) (zac (zah (dvC 4) zae) zag)))))))))))
theorem zxs {a : Wa} (W : Wd K mg a) : zax P w K mg base CX0 10 a.f_33 a.fd_33 ["plain","worlds","bars","sheet","steps"] (spD ⟨K,cl a⟩ ["plain","worlds","bars","sheet","steps"].length zqj) :=
 zbt (k:=9) (N:=["plain","worlds","bars","sheet","steps","after","place","step","ends"]) (F:=b_33) W.F_33 zmi fun cdv A outer s H E hr=>have hu:=hr.units; by
  unfold b_33
  exact (zaj (zfj 5 zmi.nd (zhv boot_list rfl W.z_list (dvC 3)))
  (zaj (zd4 PassesOwn.never rfl (zwr rfl W.z_enumerate (dv 4)) (zck rfl (zbc (zcb 6 9 zmi.nd) (zbc (zcb 7 9 zmi.nd) zcl))) (zaj (zb5 8 zmi.nd (zb6 zdw zdv (DE.db (zah (dvC 7) zae)) (DE.db zea)))
  (zaj (zbf (za0 (zgw hu) zg8 (DE.db (dv 8)) (DE.db (zb6 (zbi hu) zbh (DE.db (dv 6)) (DE.db (zb3 zc7 zc5 rfl W.z_len PySem.boot_len (zbb (DE.db (dv 4)) zbw)))))) (zan (zaw zbz)) zbj)
  (zaj (zbf (zfa (zcz (DE.db (zns (zyg W) (hr.mono (by decide)) rfl W.g_47 W.F_47.kp W.b_47 (zbb (DE.db (dv 0)) (zbb (DE.db (dv 1)) (zbb (DE.db (dv 2)) (zbb (dvB 5) (zbb (DE.db (dv 7)) zbw))))))))) (zan (zaw zbz)) zbj)
  (zan (zbf (zfa (zcz (DE.db (dv 8)))) (zan (zij (pv 5) (zah (DE.dc (zah (dvC 7) zae)) zae) (zah (DE.dc (zah (dvC 7) zae)) zae))) zbj))))))
  (zan (zaw (zb6 zkj zi6 (DE.db (zb3 zc7 zc5 rfl W.z_len PySem.boot_len (zbb (DE.db (dv 4)) zbw))) (DE.db zae))))))
theorem z7w {a : Wa} (W : Wd K mg a) : zax P w K mg base CX0 11 a.f_40 a.fd_40 ["plain","worlds","bars","line"] (spD ⟨K,cl a⟩ ["plain","worlds","bars","line"].length zqf) :=
 zbt (k:=10) (N:=["plain","worlds","bars","line","bar","things"]) (F:=b_40) W.F_40 zp1 fun cdv A outer s H E hr=>by
  unfold b_40
  exact (zaj (zb5 4 zp1.nd (zah (dvC 3) zae))
  (zaj (zf6 5 2 [] ["thing","truth"] zp1.nd rfl (DI.de (zb2 (dv 4))) (fun _ _ _ _ _=>(zck rfl (zbc (dgc 0 2) (zbc (dgc 1 2) zcl)))) (fun _ _ _ _ _=>zcm) (fun _ _ _ _ _=>(dvc 0)))
  (zaj (zbf (za0 zha zhg (DE.db (zzn rfl rfl W.z_len rfl W.z_set (dv 5))) (DE.db (zb3 zc7 zc5 rfl W.z_len PySem.boot_len (zbb (DE.db (dv 5)) zbw)))) (zan (zaw zbz)) zbj)
  (zan (zaw (zbp (zxs W) (hr.mono (by decide)) rfl W.g_33 W.F_33.kp W.b_33 (zac (dv 0) (zac (dv 1) (zac (dv 2) (zac (zbp (z5i W) (hr.mono (by decide)) rfl W.g_32 W.F_32.kp W.b_32 (zac (zah (dvC 0) zae) (zac (dv 4) zag))) (zac (zah (dvC 3) zae) zag)))))))))))
theorem zyj {a : Wa} (W : Wd K mg a) : zax P w K mg base CX0 12 a.f_41 a.fd_41 ["plain","worlds","paper"] (spD ⟨K,cl a⟩ ["plain","worlds","paper"].length zp2) :=
 zbt (k:=11) (N:=["plain","worlds","paper","bars","line"]) (F:=b_41) W.F_41 zq0 fun cdv A outer s H E hr=>have hu:=hr.units; by
  unfold b_41
  exact (zaj (zfj 3 zq0.nd (zby zag))
  (zaj (zd4 PassesOwn.never rfl (zb2 (dv 2)) (zcb 4 5 zq0.nd) (zaj (zbf (zfa (zcz (DE.db (zns (z7w W) (hr.mono (by decide)) rfl W.g_40 W.F_40.kp W.b_40 (zbb (DE.db (dv 0)) (zbb (DE.db (dv 1)) (zbb (dvB 3) (zbb (DE.db (dv 4)) zbw)))))))) (zan (zaw zbz)) zbj)
  (zan (zhk (ze7 (zfk PySem.F.plainAttrs_list PySem.F.slot_list_append PySem.F.type_list_append zgl (pv 3) (zdl (zah (dvC 4) zae) zd8)))))))
  (zan (zg5 3 (zaw (zf2 (zb6 zkj zi6 (DE.db (zb3 zc7 zc5 rfl W.z_len PySem.boot_len (zbb (DE.db (dv 3)) zbw))) (DE.db zae)) (zfx (zb6 (zbi hu) zbh (DE.db (zb3 zc7 zc5 rfl W.z_len PySem.boot_len (zbb (DE.db (zah (dvC 3) (zf8 zae))) zbw))) (DE.db zae)))))))))
theorem z4u {a : Wa} (W : Wd K mg a) : zax P w K mg base CX0 13 a.f_39 a.fd_39 ["_law_many","_law_rules","_law_sets","_law_lines"] (spD ⟨K,cl a⟩ ["_law_many","_law_rules","_law_sets","_law_lines"].length zpm) :=
 zbt (k:=12) (N:=["_law_many","_law_rules","_law_sets","_law_lines","_law_handed","_law_mine","_law_found"]) (F:=b_39) W.F_39 znn fun cdv A outer s H E hr=>have hu:=hr.units; by
  unfold b_39
  exact (zaj (zb5 4 znn.nd (DO.de (zby (zac (zbu (zac (dv 0) (zac (zbp (z2u W) (hr.mono (by decide)) rfl W.g_9 W.F_9.kp W.b_9 (zac (dv 1) zag)) zag))) (zac (DO.de (zcc 1 [] ["_law_one"] rfl (DI.de (zb2 (dv 2))) (fun _ _ _ _ _=>(dgc 0 1)) (fun _ _ _ _ _=>zcm) (fun _ _ _ _ _=>(DO.de (zhv boot_list (glc rfl) W.z_list (zc8 0)))))) zag)))))
  (zaj (zf6 5 2 [] ["_law_bar","_law_steps"] znn.nd rfl (DI.de (zb2 (dv 3))) (fun _ _ _ _ _=>(zck rfl (zbc (dgc 0 2) (zbc (dgc 1 2) zcl)))) (fun _ _ _ _ _=>zcm) (fun _ _ _ _ _=>(zbu (zac (DO.de (zhv boot_list (glc rfl) W.z_list (zc8 0))) (zac (zbp (zxp W) (hr.mono (by decide)) (glc rfl) W.g_37 W.F_37.kp W.b_37 (zac (dvc 1) zag)) zag)))))
  (zaj (zb5 6 znn.nd (zbp (zyj W) (hr.mono (by decide)) rfl W.g_41 W.F_41.kp W.b_41 (zac (zah (dvC 4) zae) (zac (zah (dvC 4) zae) (zac (dv 5) zag)))))
  (zaj (zbf (DW.dt (zf7 (zfa (zcz (DE.db (z8h (T:="bool") (z4e W) rfl W.z_isinstance boot_bool rfl W.z_bool (DE.db (dv 6)))))) (zge (za0 (zgw hu) zg8 (DE.db (dv 6)) (DE.db (zbp (zx4 W) (hr.mono (by decide)) rfl W.g_38 W.F_38.kp W.b_38 (zac (dv 0) (zac (dv 1) (zac (dv 2) (zac (dv 3) zag)))))))))) (zan (zaw zbz)) zbj)
  (zan (zaw (zf2 (zb6 (zbi hu) zbh (DE.db (dv 4)) (DE.db (DO.de (zby (zac (zbu (zac (dv 0) (zac (dv 1) zag))) (zac (dv 2) zag)))))) (zfx (zb6 (zbi hu) zbh (DE.db (dv 5)) (DE.db (dv 3)))))))))))
theorem zlj {a : Wa} (W : Wd K mg a) : zax P w K mg base CX0 1 a.f_0 a.fd_0 ["_law_cell","_law_many"] (spD ⟨K,cl a⟩ ["_law_cell","_law_many"].length m_0) :=
 zbt (k:=0) (N:=["_law_cell","_law_many","_law_found","_law_number","_law_k"]) (F:=b_0) W.F_0 zly fun cdv A outer s H E hr=>by
  unfold b_0
  exact (zaj (zfj 2 zly.nd (zby zag))
  (zaj (zb5 3 zly.nd (zay zdk (zay zfv (zay zb9 (dv 0) zae) zae) zae))
  (zaj (zd4 PassesOwn.never rfl (zeu rfl W.z_range (zac (dv 1) zag)) (zcb 4 5 zly.nd) (zaj (zb5 3 zly.nd (zay zb9 (zay zdk (zay zdk (zay zfv (dv 3) (zay zdk (dv 3) zae)) (zay zfv zae (dv 4))) zae) zae))
  (zan (zhk (ze7 (zfk PySem.F.plainAttrs_list PySem.F.slot_list_append PySem.F.type_list_append zgl (pv 2) (zdl (dv 3) zd8)))))))
  (zan (zg4 2)))))
theorem z58 {a : Wa} (W : Wd K mg a) : zax P w K mg base CX0 2 a.f_10 a.fd_10 ["_law_cell","_law_rules","_law_sets","_law_lines","_law_sheet"] (spM ⟨K,cl a⟩ 3 ["_law_cell","_law_rules","_law_sets","_law_lines","_law_sheet"].length znt) :=
 zug (k:=1) (N:=["_law_cell","_law_rules","_law_sets","_law_lines","_law_sheet","_law_xs","_law_word"]) (F:=b_10) W.F_10 zri fun cdv A outer s H E hr=>have hu:=hr.units; by
  unfold b_10
  exact (zaj (zb5 5 zri.nd (zbp (zlj W) (hr.mono (by decide)) rfl W.g_0 W.F_0.kp W.b_0 (zac (dv 0) (zac zae zag))))
  (zaj (zb5 6 zri.nd (zah (DO.dc (zby (zac zbq (zac zbq (zac zbq (zac zbq zag)))))) (zay zb9 (zah (dvC 5) zae) zae)))
  (zaj (zbf (za0 (zbi hu) zbh (DE.db (dv 6)) (DE.db zbq)) (zan (zwc (zbu (zac (dv 6) (zac (DO.de (zcc 2 [5] ["_law_thing","_law_entry","_law_xs"] rfl (DI.de (zit rfl W.z_enumerate (zac (dv 4) zag))) (fun _ _ _ _ _=>(zck rfl (zbc (dgc 0 2) (zbc (dgc 1 2) zcl)))) (fun _ _ _ _ _=>(zdy (DW.dt (zf7 (za0 zdw zdv (DE.db (dvc 1)) (DE.db zbz)) (zge (za0 (zbi hu) zbh (DE.db (zay zb9 (zay zhz (zah (zc8 2) zae) (zay zdk (dvc 0) zae)) zae)) (DE.db zae))))))) (fun _ _ _ _ _=>(dvc 0)))) zag))))) zbj)
  (zan (zwc (zbu (zac (dv 6) (zac (zay zb9 (zah (dvC 5) zae) (zay zdk zae (z2o "rule" "bar" "world" hu (zb3 zc7 zc5 rfl W.z_len PySem.boot_len (zbb (DE.db (dv 1)) zbw)) (zb3 zc7 zc5 rfl W.z_len PySem.boot_len (zbb (zp7 3) zbw)) (zb3 zc7 zc5 rfl W.z_len PySem.boot_len (zbb (DE.db (dv 2)) zbw)) (dv 6) (fun _ _=>rfl) (fun _ _ _=>rfl) (fun _ _ _=>rfl) (fun _ _ _=>rfl)))) zag))))))))
theorem z35 {a : Wa} (W : Wd K mg a) : zax P w K mg base CX0 3 a.f_14 a.fd_14 ["_law_rules","_law_sheet"] (spD ⟨K,cl a⟩ ["_law_rules","_law_sheet"].length zrw) :=
 zbt (k:=2) (N:=["_law_rules","_law_sheet","_law_left","_law_going","_law_rule_here"]) (F:=b_14) W.F_14 zkd fun cdv A outer s H E hr=>by
  unfold b_14
  exact (zaj (zoh 2 1 [] ["_law_entry"] zkd.nd rfl (DI.de (zb2 (dv 1))) (fun _ _ _ _ _=>(dgc 0 1)) (fun _ _ _ _ _=>zcm) (fun _ _ _ _ _=>(zb6 zf4 zft (DE.db (dvc 0)) (DE.db zbz))))
  (zaj (zb5 3 zkd.nd zbz)
  (zaj (z6g 1000000000 PassesOwn.never (zcz (DE.db (dv 3))) (zaj (zb5 3 zkd.nd zbz)
  (zan (zd4 PassesOwn.never rfl (zb2 (dv 0)) (zcb 4 5 zkd.nd) (zan (zbf (zcz (DE.db (zns (zwf W) (hr.mono (by decide)) rfl W.g_22 W.F_22.kp W.b_22 (zbb (DE.db (dv 4)) (zbb (DE.db (dv 1)) (zbb (dvB 2) zbw)))))) (zaj (zij (pv 2) (zah (dvC 4) zae) zbz)
  (zan (zb5 3 zkd.nd zbz))) zbj))))))
  (zan (zg4 2)))))
theorem z3q {a : Wa} (W : Wd K mg a) : zax P w K mg base CX0 4 a.f_23 a.fd_23 ["_law_rules","_law_sets","_law_bars","_law_sheet"] (spD ⟨K,cl a⟩ ["_law_rules","_law_sets","_law_bars","_law_sheet"].length zos) :=
 zbt (k:=3) (N:=["_law_rules","_law_sets","_law_bars","_law_sheet","_law_found","_law_left","_law_mine"]) (F:=b_23) W.F_23 zob fun cdv A outer s H E hr=>by
  unfold b_23
  exact (zaj (zoh 4 2 [3] ["_law_k","_law_rule_here","_law_sheet"] zob.nd rfl (DI.de (zit rfl W.z_enumerate (zac (dv 0) zag))) (fun _ _ _ _ _=>(zck rfl (zbc (dgc 0 2) (zbc (dgc 1 2) zcl)))) (fun _ _ _ _ _=>(zdy (zcz (DE.db (zbp (zql W) (hr.mono (by decide)) (glc rfl) W.g_6 W.F_6.kp W.b_6 (zac (dvc 1) (zac (dvc 2) zag))))))) (fun _ _ _ _ _=>(zbu (zac zbq (zac (dvc 0) zag)))))
  (zaj (zr0 (ze7 (zfk PySem.F.plainAttrs_list PySem.F.slot_list_extend PySem.F.type_list_extend zun (pv 4) (zdl (DO.de (zcc 2 [3] ["_law_k","_law_bar","_law_sheet"] rfl (DI.de (zit rfl W.z_enumerate (zac (dv 2) zag))) (fun _ _ _ _ _=>(zck rfl (zbc (dgc 0 2) (zbc (dgc 1 2) zcl)))) (fun _ _ _ _ _=>(zdy (zcz (DE.db (zbp (zse W) (hr.mono (by decide)) (glc rfl) W.g_35 W.F_35.kp W.b_35 (zac (dvc 2) (zac (dvc 1) zag))))))) (fun _ _ _ _ _=>(zbu (zac zbq (zac (dvc 0) zag)))))) zd8))))
  (zaj (zr0 (ze7 (zfk PySem.F.plainAttrs_list PySem.F.slot_list_extend PySem.F.type_list_extend zun (pv 4) (zdl (DO.de (zcc 1 [0,1,2,3] ["_law_k","_law_rules","_law_sets","_law_bars","_law_sheet"] rfl (DI.de (zeu rfl W.z_range (zac (zb3 zc7 zc5 rfl W.z_len PySem.boot_len (zbb (DE.db (dv 1)) zbw)) zag))) (fun _ _ _ _ _=>(dgc 0 1)) (fun _ _ _ _ _=>(zdy (zcz (DE.db (zbp (zo2 W) (hr.mono (by decide)) (glc rfl) W.g_3 W.F_3.kp W.b_3 (zac (dvc 1) (zac (dvc 2) (zac (dvc 3) (zac (dvc 4) (zac (zbu (zac zbq (zac (dvc 0) zag))) zag)))))))))) (fun _ _ _ _ _=>(zbu (zac zbq (zac (dvc 0) zag)))))) zd8))))
  (zaj (zb5 5 zob.nd (zbp (z35 W) (hr.mono (by decide)) rfl W.g_14 W.F_14.kp W.b_14 (zac (dv 0) (zac (dv 3) zag))))
  (zaj (zf6 6 2 [] ["_law_thing","_law_gone"] zob.nd rfl (DI.de (zit rfl W.z_enumerate (zac (dv 5) zag))) (fun _ _ _ _ _=>(zck rfl (zbc (dgc 0 2) (zbc (dgc 1 2) zcl)))) (fun _ _ _ _ _=>(zdy (zcz (DE.db (dvc 1))))) (fun _ _ _ _ _=>(dvc 0)))
  (zaj (zbf (zcz (DE.db (zb3 (zhm rfl) zhx rfl W.z_any boot_any (zbb (DE.db (DO.de (zcc 1 [3] ["_law_thing","_law_sheet"] rfl (DI.de (zb2 (dv 6))) (fun _ _ _ _ _=>(dgc 0 1)) (fun _ _ _ _ _=>zcm) (fun _ _ _ _ _=>(zb6 zdw zdv (DE.db (zah (zc8 1) (dvc 0))) (DE.db zbz)))))) zbw)))) (zan (zhk (ze7 (zfk PySem.F.plainAttrs_list PySem.F.slot_list_append PySem.F.type_list_append zgl (pv 4) (zdl (zbu (zac zbq (zac (dv 6) zag))) zd8))))) zbj)
  (zan (zg4 4))))))))
theorem zqc {a : Wa} (W : Wd K mg a) : ∀ j,zax P w K mg base CX0 (5 + j) a.f_1 a.fd_1 ["_law_rules","_law_sets","_law_sheet","_law_bar","_law_lines","_law_cell"] (spM ⟨K,cl a⟩ 4 ["_law_rules","_law_sets","_law_sheet","_law_bar","_law_lines","_law_cell"].length (m_1 j))
 | 0=>zy1 (k:=4) (N:=["_law_rules","_law_sets","_law_sheet","_law_bar","_law_lines","_law_cell","_law_xs","_law_thing","_law_things","_law_whys_here","_law_truth","_law_one"]) W.F_1 zgq
 | j + 1=>zug (k:=5 + j) (N:=["_law_rules","_law_sets","_law_sheet","_law_bar","_law_lines","_law_cell","_law_xs","_law_thing","_law_things","_law_whys_here","_law_truth","_law_one"]) (F:=b_1 (m_1 j)) W.F_1 zgq fun cdv A outer s H E hr=>have hu:=hr.units; by
  unfold b_1
  exact (zaj (zb5 6 zgq.nd (zbp (zlj W) (hr.mono (by omega)) rfl W.g_0 W.F_0.kp W.b_0 (zac (dv 5) (zac zae zag))))
  (zaj (zf6 8 2 [] ["_law_thing","_law_entry"] zgq.nd rfl (DI.de (zit rfl W.z_enumerate (zac (dv 2) zag))) (fun _ _ _ _ _=>(zck rfl (zbc (dgc 0 2) (zbc (dgc 1 2) zcl)))) (fun _ _ _ _ _=>(zdy (za0 zdw zdv (DE.db (dvc 1)) (DE.db zea)))) (fun _ _ _ _ _=>(dvc 0)))
  (zaj (zb5 9 zgq.nd (zbp (z3q W) (hr.mono (by omega)) rfl W.g_23 W.F_23.kp W.b_23 (zac (dv 0) (zac (dv 1) (zac (DO.de (zcc 1 [] ["_law_line"] rfl (zy3 4) (fun _ _ _ _ _=>(dgc 0 1)) (fun _ _ _ _ _=>zcm) (fun _ _ _ _ _=>(zah (zc8 0) zae)))) (zac (dv 2) zag))))))
  (zan (zbf (DW.dt (zf7 (za0 (zbi hu) zbh (DE.db (dv 8)) (DE.db (DO.de (zby zag)))) (zge (DW.dt (zfe (za0 (zgw hu) zg8 (DE.db (dv 9)) (DE.db (DO.de (zby zag)))) (zgs (za0 zkj zi6 (DE.db (zay zb9 (zah (dvC 6) zae) zae)) (DE.db zae)))))))) (zaj (zbf (za0 (zbi hu) zbh (DE.db (dv 9)) (DE.db (DO.de (zby zag)))) (zan (z5x 9 zgq.nd (zqn (z58 W) (hr.mono (by omega)) rfl W.g_10 W.F_10.kp W.b_10 (zeo (zah (dvC 6) zae) (zeo (dv 0) (zeo (dv 1) (zmz 4 (zac (dv 2) zag)))))))) zbj)
  (zan (ztq (ze7 (zfk PySem.F.plainAttrs_list PySem.F.slot_list_append PySem.F.type_list_append zgl (pv 4) (zdl (zbu (zac (dv 3) (zac (DO.de (zby (zac (zbu (zac zea (zac (zah (dvC 9) (zay zb9 (zah (dvC 6) zae) (zb3 zc7 zc5 rfl W.z_len PySem.boot_len (zbb (DE.db (dv 9)) zbw)))) zag))) zag))) zag))) zd8)))))) (zaj (zb5 7 zgq.nd (zah (dvC 8) (zay zb9 (zah (dvC 6) zae) (zb3 zc7 zc5 rfl W.z_len PySem.boot_len (zbb (DE.db (dv 8)) zbw)))))
  (zaj (zb5 10 zgq.nd (zb6 (zbi hu) zbh (DE.db (zay zb9 (zah (dvC 6) zae) zae)) (DE.db zae)))
  (zaj (zrl (zqn (zqc W j) hr rfl W.g_1 W.F_1.kp W.b_1 (zeo (dv 0) (zeo (dv 1) (zeo (zbp (zrh W) (hr.mono (by omega)) rfl W.g_7 W.F_7.kp W.b_7 (zac (dv 2) (zac (dv 7) (zac (dv 10) zag)))) (zeo (DO.de (zds (dv 3) (DO.de (zby (zac (zbu (zac (dv 7) (zac (dv 10) zag))) zag))))) (zmz 4 (zac (zah (dvC 6) zae) zag))))))))
  (zaj (zb5 11 zgq.nd (zay zn9 (zb3 zc7 zc5 rfl W.z_len PySem.boot_len (zbb (zp7 4) zbw)) zae))
  (zaj (zrl (zqn (zqc W j) hr rfl W.g_1 W.F_1.kp W.b_1 (zeo (dv 0) (zeo (dv 1) (zeo (zbp (zrh W) (hr.mono (by omega)) rfl W.g_7 W.F_7.kp W.b_7 (zac (dv 2) (zac (dv 7) (zac (zgp (dv 10)) zag)))) (zeo (DO.de (zds (dv 3) (DO.de (zby (zac (zbu (zac (dv 7) (zac (zgp (dv 10)) zag))) zag))))) (zmz 4 (zac (zah (dvC 6) zae) zag))))))))
  (zan (ztq (ze7 (zfk PySem.F.plainAttrs_list PySem.F.slot_list_append PySem.F.type_list_append zgl (pv 4) (zdl (zbu (zac (dv 3) (zac (DO.de (zby (zac (zbu (zac (zbu (zac (dv 7) (zac (zgp (dv 10)) zag))) (zac (zbu (zac zbq (zac (dv 11) zag))) zag))) (zac (zbu (zac zea (zac (zbu (zac zbq (zac (zay zn9 (zb3 zc7 zc5 rfl W.z_len PySem.boot_len (zbb (zp7 4) zbw)) zae) zag))) zag))) zag)))) zag))) zd8)))))))))))))))
theorem zq8 {a : Wa} (W : Wd K mg a) : zax P w K mg base CX0 1 a.f_5 a.fd_5 ["_law_script","_law_k"] (spD ⟨K,cl a⟩ ["_law_script","_law_k"].length m_5) :=
 zbt (k:=0) (N:=["_law_script","_law_k"]) (F:=b_5) W.F_5 z4r fun cdv A outer s H E hr=>by
  unfold b_5
  exact (zaj (zbf (za0 zha zhg (DE.db (dv 1)) (DE.db (zb3 zc7 zc5 rfl W.z_len PySem.boot_len (zbb (DE.db (dv 0)) zbw)))) (zan (zaw (zah (dvC 0) (dv 1)))) zbj)
  (zan (zaw zae)))
theorem z0y {a : Wa} (W : Wd K mg a) : zax P w K mg base CX0 1 a.f_21 a.fd_21 ["_law_kind","_law_many"] (spO ⟨K,cl a⟩ ["_law_kind","_law_many"].length zoj) :=
 zwb (k:=0) (N:=["_law_kind","_law_many","_law_rules","_law_k","_law_on","_law_part_here"]) (F:=b_21) W.F_21 zlm fun cdv A outer s H E hr=>by
  unfold b_21
  exact (zaj (zfj 2 zlm.nd (zby zag))
  (zaj (zd4 PassesOwn.never rfl (zeu rfl W.z_range (zac (dv 1) zag)) (zcb 3 6 zlm.nd) (zaj (zb5 4 zlm.nd (zay zb9 (zay zdk (dv 3) zae) (dv 1)))
  (zaj (zb5 5 zlm.nd (zah (DO.dc (zby (zac zea (zac (zbu (zac zbq (zac (dv 3) zag))) (zac (zbu (zac zbq (zac (dv 3) zag))) (zac (zbu (zac zbq (zac zae (zac (DO.de (zby (zac (zbu (zac (dv 3) (zac zae zag))) (zac (zbu (zac (dv 4) (zac zae zag))) zag)))) zag)))) (zac (zbu (zac zbq (zac zae (zac (DO.de (zby (zac (zbu (zac (dv 3) (zac zae zag))) zag))) zag)))) zag))))))) (dv 0)))
  (zan (zbf (za0 zf4 zft (DE.db (dv 5)) (DE.db zea)) (zan (zhk (ze7 (zfk PySem.F.plainAttrs_list PySem.F.slot_list_append PySem.F.type_list_append zgl (pv 2) (zdl (zbu (zac (zah (DO.dc (zby (zac zbq (zac zbq zag)))) (zay zhz (zay zb9 (zay zfv (dv 3) (dv 0)) zae) zae)) (zac (dv 4) (zac (DO.de (zby (zac (dv 5) zag))) zag)))) zd8))))) zbj)))))
  (zan (zg4 2))))
theorem z7d {a : Wa} (W : Wd K mg a) : zax P w K mg base CX0 1 a.f_42 a.fd_42 ["_law_x"] (spD ⟨K,cl a⟩ ["_law_x"].length zmc) :=
 zbt (k:=0) (N:=["_law_x"]) (F:=b_42) W.F_42 z4t fun cdv A outer s H E hr=>have hu:=hr.units; by
  unfold b_42
  exact (zaj (zbf (za0 (zbi hu) zbh (DE.db (zay zb9 (dv 0) zae)) (DE.db zae)) (zan (zaw (zay zb9 (zay zfv (zay zfv (zay zfv (dv 0) (dv 0)) (dv 0)) (dv 0)) (zay zz2 zae zae)))) zbj)
  (zan (zaw (zah (DO.dc (zby (zac zae (zac zae (zac zae (zac zae (zac zae (zac zae (zac zae (zac zae zag)))))))))) (zay zb9 (zay zhz (dv 0) zae) zae)))))
theorem z5b {a : Wa} (W : Wd K mg a) : zax P w K mg base CX0 2 a.f_34 a.fd_34 ["_law_xs","_law_many"] (spD ⟨K,cl a⟩ ["_law_xs","_law_many"].length zn4) :=
 zbt (k:=1) (N:=["_law_xs","_law_many","_law_word","_law_items","_law_near"]) (F:=b_34) W.F_34 zna fun cdv A outer s H E hr=>have hu:=hr.units; by
  unfold b_34
  exact (zaj (zb5 2 zna.nd (zah (DO.dc (zby (zac zbq (zac zbq (zac zbq (zac zbq (zac zbq zag))))))) (zay zb9 (zah (dvC 0) zae) zae)))
  (zaj (zbf (DW.dt (zf7 (za0 (zbi hu) zbh (DE.db (dv 2)) (DE.db zbq)) (zge (za0 (zbi hu) zbh (DE.db (dv 2)) (DE.db zbq))))) (zan (zaw (zbu (zac (dv 2) (zac (zay zb9 (zah (dvC 0) zae) (dv 1)) zag))))) zbj)
  (zaj (zf6 3 1 [1,0] ["_law_k","_law_many","_law_xs"] zna.nd rfl (DI.de (zeu rfl W.z_range (zac (zay zb9 (zah (dvC 0) zae) zae) zag))) (fun _ _ _ _ _=>(dgc 0 1)) (fun _ _ _ _ _=>zcm) (fun _ _ _ _ _=>(zbu (zac (zay zb9 (zah (zc8 2) (zay zdk zae (zay zfv zae (dvc 0)))) (dvc 1)) (zac (zbp (z7d W) (hr.mono (by decide)) (glc rfl) W.g_42 W.F_42.kp W.b_42 (zac (zah (zc8 2) (zay zdk zae (zay zfv zae (dvc 0)))) zag)) zag)))))
  (zaj (zb5 4 zna.nd (zb3 (zgy rfl) zgr rfl W.z_sum boot_sum (zbb (DE.db (DO.de (zcc 2 [] ["_law_thing","_law_worth_here"] rfl (DI.de (zb2 (DO.de (by refine zc3 ?a ?b ?c; (case a=>exact (dv 3)); (case b=>exact zdg); (case c=>exact (zcu (zay zb9 (zah (dvC 0) zae) zae))))))) (fun _ _ _ _ _=>(zck rfl (zbc (dgc 0 2) (zbc (dgc 1 2) zcl)))) (fun _ _ _ _ _=>zcm) (fun _ _ _ _ _=>(dvc 1))))) zbw)))
  (zan (zaw (zbu (zac (dv 2) (zac (zay zn9 (zay zdk (dv 4) (zay zb9 (zay zhz (zah (dvC 0) zae) zae) zae)) zae) (zac (dv 3) zag))))))))))
theorem zz3 {a : Wa} (W : Wd K mg a) : zax P w K mg base CX0 3 a.f_43 a.fd_43 ["_law_cell","_law_many","_law_calm"] (spD ⟨K,cl a⟩ ["_law_cell","_law_many","_law_calm"].length zph) :=
 zbt (k:=2) (N:=["_law_cell","_law_many","_law_calm","_law_xs","_law_parts"]) (F:=b_43) W.F_43 zpl fun cdv A outer s H E hr=>have hu:=hr.units; by
  unfold b_43
  refine (zaj (zb5 3 zpl.nd (zbp (zlj W) (hr.mono (by decide)) rfl W.g_0 W.F_0.kp W.b_0 (zac (dv 0) (zac zae zag))))
  (zaj (zbf (za0 (zbi hu) zbh (DE.db (dv 1)) (DE.db zae)) ?hole0 zbj)
  (zaj (zf6 4 1 [1,3] ["_law_k","_law_many","_law_xs"] zpl.nd rfl (DI.de (zeu rfl W.z_range (zac (zah (DO.dc (zby (zac zae (zac zae (zac zae (zac zae (zac zae (zac zae zag)))))))) (zay zb9 (zah (dvC 3) zae) zae)) zag))) (fun _ _ _ _ _=>(dgc 0 1)) (fun _ _ _ _ _=>zcm) (fun _ _ _ _ _=>(zbp (z5b W) (hr.mono (by decide)) (glc rfl) W.g_34 W.F_34.kp W.b_34 (zac (DO.de (by refine zc3 ?a ?b ?c; (case a=>exact (dvc 2)); (case b=>exact (zcu (zay zdk zae (zay zfv zae (dvc 0))))); (case c=>exact (zcu (zay zdk zae (zay zfv zae (dvc 0))))))) (zac (dvc 1) zag)))))
  (zaj (zbf (DW.dt (zfe (za0 (zbi hu) zbh (DE.db (zay zb9 (zah (dvC 3) zae) zae)) (DE.db zae)) (zfe (zfa (zcz (DE.db (dv 2)))) (zgs (DW.dt (zf7 (za0 (zgw hu) zg8 (DE.db (dv 4)) (DE.db (DO.de (zby zag)))) (zge (za0 (zbi hu) zbh (DE.db (zay zb9 (zah (dvC 3) zae) zae)) (DE.db zae))))))))) (zan (zaw (zbu (zac zbq (zac zea (zac (dv 4) zag)))))) zbj)
  (zan (zaw (zbu (zac (zah (DO.dc (zby (zac zbq (zac zbq zag)))) (zay zb9 (zay zhz (zah (dvC 3) zae) zae) zae)) (zac (zay zb9 (zay zhz (zah (dvC 3) zae) zae) (dv 1)) (zac (dv 4) zag))))))))))
  (case hole0=>refine zan ?_; refine zaw ?_; refine zbu ?_; refine zac ?_ ?_; (focus exact zbq); refine zac ?_ ?_; (focus exact zea); refine zac ?_ ?_; (focus (refine DO.de ?_; exact (by refine zc3 ?a ?b ?c; (case a=>exact (DO.de (zby (zac (zbu (zac (zah (DO.dc (zby (zac zbq (zac zbq zag)))) (zay zb9 (zah (dvC 3) zae) zae)) (zac (zay zn9 (zay zb9 (zah (dvC 3) zae) zae) zae) (zac (DO.de (zby zag)) zag)))) zag)))); (case b=>exact zdg); (case c=>exact (zcu (zay zb9 (zah (dvC 3) zae) zae)))))); exact zag)
theorem z8i {a : Wa} (W : Wd K mg a) : zax P w K mg base CX0 1 a.f_12 a.fd_12 ["_law_line","_law_x"] (spD ⟨K,cl a⟩ ["_law_line","_law_x"].length zo0) :=
 zbt (k:=0) (N:=["_law_line","_law_x","_law_bar","_law_steps","_law_at","_law_pair","_law_why"]) (F:=b_12) W.F_12 zhp fun cdv A outer s H E hr=>have hu:=hr.units; by
  unfold b_12
  refine (zaj (zl6 (dv 0) (zck rfl (zbc (zcb 2 7 zhp.nd) (zbc (zcb 3 7 zhp.nd) zcl))))
  (zaj (zb5 4 zhp.nd (zay zb9 (dv 1) (zb3 zc7 zc5 rfl W.z_len PySem.boot_len (zbb (DE.db (dv 3)) zbw))))
  (zaj (zl6 (zah (dvC 3) (dv 4)) (zck rfl (zbc (zcb 5 7 zhp.nd) (zbc (zcb 6 7 zhp.nd) zcl))))
  (zaj (zbf (za0 (zbi hu) zbh (DE.db (zah (dvC 6) zae)) (DE.db zbq)) (zan (zb5 6 zhp.nd (zbu (zac zbq (zac (DO.de (by refine zc3 ?a ?b ?c; (case a=>exact (zah (dvC 6) zae)); (case b=>exact (zcu zae)); (case c=>exact zdg))) zag))))) (zan (zb5 6 zhp.nd (zbu (zac (zah (dvC 6) zae) (zac (zay zdk (zah (dvC 6) zae) zae) zag))))))
  ?hole0))))
  (case hole0=>refine zan ?_; refine zaw ?_; refine zbu ?_; refine zac ?_ ?_; (focus exact (dv 2)); refine zac ?_ ?_; (focus (refine DO.de ?_; exact (zds (DO.de (zds (DO.de (by refine zc3 ?a ?b ?c; (case a=>exact (dv 3)); (case b=>exact zdg); (case c=>exact (zcu (dv 4))))) (DO.de (zby (zac (zbu (zac (dv 5) (zac (dv 6) zag))) zag))))) (DO.de (by refine zc3 ?a ?b ?c; (case a=>exact (dv 3)); (case b=>exact (zcu (zay zdk (dv 4) zae))); (case c=>exact zdg)))))); exact zag)
theorem z4p {a : Wa} (W : Wd K mg a) : zax P w K mg base CX0 2 a.f_15 a.fd_15 ["_law_sets","_law_lines","_law_cell","_law_many"] (spD ⟨K,cl a⟩ ["_law_sets","_law_lines","_law_cell","_law_many"].length zrz) :=
 zbt (k:=1) (N:=["_law_sets","_law_lines","_law_cell","_law_many","_law_xs","_law_way","_law_at","_law_thing","_law_mine"]) (F:=b_15) W.F_15 zii fun cdv A outer s H E hr=>have hu:=hr.units; by
  unfold b_15
  refine (zaj (zb5 4 zii.nd (zbp (zlj W) (hr.mono (by decide)) rfl W.g_0 W.F_0.kp W.b_0 (zac (dv 2) (zac zae zag))))
  (zaj (zb5 5 zii.nd (zay zb9 (zah (dvC 4) zae) zae))
  (zaj (zb5 6 zii.nd (zay zb9 (zah (dvC 4) zae) (zb3 zc7 zc5 rfl W.z_len PySem.boot_len (zbb (DE.db (dv 1)) zbw))))
  (zaj (zbf (za0 (zbi hu) zbh (DE.db (dv 5)) (DE.db zae)) ?hole0 zbj)
  (zaj (zbf (za0 (zbi hu) zbh (DE.db (dv 5)) (DE.db zae)) ?hole1 zbj)
  (zaj (zbf (za0 (zbi hu) zbh (DE.db (dv 5)) (DE.db zae)) ?hole2 zbj)
  (zaj (zbf (za0 (zbi hu) zbh (DE.db (dv 5)) (DE.db zae)) ?hole3 zbj)
  (zaj (zbf (DW.dt (zfe (za0 (zbi hu) zbh (DE.db (dv 5)) (DE.db zae)) (zgs (za0 (zgw hu) zg8 (DE.db (dv 0)) (DE.db (DO.de (zby zag))))))) ?hole4 zbj)
  (zaj (zbf (DW.dt (zfe (za0 (zbi hu) zbh (DE.db (dv 5)) (DE.db zae)) (zfe (za0 (zgw hu) zg8 (DE.db (dv 0)) (DE.db (DO.de (zby zag)))) (zgs (za0 zkj zi6 (DE.db (dv 3)) (DE.db zae)))))) (zaj (zb5 7 zii.nd (zay zb9 (zah (dvC 4) zae) (dv 3)))
  (zaj (zf6 8 1 [7] ["_law_one","_law_thing"] zii.nd rfl (DI.de (zb2 (zah (dvC 0) (zf8 zae)))) (fun _ _ _ _ _=>(dgc 0 1)) (fun _ _ _ _ _=>(zdy (za0 (zgw hu) zg8 (DE.db (dvc 0)) (DE.db (dvc 1))))) (fun _ _ _ _ _=>(dvc 0)))
  (zaj (zbf (za0 (zbi hu) zbh (DE.db (dv 8)) (DE.db (zah (dvC 0) (zf8 zae)))) (zan (zb5 8 zii.nd (DO.de (z4b rfl rfl W.z_sorted (DO.de (zds (dv 8) (DO.de (zby (zac (dv 7) zag))))))))) zbj)
  ?hole5))) zbj)
  (zaj (zbf (DW.dt (zf7 (za0 (zbi hu) zbh (DE.db (dv 5)) (DE.db zae)) (zge (za0 (zbi hu) zbh (DE.db (dv 5)) (DE.db zae))))) ?hole6 zbj)
  (zaj (zbf (za0 (zbi hu) zbh (DE.db (dv 5)) (DE.db zae)) (zan (zaw (zbu (zac (dv 0) (zac (DO.de (zds (dv 1) (DO.de (zby (zac (zah (dvC 1) (zah (DO.dc (zby (zac (zf8 zae) (zac zae zag)))) (zay zb9 (zah (dvC 4) zae) zae))) zag))))) zag))))) zbj)
  (zaj (zbf (za0 (zbi hu) zbh (DE.db (dv 5)) (DE.db zae)) ?hole7 zbj)
  (zan (zaw (zbu (zac (dv 0) (zac (dv 1) zag)))))))))))))))))
  (case hole0=>refine zan ?_; refine zaw ?_; refine zbu ?_; refine zac ?_ ?_; (focus exact (dv 0)); refine zac ?_ ?_; (focus (refine DO.de ?_; exact (by refine zc3 ?a ?b ?c; (case a=>exact (dv 1)); (case b=>exact zdg); (case c=>exact (zcu (zf8 zae)))))); exact zag)
  (case hole1=>refine zan ?_; refine zaw ?_; refine zbu ?_; refine zac ?_ ?_; (focus exact (dv 0)); refine zac ?_ ?_; (focus (refine DO.de ?_; exact (zds (DO.de (by refine zc3 ?a ?b ?c; (case a=>exact (dv 1)); (case b=>exact zdg); (case c=>exact (zcu (dv 6))))) (DO.de (by refine zc3 ?a ?b ?c; (case a=>exact (dv 1)); (case b=>exact (zcu (zay zdk (dv 6) zae))); (case c=>exact zdg)))))); exact zag)
  (case hole2=>refine zan ?_; refine zaw ?_; refine zbu ?_; refine zac ?_ ?_; (focus exact (dv 0)); refine zac ?_ ?_; (focus (refine DO.de ?_; exact (zds (DO.de (by refine zc3 ?a ?b ?c; (case a=>exact (dv 1)); (case b=>exact zdg); (case c=>exact (zcu (zay zdk (dv 6) zae))))) (DO.de (by refine zc3 ?a ?b ?c; (case a=>exact (dv 1)); (case b=>exact (zcu (dv 6))); (case c=>exact zdg)))))); exact zag)
  (case hole3=>refine zan ?_; refine zaw ?_; refine zbu ?_; refine zac ?_ ?_; (focus exact (dv 0)); refine zac ?_ ?_; (focus (refine DO.de ?_; exact (zds (DO.de (by refine zc3 ?a ?b ?c; (case a=>exact (dv 1)); (case b=>exact (zcu (dv 6))); (case c=>exact zdg))) (DO.de (by refine zc3 ?a ?b ?c; (case a=>exact (dv 1)); (case b=>exact zdg); (case c=>exact (zcu (dv 6)))))))); exact zag)
  (case hole4=>refine zan ?_; refine zaw ?_; refine zbu ?_; refine zac ?_ ?_; (focus (refine DO.de ?_; exact (by refine zc3 ?a ?b ?c; (case a=>exact (dv 0)); (case b=>exact (zcu zae)); (case c=>exact zdg)))); refine zac ?_ ?_; (focus exact (dv 1)); exact zag)
  (case hole5=>refine zan ?_; refine zaw ?_; refine zbu ?_; refine zac ?_ ?_; (focus (refine DO.de ?_; exact (zds (DO.de (by refine zc3 ?a ?b ?c; (case a=>exact (dv 0)); (case b=>exact zdg); (case c=>exact (zcu (zf8 zae))))) (DO.de (zby (zac (dv 8) zag)))))); refine zac ?_ ?_; (focus exact (dv 1)); exact zag)
  (case hole6=>refine zan ?_; refine zaw ?_; refine zbu ?_; refine zac ?_ ?_; (focus exact (dv 0)); refine zac ?_ ?_; (focus (refine DO.de ?_; exact (zds (DO.de (zds (DO.de (by refine zc3 ?a ?b ?c; (case a=>exact (dv 1)); (case b=>exact zdg); (case c=>exact (zcu (dv 6))))) (DO.de (zby (zac (zbp (z8i W) (hr.mono (by decide)) rfl W.g_12 W.F_12.kp W.b_12 (zac (zah (dvC 1) (dv 6)) (zac (zah (dvC 4) zae) zag))) zag))))) (DO.de (by refine zc3 ?a ?b ?c; (case a=>exact (dv 1)); (case b=>exact (zcu (zay zdk (dv 6) zae))); (case c=>exact zdg)))))); exact zag)
  (case hole7=>refine zan ?_; refine zaw ?_; refine zbu ?_; refine zac ?_ ?_; (focus exact (dv 0)); refine zac ?_ ?_; (focus (refine DO.de ?_; exact (by refine zc3 ?a ?b ?c; (case a=>exact (dv 1)); (case b=>exact zdg); (case c=>exact (zcu zae))))); exact zag)
theorem z72 {a : Wa} (W : Wd K mg a) : zax P w K mg base CX0 1 a.f_57 a.fd_57 ["_law_part_here","_law_rising","_law_held"] (spD ⟨K,cl a⟩ ["_law_part_here","_law_rising","_law_held"].length zpx) :=
 zbt (k:=0) (N:=["_law_part_here","_law_rising","_law_held"]) (F:=b_57) W.F_57 z1g fun cdv A outer s H E hr=>have hu:=hr.units; by
  unfold b_57
  exact (zaj (zbf (za0 (zbi hu) zbh (DE.db (zah (dvC 0) zae)) (DE.db zbq)) (zan (zaw (zah (dvC 1) (zah (dvC 0) zae)))) zbj)
  (zaj (zbf (za0 (zbi hu) zbh (DE.db (zah (dvC 0) zae)) (DE.db zbq)) (zan (zaw (zgp (zah (dvC 2) (zah (dvC 0) zae))))) zbj)
  (zaj (zbf (za0 (zbi hu) zbh (DE.db (zah (dvC 0) zae)) (DE.db zbq)) (zan (zaw (zb6 zpf zqi (DE.db (zb3 (zgy rfl) zgr rfl W.z_sum boot_sum (zbb (DE.db (DO.de (zcc 2 [1] ["_law_thing","_law_worth_here","_law_rising"] rfl (DI.de (zb2 (zah (dvC 0) zae))) (fun _ _ _ _ _=>(zck rfl (zbc (dgc 0 2) (zbc (dgc 1 2) zcl)))) (fun _ _ _ _ _=>(zdy (zcz (DE.db (zah (zc8 2) (dvc 0)))))) (fun _ _ _ _ _=>(dvc 1))))) zbw))) (DE.db (zah (dvC 0) zae))))) zbj)
  (zan (zaw (zb6 zny zmk (DE.db (zb3 (zgy rfl) zgr rfl W.z_sum boot_sum (zbb (DE.db (DO.de (zcc 2 [2] ["_law_thing","_law_worth_here","_law_held"] rfl (DI.de (zb2 (zah (dvC 0) zae))) (fun _ _ _ _ _=>(zck rfl (zbc (dgc 0 2) (zbc (dgc 1 2) zcl)))) (fun _ _ _ _ _=>(zdy (zcz (DE.db (zah (zc8 2) (dvc 0)))))) (fun _ _ _ _ _=>(dvc 1))))) zbw))) (DE.db (zah (dvC 0) zae))))))))
theorem zwv {a : Wa} (W : Wd K mg a) : zax P w K mg base CX0 3 a.f_11 a.fd_11 ["_law_rules","_law_held"] (spD ⟨K,cl a⟩ ["_law_rules","_law_held"].length zlq) :=
 zbt (k:=2) (N:=["_law_rules","_law_held","_law_rising","_law_turn","_law_word","_law_head","_law_parts"]) (F:=b_11) W.F_11 zi8 fun cdv A outer s H E hr=>have hu:=hr.units; by
  unfold b_11
  exact (zaj (zbf (zcz (DE.db (zb3 (zhm rfl) zhx rfl W.z_any boot_any (zbb (DE.db (DO.de (zcc 1 [1] ["_law_rule_here","_law_held"] rfl (DI.de (zb2 (dv 0))) (fun _ _ _ _ _=>(dgc 0 1)) (fun _ _ _ _ _=>zcm) (fun _ _ _ _ _=>(zbp (zql W) (hr.mono (by decide)) (glc rfl) W.g_6 W.F_6.kp W.b_6 (zac (dvc 0) (zac (dvc 1) zag))))))) zbw)))) (zan (zaw zbz)) zbj)
  (zaj (zfj 2 zi8.nd (zcc 1 [] ["_law_truth"] rfl (DI.de (zb2 (dv 1))) (fun _ _ _ _ _=>(dgc 0 1)) (fun _ _ _ _ _=>zcm) (fun _ _ _ _ _=>zbz)))
  (zaj (zd4 PassesOwn.never rfl (zeu rfl W.z_range (zac (zb3 zc7 zc5 rfl W.z_len PySem.boot_len (zbb (DE.db (dv 1)) zbw)) zag)) (zcb 3 7 zi8.nd) (zan (zd4 PassesOwn.never rfl (zb2 (dv 0)) (zck rfl (zbc (zcb 4 7 zi8.nd) (zbc (zcb 5 7 zi8.nd) (zbc (zcb 6 7 zi8.nd) zcl)))) (zan (zbf (DW.dt (zfe (za0 (zgw hu) zg8 (DE.db (dv 4)) (DE.db zbq)) (zfe (zcz (DE.db (zah (dvC 1) (dv 5)))) (zgs (zfa (zcz (DE.db (zah (dvC 2) (dv 5))))))))) (zan (zij (pv 2) (dv 5) (zb3 (zle rfl) zme rfl W.z_all boot_all (zbb (DE.db (DO.de (zcc 1 [2,1] ["_law_part_here","_law_rising","_law_held"] rfl (DI.de (zb2 (dv 6))) (fun _ _ _ _ _=>(dgc 0 1)) (fun _ _ _ _ _=>zcm) (fun _ _ _ _ _=>(z89 (z72 W) (hr.mono (by decide)) (glc rfl) W.g_57 W.F_57.kp W.b_57 (zbb (DE.db (dvc 0)) (zbb (z3x 1) (zbb (DE.db (dvc 2)) zbw)))))))) zbw)))) zbj)))))
  (zan (zg5 2 (zaw (zb6 (zbi hu) zbh (DE.db (dv 2)) (DE.db (dv 1)))))))))
theorem z39 {a : Wa} (W : Wd K mg a) : zax P w K mg base CX0 4 a.f_36 a.fd_36 ["_law_many","_law_rules"] (spD ⟨K,cl a⟩ ["_law_many","_law_rules"].length zp4) :=
 zbt (k:=3) (N:=["_law_many","_law_rules","_law_rows","_law_k","_law_held"]) (F:=b_36) W.F_36 zln fun cdv A outer s H E hr=>by
  unfold b_36
  exact (zaj (zb5 2 zln.nd (DO.de (zby (zac (DO.de (zby zag)) zag))))
  (zaj (zd4 PassesOwn.never rfl (zeu rfl W.z_range (zac (dv 0) zag)) (zcb 3 5 zln.nd) (zan (zb5 2 zln.nd (DO.de (zds (DO.de (zcc 1 [] ["_law_row"] rfl (DI.de (zb2 (dv 2))) (fun _ _ _ _ _=>(dgc 0 1)) (fun _ _ _ _ _=>zcm) (fun _ _ _ _ _=>(DO.de (zds (dvc 0) (DO.de (zby (zac zbz zag)))))))) (DO.de (zcc 1 [] ["_law_row"] rfl (DI.de (zb2 (dv 2))) (fun _ _ _ _ _=>(dgc 0 1)) (fun _ _ _ _ _=>zcm) (fun _ _ _ _ _=>(DO.de (zds (dvc 0) (DO.de (zby (zac zbz zag)))))))))))))
  (zaj (zf6 4 1 [1] ["_law_row","_law_rules"] zln.nd rfl (DI.de (zb2 (dv 2))) (fun _ _ _ _ _=>(dgc 0 1)) (fun _ _ _ _ _=>(zdy (zcz (DE.db (zbp (zwv W) (hr.mono (by decide)) (glc rfl) W.g_11 W.F_11.kp W.b_11 (zac (dvc 1) (zac (dvc 0) zag))))))) (fun _ _ _ _ _=>(dvc 0)))
  (zan (zlg (zcc 1 [] ["_law_row"] rfl (DI.de (zb2 (dv 4))) (fun _ _ _ _ _=>(dgc 0 1)) (fun _ _ _ _ _=>zcm) (fun _ _ _ _ _=>(DO.de (zcc 2 [] ["_law_thing","_law_truth"] rfl (DI.de (zit (glc rfl) W.z_enumerate (zac (dvc 0) zag))) (fun _ _ _ _ _=>(zck rfl (zbc (dgc 0 2) (zbc (dgc 1 2) zcl)))) (fun _ _ _ _ _=>(zdy (zcz (DE.db (dvc 1))))) (fun _ _ _ _ _=>(dvc 0)))))))))))
theorem zzd {a : Wa} (W : Wd K mg a) : zax P w K mg base CX0 15 a.f_2 a.fd_2 ["_law_script"] (spD ⟨K,cl a⟩ ["_law_script"].length m_2) :=
 zbt (k:=14) (N:=["_law_script","_law_hs","_law_many","_law_rules","_law_cell","_law_sets","_law_lines","_law_some","_law_mine"]) (F:=b_2) W.F_2 zfo fun cdv A outer s H E hr=>have hu:=hr.units; by
  unfold b_2
  exact (zaj (zb5 1 zfo.nd (zbp (zlj W) (hr.mono (by decide)) rfl W.g_0 W.F_0.kp W.b_0 (zac (zbp (zq8 W) (hr.mono (by decide)) rfl W.g_5 W.F_5.kp W.b_5 (zac (dv 0) (zac zae zag))) (zac zae zag))))
  (zaj (zb5 2 zfo.nd (zay zhz (zay zdk (zay zb9 (zah (dvC 1) zae) zae) zae) zae))
  (zaj (zfj 3 zfo.nd (zwe (z0y W) (hr.mono (by decide)) rfl W.g_21 W.F_21.kp W.b_21 (zac (zay zb9 (zah (dvC 1) zae) zae) (zac (dv 2) zag))))
  (zaj (zd4 PassesOwn.never rfl (zb2 (DO.de (by refine zc3 ?a ?b ?c; (case a=>exact (dv 0)); (case b=>exact (zcu zae)); (case c=>exact (zcu zae))))) (zcb 4 9 zfo.nd) (zan (zhk (ze7 (zfk PySem.F.plainAttrs_list PySem.F.slot_list_append PySem.F.type_list_append zgl (pv 3) (zdl (zbp (zz3 W) (hr.mono (by decide)) rfl W.g_43 W.F_43.kp W.b_43 (zac (dv 4) (zac (dv 2) (zac (zb6 (zbi hu) zbh (DE.db (zay zb9 (zah (dvC 1) zae) zae)) (DE.db zae)) zag)))) zd8))))))
  (zaj (zg5 3 (zb5 5 zfo.nd (zbp (z39 W) (hr.mono (by decide)) rfl W.g_36 W.F_36.kp W.b_36 (zac (dv 2) (zac (dv 3) zag)))))
  (zaj (zbf (za0 (zbi hu) zbh (DE.db (zay zb9 (zah (dvC 1) zae) zae)) (DE.db zae)) (zan (zb5 5 zfo.nd (DO.de (by refine zc3 ?a ?b ?c; (case a=>exact (dv 5)); (case b=>exact (zcu zae)); (case c=>exact zdg))))) zbj)
  (zaj (zbf (za0 (zbi hu) zbh (DE.db (zay zb9 (zah (dvC 1) zae) zae)) (DE.db zae)) (zan (zb5 5 zfo.nd (DO.de (zds (dv 5) (DO.de (zby (zac (DO.de (zcc 1 [1] ["_law_thing","_law_hs"] rfl (DI.de (zeu rfl W.z_range (zac (dv 2) zag))) (fun _ _ _ _ _=>(dgc 0 1)) (fun _ _ _ _ _=>(zdy (za0 (zbi hu) zbh (DE.db (zay zb9 (zay zhz (zah (zc8 1) zae) (zay zdk (dvc 0) zae)) zae)) (DE.db zae)))) (fun _ _ _ _ _=>(dvc 0)))) zag))))))) zbj)
  (zaj (zfj 6 zfo.nd (zby zag))
  (zaj (zg5 3 (zrl (z23 (zqc W 9) (hr.mono (by decide)) rfl W.g_1 W.F_1.kp W.b_1 (zeo (dv 3) (zeo (dv 5) (zeo (DO.de (zcc 1 [] ["_law_k"] rfl (DI.de (zeu rfl W.z_range (zac (dv 2) zag))) (fun _ _ _ _ _=>(dgc 0 1)) (fun _ _ _ _ _=>zcm) (fun _ _ _ _ _=>zea))) (zeo (DO.de (zby zag)) (zmz 6 (zac (zbp (zq8 W) (hr.mono (by decide)) rfl W.g_5 W.F_5.kp W.b_5 (zac (dv 0) (zac zae zag))) zag)))))))))
  (zaj (zd4 PassesOwn.never rfl (zb2 (DO.de (zds (DO.de (zby (zac (zbp (zq8 W) (hr.mono (by decide)) rfl W.g_5 W.F_5.kp W.b_5 (zac (dv 0) (zac zae zag))) zag))) (DO.de (by refine zc3 ?a ?b ?c; (case a=>exact (dv 0)); (case b=>exact (zcu zae)); (case c=>exact (zcu zae))))))) (zcb 4 9 zfo.nd) (zaj (zg5 6 (zl6 (zbp (z4p W) (hr.mono (by decide)) rfl W.g_15 W.F_15.kp W.b_15 (zac (dv 5) (zac (dv 6) (zac (dv 4) (zac (dv 2) zag))))) (zck rfl (zbc (zcb 7 9 zfo.nd) (zbc (zcb 8 9 zfo.nd) zcl)))))
  (zan (zg5 3 (zbf (zfa (zcz (DE.db (zbp (z4u W) (hr.mono (by decide)) rfl W.g_39 W.F_39.kp W.b_39 (zac (dv 2) (zac (dv 3) (zac (dv 7) (zac (dv 8) zag)))))))) (zan (zaw zbz)) zbj)))))
  (zan (zaw zbz))))))))))))
end
local macro_rules | `(tactic| walk_at "evS")=>`(tactic| first | decide | omega | assumption | exact ⟨by decide,by decide⟩ | exact ⟨by omega,by omega⟩ | exact .inl ⟨by decide,by decide⟩ | exact .inr ⟨by decide,by decide⟩ | exact .inl ⟨by omega,by omega⟩ | exact .inr ⟨by omega,by omega⟩ | exact ⟨by decide,by decide,by decide⟩)
local macro_rules | `(tactic| walk_at "evO")=>`(tactic| first | with_reducible exact zhu | with_reducible exact zq7 | with_reducible exact zjm | with_reducible exact zlc | with_reducible exact zs4 | with_reducible exact dGe_eq | with_reducible exact zdx _ _ | with_reducible exact zs1 _ _ | ((with_reducible apply zdi); (focus walk_at "evS")) | ((with_reducible apply znb); (focus walk_at "evS")) | ((with_reducible apply dMul_eq); (focus walk_at "evS")) | ((with_reducible apply zxo); (focus first | assumption | exact .inl (by walk_at "evS") | exact .inr ⟨by omega,by omega⟩)) | ((with_reducible apply zwm); (focus walk_at "evS")) | ((with_reducible apply dShr_eq); (focus walk_at "evS")) | with_reducible exact zmw _ _ | with_reducible exact dNe_str _ _ | with_reducible exact dEq_bl _ _ | with_reducible exact dAndB_eq | exact zof _ _ | exact zjl _ _ | assumption | rfl)
local macro_rules | `(tactic| walk_at "ev")=>`(tactic| first
 | with_reducible assumption
 | ((with_reducible apply zar); (focus walk_at "ev"); (focus walk_at "ev"); (focus walk_at "evO"))
 | ((with_reducible apply zb0); (focus walk_at "ev"))
 | ((with_reducible apply zdc); (focus walk_at "ev"); (focus first | assumption | rfl))
 | ((with_reducible apply zh2); (focus walk_at "ev"); (focus walk_at "ev"))
 | ((with_reducible apply zml); (focus walk_at "ev"); (focus walk_at "ev"))
 | ((with_reducible apply zfl); (focus walk_at "ev"))
 | ((with_reducible apply zhq); (focus walk_at "ev"); (focus walk_at "ev"))
 | ((with_reducible apply zol); (focus walk_at "ev"); (focus walk_at "ev"))
 | ((with_reducible apply zgi); (focus walk_at "ev"))
 | ((with_reducible apply zad); (focus walk_at "ev"); (focus walk_at "ev"))
 | ((with_reducible apply zb7); (focus walk_at "ev"))
 | ((with_reducible apply zat); (focus walk_at "ev"))
 | ((with_reducible apply zau); (focus walk_at "ev"); (focus first | with_reducible assumption | with_reducible exact zc4 _ _ | assumption | exact zc4 _ _ | exact len_kl _ _ | rfl))
 | ((with_reducible apply zl2); (focus walk_at "ev"); (focus assumption); (focus rfl))
 | ((with_reducible apply zak); (focus walk_at "ev"); (focus walk_at "ev"); (focus first | assumption | rfl))
 | ((with_reducible apply zor); (focus walk_at "ev"); (focus rfl); (focus rfl))
 | ((with_reducible apply zc6); (focus walk_at "ev"); (focus rfl); (focus rfl))
 | ((with_reducible apply zcq); (focus walk_at "ev"); (focus rfl))
 | rfl)
local macro_rules | `(tactic| walk_at "nrm")=>`(tactic| simp only [zr3,List.set_cons_succ,List.set_cons_zero])
local macro_rules | `(tactic| walk_at "set")=>`(tactic| (apply zam; (first | with_reducible apply zbr | with_reducible apply zes); (focus walk_at "ev"); walk_at "nrm"))
local macro_rules | `(tactic| walk_at "if0")=>`(tactic| ((with_reducible first | apply zaz | apply zbx); (focus walk_at "ev")))
theorem zs7 (ns : List Int) (i : Int) (h0 : 0 <= i) : ∃ v,m_5 [.kl (ns.map D.int),.int i] = some (.int v):=by
 by_cases h : i < ns.length
 ·obtain ⟨x,_,e⟩:=zb4 (f:=D.int) h0 h
  refine ⟨x,zca (zez (zex (congrArg some (decide_eq_true ?_)) (zcj e)))⟩
  rw [List.length_map]
  exact h
 ·refine ⟨0,zca (zcr (zc0 (congrArg some (decide_eq_false ?_)) rfl) rfl)⟩
  rw [List.length_map]
  exact h
theorem p60 : (0 : Int) < 10 ^ (60 : Int).toNat:=by decide
theorem z41 : zkg 10 60:=⟨by decide,by decide,by decide⟩
noncomputable def Nm (x : Int) : Prop:=0 <= x /\ x < 2305843009213693951
theorem zl7 (c n : Int) (n0 : 0 <= n) (n1 : n <= 124) : ∃ d,m_0 [.int c,.int n] = some d /\ ∃ xs : List Int,d = .lst (xs.map D.int) /\ (xs.length : Int) = n /\ ∀ x ∈ xs,Nm x:=by
 apply zgu
 unfold b_0
 show wp _ [.im (.int c),.im (.int n),.no,.no,.no] _
 have a0 : 0 <= c % 2305843009213693951:=Int.emod_nonneg _ (by decide)
 have a1 : c % 2305843009213693951 < 2305843009213693951:=Int.emod_lt_of_pos _ (by decide)
 walk_at "set"
 walk_at "set"
 apply zam
 refine zd7 (List.range n.toNat) (fun (i : Nat)=>D.int i) (fun pre ρ=>∃ (xs : List Int) (y : Int) (v : Sl),ρ = [.im (.int c),.im (.int n),.own (xs.map D.int),.im (.int y),v] /\ 0 <= y /\ y < 2 ^ 100 /\ xs.length = pre.length /\ ∀ x ∈ xs,Nm x)
  (ze0 (by walk_at "ev") n0 (by omega)) ⟨[],_,.no,rfl,by omega,by omega,rfl,fun x hx=>nomatch hx⟩ ?_ ?_
 ·rintro pre i post ρ ex ⟨xs,y,v,rfl,y0,y1,hl,hx⟩
  have hpl : pre.length < n.toNat:=by
   have : pre.length < (List.range n.toNat).length:=by rw [ex]; simp
   simpa using this
  refine ⟨_,rfl,?_⟩
  walk_at "nrm"
  generalize hz : (y * (y + 69621) + 7 * (i : Int) + 1) % 2305843009213693951 = z
  have z0 : 0 <= z:=by rw [<- hz]; exact Int.emod_nonneg _ (by decide)
  have z1 : z < 2305843009213693951:=by rw [<- hz]; exact Int.emod_lt_of_pos _ (by decide)
  apply zam
  refine zbr (by walk_at "ev") ?_
  rw [hz]
  walk_at "nrm"
  refine zhy rfl rfl (by rw [List.length_map]; omega) ?_
  refine ⟨xs ++ [z],z,.im (.int i),by rw [List.map_append]; rfl,z0,by omega,by rw [List.length_append,List.length_append,hl]; rfl,fun x hx'=>?_⟩
  rcases List.mem_append.mp hx' with h | h
  ·exact hx x h
  ·have : x = z:=by simpa using h
   subst this
   exact ⟨z0,z1⟩
 ·rintro ρ ⟨xs,y,v,rfl,y0,y1,hl,hx⟩
  rw [List.length_range] at hl
  exact zgx rfl (zks ⟨xs,rfl,by omega,hx⟩)
theorem worth (x : Int) (hx : Nm x) : ∃ d,zmc [.int x] = some d /\ ∃ w : Int,d = .int w /\ 0 <= w:=by
 obtain ⟨x0,x1⟩:=hx
 apply zgu
 unfold b_42
 show wp _ [.im (.int x)] _
 have pw:=p60
 have hcp:=z41
 have m1 : zgb x x:=.inl (.inl ⟨by omega,by omega⟩)
 have m2 : zgb (x * x) x:=.inl (.inr ⟨by omega,by omega⟩)
 have m3 : zgb (x * x * x) x:=.inl (.inr ⟨by omega,by omega⟩)
 apply zam
 walk_at "if0"
 ·intro _
  walk_at "if0"
  exact zbs ⟨_,rfl,Int.emod_nonneg _ (Int.ne_of_gt pw)⟩
 ·intro _
  apply zbo
  walk_at "nrm"
  obtain ⟨w,hw,ew⟩:=zb4 (f:=D.int) (xs:=[1,1,2,0,3,1,1,2]) (i:=x / 8 % 8) (Int.emod_nonneg _ (by decide)) (Int.emod_lt_of_pos _ (by decide))
  have w0 : ∀ x ∈ ([1,1,2,0,3,1,1,2] : List Int),0 <= x:=by decide
  walk_at "if0"
  exact zbs ⟨w,rfl,w0 w (List.mem_of_getElem? hw)⟩
theorem zt0 {α β : Type} {k : Nat} {js : List Nat} {fi : List Sl -> Option (List D)} {g : D -> List Sl -> Option (List Sl)} {ft : List Sl -> Option Bool} {fe : List Sl -> Option D} {ρ : List Sl} (xs : List α) (f : α -> D) (q : β -> D) (P : β -> Prop)
  (hi : fi ρ = some (xs.map f)) (hz : xs.length <= 16777216) (hh : ∀ x ∈ xs,∃ z,P z /\ ze6 g ft fe (zdp k js ρ) (f x) = some (some (q z))) : ∃ zs : List β,za6 k js fi g ft fe ρ = some (zs.map q) /\ zs.length = xs.length /\ ∀ z ∈ zs,P z:=by
 have key : ∀ ys : List α,(∀ x ∈ ys,∃ z,P z /\ ze6 g ft fe (zdp k js ρ) (f x) = some (some (q z))) -> ∃ zs : List β,zew (ze6 g ft fe (zdp k js ρ)) (ys.map f) = some (zs.map q) /\ zs.length = ys.length /\ ∀ z ∈ zs,P z:=by
  intro ys
  induction ys with
  | nil=>intro _; exact ⟨[],rfl,rfl,fun z hz=>nomatch hz⟩
  | cons y ys ih =>
   intro h
   obtain ⟨z,pz,ez⟩:=h y List.mem_cons_self
   obtain ⟨zs,e,l,p⟩:=ih fun x hx=>h x (List.mem_cons_of_mem _ hx)
   refine ⟨z :: zs,?_,by rw [List.length_cons,List.length_cons,l],fun w hw=>?_⟩
   ·rw [List.map_cons]
    unfold zew
    rw [ez,e]
    rfl
   ·rcases List.mem_cons.mp hw with rfl | hw
    ·exact pz
    ·exact p w hw
 obtain ⟨zs,e,l,p⟩:=key xs hh
 refine ⟨zs,?_,l,p⟩
 unfold za6
 rw [hi]
 show (if (xs.map f).length <= 16777216 then _ else none) = _
 rw [List.length_map,if_pos hz]
 exact e
noncomputable def nmP : Prt -> List Int
 | .inn t=>[t]
 | .out t=>[t]
 | .least _ its=>its.map (·.1)
 | .most _ its=>its.map (·.1)
theorem zx0 {xs : List Int} {i : Nat} {x : Int} (h : ∀ x ∈ xs,Nm x) (e : xs[i]? = some x) : Nm x:=h x (List.mem_of_getElem? e)
theorem z2v {ys : List Int} {n : Int} (hy : ∀ y ∈ ys,Nm y) (n1 : 1 <= n) {t : Nat} (ht : 4 + 2 * t <= ys.length) (ht2 : t <= 100) {fi : List Sl -> Option (List D)} {ρ : List Sl} {js : List Nat} (hi : fi ρ = some ((List.range t).map fun (i : Nat)=>D.int i)) (hj : zdp 1 js ρ = [.no,.im (.int n),.im (.lst (ys.map D.int))]) :
  ∃ its : List (Int × Int),za6 1 js fi (zaq 0) (fun _=>some true) (zbn (zab (m2 zbv (mIx (zaf 2) (m2 zci (fun _=>some (.int 4)) (m2 zdd (fun _=>some (.int 2)) (zaa 0)))) (zaa 1)) (zab (zap zmc (zab (mIx (zaf 2) (m2 zci (fun _=>some (.int 5)) (m2 zdd (fun _=>some (.int 2)) (zaa 0)))) (fun _=>some []))) (fun _=>some [])))) ρ = some (its.map itD) /\ its.length = t /\ InN n.toNat its:=by
 obtain ⟨its,e,l,p⟩:=zt0 (k:=1) (js:=js) (fi:=fi) (g:=zaq 0) (ft:=fun _=>some true) (fe:=(zbn (zab (m2 zbv (mIx (zaf 2) (m2 zci (fun _=>some (.int 4)) (m2 zdd (fun _=>some (.int 2)) (zaa 0)))) (zaa 1)) (zab (zap zmc (zab (mIx (zaf 2) (m2 zci (fun _=>some (.int 5)) (m2 zdd (fun _=>some (.int 2)) (zaa 0)))) (fun _=>some []))) (fun _=>some []))))) (ρ:=ρ) (List.range t) (fun (i : Nat)=>D.int i) itD (fun z=>0 <= z.1 /\ z.1 < (n.toNat : Int) /\ 0 <= z.2) hi (by rw [List.length_range]; omega) fun i hi'=>by
  have hi':=List.mem_range.mp hi'
  obtain ⟨a,_,ea⟩:=zb4 (f:=D.int) (xs:=ys) (i:=4 + 2 * (i : Int)) (by omega) (by omega)
  obtain ⟨b,hb,eb⟩:=zb4 (f:=D.int) (xs:=ys) (i:=5 + 2 * (i : Int)) (by omega) (by omega)
  obtain ⟨d,ew,w,rfl,w0⟩:=worth b (zx0 hy hb)
  have q0:=Int.emod_nonneg a (show n ≠ 0 by omega)
  have q1:=Int.emod_lt_of_pos a (show 0 < n by omega)
  refine ⟨(a % n,w),⟨q0,by show a % n < _; omega,w0⟩,?_⟩
  rw [hj]
  exact zcp (y:=.tup [.int (a % n),.int w]) rfl rfl (by walk_at "ev")
 exact ⟨its,e,by rw [l,List.length_range],p⟩
theorem zx8 {its : List (Int × Int)} {fi : List Sl -> Option (List D)} {ρ : List Sl} (hi : fi ρ = some (its.map itD)) (hz : its.length <= 1000) : zap zd5 (zab (zal (za6 2 [] fi (zb8 (za3 (zaq 0) (za3 (zaq 1) zcd))) (fun _=>some true) (zaa 1))) (fun _=>some [])) ρ = some (.int (its.map (·.2)).sum):=by
 refine zau (zad (zat (zcs its itD (fun z=>D.int z.2) hi (by omega) fun z _=>zcp rfl rfl rfl)) rfl) ?_
 rw [z4g]
 exact zva
theorem z3y (ys : List Int) (n : Int) (hl : 10 <= ys.length) (hy : ∀ y ∈ ys,Nm y) (n1 : 1 <= n) (n60 : n <= 60) : ∃ d,zn4 [.lst (ys.map D.int),.int n] = some d /\ ∃ p : Prt,d = p.toD /\ p.Ok n.toNat /\ (nmP p).length <= 3:=by
 apply zgu
 unfold b_34
 show wp _ [.im (.lst (ys.map D.int)),.im (.int n),.no,.no,.no] _
 obtain ⟨a0,h0,e0⟩:=zb4 (f:=D.int) (xs:=ys) (i:=0) (by decide) (by omega)
 obtain ⟨a1,h1,e1⟩:=zb4 (f:=D.int) (xs:=ys) (i:=1) (by decide) (by omega)
 obtain ⟨a2,h2,e2⟩:=zb4 (f:=D.int) (xs:=ys) (i:=2) (by decide) (by omega)
 obtain ⟨a3,h3,e3⟩:=zb4 (f:=D.int) (xs:=ys) (i:=3) (by decide) (by omega)
 obtain ⟨wd,hwd,ew⟩:=zb4 (f:=D.str) (xs:=["in","out","in","least","most"]) (i:=a0 % 5) (Int.emod_nonneg _ (by decide)) (Int.emod_lt_of_pos _ (by decide))
 have hw2:=List.mem_of_getElem? hwd
 simp only [List.mem_cons,List.not_mem_nil,or_false] at hw2
 walk_at "set"
 apply zam
 walk_at "if0"
 ·intro hb
  have q0:=Int.emod_nonneg a1 (show n ≠ 0 by omega)
  have q1:=Int.emod_lt_of_pos a1 (show 0 < n by omega)
  walk_at "if0"
  apply zbs
  rcases hw2 with rfl | rfl | rfl | rfl | rfl
  ·exact ⟨.inn (a1 % n),rfl,⟨q0,by omega⟩,by show 1 <= 3; decide⟩
  ·exact ⟨.out (a1 % n),rfl,⟨q0,by omega⟩,by show 1 <= 3; decide⟩
  ·exact ⟨.inn (a1 % n),rfl,⟨q0,by omega⟩,by show 1 <= 3; decide⟩
  ·exact Bool.noConfusion (show false = true from hb)
  ·exact Bool.noConfusion (show false = true from hb)
 ·intro hb
  apply zbo
  walk_at "nrm"
  have t0 : 0 <= a2 % 4:=Int.emod_nonneg _ (by decide)
  have t1 : a2 % 4 < 4:=Int.emod_lt_of_pos _ (by decide)
  obtain ⟨its,ei,li,hin⟩:=z2v (ys:=ys) (n:=n) hy n1 (t:=(a2 % 4).toNat) (by omega) (by omega) (fi:=zdn (zab (m2 zbv (mIx (zaf 0) (fun _=>some (.int 2))) (fun _=>some (.int 4))) (fun _=>some []))) (ρ:=[.im (.lst (ys.map D.int)),.im (.int n),.im (.str wd),.no,.no]) (js:=[1,0]) (ze0 (by walk_at "ev") t0 (by omega)) rfl
  apply zam
  refine zbr (zat ei) ?_
  walk_at "nrm"
  apply zam
  refine zbr (zx8 (zcq (zat (zc6 rfl rfl (hi:=some (a3 % 5)) (by unfold mPt; rw [show (m2 zbv (mIx (zaf 0) (fun _=>some (.int 3))) (fun _=>some (.int 5))) [.im (.lst (ys.map D.int)),.im (.int n),.im (.str wd),.im (.lst (its.map itD)),.no] = some (.int (a3 % 5)) by walk_at "ev"]; rfl))) rfl) (by rw [List.length_take,List.length_drop]; omega)) ?_
  walk_at "nrm"
  walk_at "if0"
  apply zbs
  have h3' : (its.map (·.1)).length <= 3:=by rw [List.length_map]; omega
  rcases hw2 with rfl | rfl | rfl | rfl | rfl
  ·exact Bool.noConfusion (show true = false from hb)
  ·exact Bool.noConfusion (show true = false from hb)
  ·exact Bool.noConfusion (show true = false from hb)
  ·exact ⟨.least _ its,rfl,⟨hin,by omega⟩,h3'⟩
  ·exact ⟨.most _ its,rfl,⟨hin,by omega⟩,h3'⟩
theorem zed {f g : List Sl -> Option D} {ρ : List Sl} {a b : List D} (h : f ρ = some (.lst a)) (h' : g ρ = some (.lst b)) (hl : a.length + b.length <= 16777216) : zcx f g ρ = some (a ++ b):=by
 unfold zcx
 rw [h,h']
 show (if a.length + b.length <= 16777216 then some (a ++ b) else none) = _
 rw [if_pos hl]
theorem zuy {α : Type} {xs : List α} {a b : Nat} {x : α} (h : x ∈ (xs.drop a).take b) : x ∈ xs:=List.mem_of_mem_drop (List.mem_of_mem_take h)
theorem z6a (kind k on n : Int) (hk : 0 <= kind) (hk5 : kind < 5) (k0 : 0 <= k) (k1 : k < n) (o0 : 0 <= on) (o1 : on < n) : (atI [D.non,.tup [.str "in",.int k],.tup [.str "out",.int k],.tup [.str "least",.int 2,.lst [.tup [.int k,.int 2],.tup [.int on,.int 1]]],.tup [.str "most",.int 0,.lst [.tup [.int k,.int 1]]]] kind = some .non) \/ ∃ p : Prt,p.Ok n.toNat /\ atI [D.non,.tup [.str "in",.int k],.tup [.str "out",.int k],.tup [.str "least",.int 2,.lst [.tup [.int k,.int 2],.tup [.int on,.int 1]]],.tup [.str "most",.int 0,.lst [.tup [.int k,.int 1]]]] kind = some p.toD:=by
 have : kind = 0 \/ kind = 1 \/ kind = 2 \/ kind = 3 \/ kind = 4:=by omega
 rcases this with rfl | rfl | rfl | rfl | rfl
 ·exact .inl rfl
 ·exact .inr ⟨.inn k,⟨k0,by omega⟩,rfl⟩
 ·exact .inr ⟨.out k,⟨k0,by omega⟩,rfl⟩
 ·refine .inr ⟨.least 2 [(k,2),(on,1)],⟨fun z hz=>?_,by show 2 <= 100000; decide⟩,rfl⟩
  simp only [List.mem_cons,List.not_mem_nil,or_false] at hz
  rcases hz with rfl | rfl
  ·exact ⟨k0,by show k < _; omega,by show (0 : Int) <= 2; decide⟩
  ·exact ⟨o0,by show on < _; omega,by show (0 : Int) <= 1; decide⟩
 ·refine .inr ⟨.most 0 [(k,1)],⟨fun z hz=>?_,by show 1 <= 100000; decide⟩,rfl⟩
  have : z = (k,1):=by simpa using hz
  subst this
  exact ⟨k0,by show k < _; omega,by show (0 : Int) <= 1; decide⟩
theorem zw9 (kind n : Int) (hk : 0 <= kind) (hk5 : kind < 5) (n0 : 0 <= n) (n60 : n <= 60) : ∃ rs : List Rul,zoj [.int kind,.int n] = some (rs.map Rul.toD) /\ (∀ r ∈ rs,r.Ok n.toNat /\ r.ps.length <= 3) /\ rs.length <= 60:=by
 have h : wp b_21 (zdt 6 [.int kind,.int n]) (fun o=>∃ rs : List Rul,o = .rtO (rs.map Rul.toD) /\ (∀ r ∈ rs,r.Ok n.toNat /\ r.ps.length <= 3) /\ rs.length <= 60):=by
  unfold b_21
  show wp _ [.im (.int kind),.im (.int n),.no,.no,.no,.no] _
  walk_at "set"
  apply zam
  refine zd7 (List.range n.toNat) (fun (i : Nat)=>D.int i) (fun pre ρ=>∃ (rs : List Rul) (v3 v4 v5 : Sl),ρ = [.im (.int kind),.im (.int n),.own (rs.map Rul.toD),v3,v4,v5] /\ (∀ r ∈ rs,r.Ok n.toNat /\ r.ps.length <= 3) /\ rs.length <= pre.length)
   (ze0 (by walk_at "ev") n0 (by omega)) ⟨[],.no,.no,.no,rfl,(fun z hz=>nomatch hz),Nat.le_refl _⟩ ?_ ?_
  ·rintro pre i post ρ ex ⟨rs,v3,v4,v5,rfl,hrs,hl⟩
   have hi : i < n.toNat:=List.mem_range.mp (by rw [ex]; simp)
   have hpl : pre.length < n.toNat:=by
    have : pre.length < (List.range n.toNat).length:=by rw [ex]; simp
    simpa using this
   have hn : 0 < n:=by omega
   have q0:=Int.emod_nonneg ((i : Int) + 1) (show n ≠ 0 by omega)
   have q1:=Int.emod_lt_of_pos ((i : Int) + 1) hn
   refine ⟨_,rfl,?_⟩
   walk_at "nrm"
   walk_at "set"
   rcases z6a kind i (((i : Int) + 1) % n) n hk hk5 (by omega) (by omega) q0 q1 with e | ⟨p,hp,e⟩
   ·apply zam
    refine zbr (by walk_at "ev") ?_
    walk_at "nrm"
    refine zaz (b:=false) rfl (fun h=>by cases h) (fun _=>zbo ?_)
    exact ⟨rs,_,_,_,rfl,hrs,by rw [List.length_append]; exact Nat.le_succ_of_le hl⟩
   ·apply zam
    refine zbr (by walk_at "ev") ?_
    walk_at "nrm"
    clear e
    have w0 : 0 <= (i : Int) * kind % 5 / 4:=Int.ediv_nonneg (Int.emod_nonneg _ (by decide)) (by decide)
    have w1 : (i : Int) * kind % 5 / 4 < 2:=by
     have:=Int.emod_lt_of_pos ((i : Int) * kind) (show (0 : Int) < 5 by decide)
     omega
    obtain ⟨w,hw,ew⟩:=zb4 (f:=fun w : Wrd=>D.str w.s) (xs:=[.make,.may]) (i:=(i : Int) * kind % 5 / 4) w0 w1
    refine zaz (b:=true) (zb0 (zar rfl rfl (by cases p <;> rfl))) (fun _=>?_) (fun h=>by cases h)
    refine zhy (zb7 (zad (zak (by walk_at "ev") (by walk_at "ev") ew) (zad rfl (zad (zat (zad rfl rfl)) rfl)))) rfl (by rw [List.length_map]; omega) ?_
    have hw2:=List.mem_of_getElem? hw
    simp only [List.mem_cons,List.not_mem_nil,or_false] at hw2
    refine ⟨rs ++ [⟨w,((i : Int) + 1) % n,[p]⟩],.im (.int i),.im (.int (((i : Int) + 1) % n)),.im p.toD,?_,fun r hr=>?_,by rw [List.length_append,List.length_append]; exact Nat.add_le_add_right hl 1⟩
    ·rw [List.map_append]
     rcases hw2 with rfl | rfl <;> rfl
    ·rcases List.mem_append.mp hr with h | h
     ·exact hrs r h
     ·have : r = ⟨w,((i : Int) + 1) % n,[p]⟩:=by simpa using h
      subst this
      refine ⟨⟨fun _=>⟨q0,by show ((i : Int) + 1) % n < _; omega⟩,fun q hq=>?_,by show 1 <= _; decide⟩,by show 1 <= 3; decide⟩
      have : q = p:=by simpa using hq
      subst this
      exact hp
  ·rintro ρ ⟨rs,v3,v4,v5,rfl,hrs,hl⟩
   rw [List.length_range] at hl
   exact zgx rfl ⟨rs,rfl,hrs,by omega⟩
 obtain ⟨o,e,rs,rfl,hrs,hl⟩:=h
 exact ⟨rs,zvi e,hrs,hl⟩
noncomputable def inS (xs : List Int) (i : Nat) : Bool:=xs.any fun x=>x == (i : Int)
theorem zt7 (xs : List Int) (i : Nat) : dIn (.int i) (.lst (xs.map D.int)) = some (.bl (inS xs i)):=by
 unfold dIn inD
 show Option.map D.bl (if ((D.int i).scalar && (xs.map D.int).all D.scalar) = true then some ((xs.map D.int).any fun d=>eqX d (.int i)) else none) = _
 rw [if_pos (by rw [List.all_map]; exact (Bool.and_eq_true _ _).mpr ⟨rfl,List.all_eq_true.mpr fun _ _=>rfl⟩),List.any_map]
 rfl
theorem z5m (ks : List Key) (k j : Key) : zel (ze5 ks k) j = (zel ks j || decide (k = j)):=by
 unfold ze5
 by_cases e : zel ks k = true
 ·rw [if_pos e]
  by_cases h : k = j
  ·subst h; rw [e]; rfl
  ·rw [decide_eq_false h,Bool.or_false]
 ·rw [if_neg e]
  unfold zel
  rw [List.any_append]
  simp
theorem z4l (ks : List Key) (k : Key) : (ze5 ks k).length <= ks.length + 1:=by
 unfold ze5
 split
 ·omega
 ·rw [List.length_append]; exact Nat.le_refl _
theorem z3l {i : Nat} {fk fv : List Sl -> Option D} {ρ : List Sl} {d x : D} {k : Key} {ks : List Key} {xs : List D} (h1 : fv ρ = some d) (h2 : fk ρ = some x) (h3 : zkz x = some k) (h4 : ρ[i]? = some (.ownd ks xs)) (hl : ks.length < 16777216) :
  zix i fk fv ρ = some (.nx (ρ.set i (.ownd (ze5 ks k) (zff ks xs k d)))):=by
 unfold zix
 rw [h1,Option.bind_some,h2,Option.bind_some,h3,Option.bind_some,h4]
 show (if ks.length < 16777216 then _ else none) = _
 rw [if_pos hl]
theorem zt6 (n : Int) (xs : List Int) (n0 : 0 <= n) (n1 : n <= 60) (hl : xs.length <= 63) : m_8 [.int n,.lst (xs.map D.int)] = some (.lst (((List.range n.toNat).map (inS xs)).map D.bl)):=by
 obtain ⟨ρ',e,ks,ds,s3,rfl,hk,hh⟩:=z7z (g:=zaq 3) (F:=zix 2 (zaa 3) (fun _=>some (.bl true))) (fi:=zbl (zaa 1)) (ρ:=[.im (.int n),.im (.lst (xs.map D.int)),.ownd [] [],.no]) xs D.int
  (fun pre ρ=>∃ (ks : List Key) (ds : List D) (s3 : Sl),ρ = [.im (.int n),.im (.lst (xs.map D.int)),.ownd ks ds,s3] /\ ks.length <= pre.length /\ ∀ k : Int,zel ks (.inl k) = pre.any fun x=>x == k)
  rfl ⟨[],[],.no,rfl,Nat.le_refl _,fun _=>rfl⟩ (by
   rintro pre x post ρ ex ⟨ks,ds,s3,rfl,hk,hh⟩
   have hp : pre.length < xs.length:=by rw [ex]; simp
   refine ⟨_,_,rfl,.inl (z3l (ks:=ks) (xs:=ds) (k:=.inl x) rfl rfl rfl rfl (by omega)),ze5 ks (.inl x),_,_,rfl,?_,fun k=>?_⟩
   ·have:=z4l ks (.inl x)
    rw [List.length_append]
    show _ <= pre.length + 1
    omega
   ·rw [z5m,hh,List.any_append]
    congr 1
    rw [List.any_cons,List.any_nil,Bool.or_false]
    by_cases h : x = k
    ·subst h; simp
    ·rw [decide_eq_false (fun q=>h (Sum.inl.inj q))]
     exact (beq_eq_false_iff_ne.mpr h).symm)
 refine zj6 (zcr rfl (zcr e ?_))
 show Option.map Fl.rtO (za6 _ _ _ _ _ _ [.im (.int n),.im (.lst (xs.map D.int)),.im (.dic ks ds),s3]) = _
 rw [List.map_map]
 refine congrArg (Option.map Fl.rtO) (zcs (List.range n.toNat) (fun (i : Nat)=>D.int i) _ (ze0 rfl n0 (by omega)) (by rw [List.length_range]; omega) fun j hj=>?_)
 refine zcp rfl rfl (zar (x:=.int j) (y:=.dic ks ds) rfl rfl ?_)
 show some (D.bl (zel ks (.inl (j : Int)))) = _
 rw [hh]
 rfl
theorem z0h (p : Prt) : zo1 [p.toD] = some p.obj:=by
 cases p <;> rfl
theorem zt4 {es : List (Option Bool)} {its : List (Int × Int)} (h : InN es.length its) (hz : its.length <= 100000) : zno [.lst (its.map itD),.lst (es.map shD)] = some (.int (zgk (· == some true) es its)):=by
 refine zca (zcj (zau (zad (zat (zd3 its itD (fun z=>es.getD z.1.toNat none == some true) (fun z=>D.int z.2) rfl (by omega) fun z hz'=>?_)) rfl) (zh4 (fun t=>es.getD t.toNat none == some true) its)))
 exact zdu rfl (zb0 (zar (zak rfl rfl (zdb (h z hz').1 (h z hz').2.1)) rfl (zen _ _))) fun _=>rfl
theorem zss {es : List (Option Bool)} {its : List (Int × Int)} (h : InN es.length its) (hz : its.length <= 100000) : zld [.lst (its.map itD),.lst (es.map shD)] = some (.int (zgk (fun e=>!(e == some false)) es its)):=by
 refine zca (zcj (zau (zad (zat (zd3 its itD (fun z=>!(es.getD z.1.toNat none == some false)) (fun z=>D.int z.2) rfl (by omega) fun z hz'=>?_)) rfl) (zh4 (fun t=>!(es.getD t.toNat none == some false)) its)))
 exact zdu rfl (zb0 (zar (zak rfl rfl (zdb (h z hz').1 (h z hz').2.1)) rfl (zj5 _ _))) fun _=>rfl
theorem zy2 {es : List (Option Bool)} {ws : List Bool} {its : List (Int × Int)} (h : InN es.length its) (hw : ws.length = es.length) (hz : its.length <= 100000) :
  zrm [.lst (its.map itD),.lst (ws.map D.bl)] = some (.lst ((its.filter fun z=>!(ws.getD z.1.toNat false)).map itD)):=by
 refine zj6 (congrArg (Option.map Fl.rtO) (zd3 its itD (fun z=>!(ws.getD z.1.toNat false)) itD rfl (by omega) fun z hz'=>?_))
 have hb:=h z hz'
 exact zdu rfl (zfl (zdc (zak rfl rfl (zfr hb.1 (by rw [hw]; exact hb.2.1))) rfl)) fun _=>rfl
theorem zy4 {es : List (Option Bool)} {ws : List Bool} {its : List (Int × Int)} (h : InN es.length its) (hz : its.length <= 100000) :
  zld [.lst ((its.filter fun z=>!(ws.getD z.1.toNat false)).map itD),.lst (es.map shD)] = some (.int (zf3 (fun t=>!(es.getD t.toNat none == some false) && !(ws.getD t.toNat false)) its)):=by
 have hl:=List.length_filter_le (fun z : Int × Int=>!(ws.getD z.1.toNat false)) its
 have hin : InN es.length (its.filter fun z=>!(ws.getD z.1.toNat false)):=fun z hz'=>h z (List.mem_filter.mp hz').1
 refine (zss hin (by omega)).trans ?_
 rw [zsm]
 exact congrArg (fun z=>some (D.int z)) (z2d (fun t=>!(es.getD t.toNat none == some false)) (fun t=>!(ws.getD t.toNat false)) its)
theorem z6r {es : List (Option Bool)} {ws : List Bool} (p : Prt) (h : p.Ok es.length) (hw : ws.length = es.length) : ∀ m,m = (match p with | .inn _=>m_16 | .out _=>m_17 | .least _ _=>m_18 | .most _ _=>m_19) ->
  m [p.obj,.lst (es.map shD),.lst (ws.map D.bl)] = some (.bl (p.lost es ws)):=by
 intro m e
 subst e
 cases p with
 | inn t=>exact zca (zcj (zol (zar (zak rfl rfl (zdb h.1 h.2)) rfl (zen _ _)) (zak rfl rfl (zfr h.1 (by rw [hw]; exact h.2)))))
 | out t=>exact zca (zcj (zar (zak rfl rfl (zdb h.1 h.2)) rfl (zen _ _)))
 | least k its=>exact zca (zcj (zar (zau (zad (zau rfl (zy2 h.1 hw h.2)) (zad rfl rfl)) (zy4 h.1 h.2)) rfl rfl))
 | most k its=>exact zca (zcj (zar (zau rfl (zt4 h.1 h.2)) rfl rfl))
theorem z4c {es : List (Option Bool)} {ws : List Bool} {fo : List Sl -> Option D} {fa : List Sl -> Option (List D)} {ρ : List Sl} (p : Prt) (h : p.Ok es.length) (hw : ws.length = es.length) (ho : fo ρ = some p.obj) (ha : fa ρ = some [.lst (es.map shD),.lst (ws.map D.bl)]) :
  zd6 (zdf "In" "lost" m_16 fo fa) (zd6 (zdf "Out" "lost" m_17 fo fa) (zd6 (zdf "Least" "lost" m_18 fo fa) (zdf "Most" "lost" m_19 fo fa))) ρ = some (.bl (p.lost es ws)):=by
 have hm:=z6r (ws:=ws) p h hw _ rfl
 cases p with
 | inn t=>exact zi0 ((zht ho rfl ha).trans hm)
 | out t=>exact zfp (zfm ho (by decide)) (zi0 ((zht ho rfl ha).trans hm))
 | least k its=>exact zfp (zfm ho (by decide)) (zfp (zfm ho (by decide)) (zi0 ((zht ho rfl ha).trans hm)))
 | most k its=>exact zfp (zfm ho (by decide)) (zfp (zfm ho (by decide)) (zfp (zfm ho (by decide)) ((zht ho rfl ha).trans hm)))
theorem z1p {es : List (Option Bool)} {fo : List Sl -> Option D} {fa : List Sl -> Option (List D)} {ρ : List Sl} (p : Prt) (h : p.Ok es.length) (ho : fo ρ = some p.obj) (ha : fa ρ = some [.lst (es.map shD)]) :
  zd6 (zdf "In" "sure" m_26 fo fa) (zd6 (zdf "Out" "sure" m_27 fo fa) (zd6 (zdf "Least" "sure" m_28 fo fa) (zdf "Most" "sure" m_29 fo fa))) ρ = some (.bl (p.sure es)):=by
 cases p with
 | inn t=>exact zi0 ((zht ho rfl ha).trans (zca (zcj (zar (zak rfl rfl (zdb h.1 h.2)) rfl (zen _ _)))))
 | out t=>exact zfp (zfm ho (by decide)) (zi0 ((zht ho rfl ha).trans (zca (zcj (zar (zak rfl rfl (zdb h.1 h.2)) rfl (zen _ _))))))
 | least k its=>exact zfp (zfm ho (by decide)) (zfp (zfm ho (by decide)) (zi0 ((zht ho rfl ha).trans (zca (zcj (zar (zau rfl (zt4 h.1 h.2)) rfl rfl))))))
 | most k its=>exact zfp (zfm ho (by decide)) (zfp (zfm ho (by decide)) (zfp (zfm ho (by decide)) ((zht ho rfl ha).trans (zca (zcj (zar (zau rfl (zss h.1 h.2)) rfl rfl))))))
theorem zuz {n : Nat} (r : Rul) (h : r.Ok n) : zmq [r.toD] = some (.lst (r.ps.map Prt.obj)) :=
 zj6 (congrArg (Option.map Fl.rtO) (zcs r.ps Prt.toD Prt.obj rfl (by have:=h.len; omega) fun p _=>zcp rfl rfl (zau rfl (z0h p))))
theorem z6w {es : List (Option Bool)} {ws : List Bool} (r : Rul) (h : r.Ok es.length) (hw : ws.length = es.length) : zqx [r.toD,.lst (es.map shD),.lst (ws.map D.bl)] = some (.bl (r.bodyLost es ws)):=by
 refine zca (zcj (zau (zad (zat (zcs r.ps Prt.obj (fun p=>D.bl (p.lost es ws)) (zcq (zau rfl (zuz r h)) rfl) (by have:=h.len; omega) fun p hp=>?_)) rfl) (any_map _ _)))
 exact zcp rfl rfl (z4c p (h.ps p hp) hw rfl rfl)
theorem z7k {es : List (Option Bool)} (r : Rul) (h : r.Ok es.length) : zrr [r.toD,.lst (es.map shD)] = some (.bl (r.bodySure es)):=by
 refine zca (zcj (zau (zad (zat (zcs r.ps Prt.obj (fun p=>D.bl (p.sure es)) (zcq (zau rfl (zuz r h)) rfl) (by have:=h.len; omega) fun p hp=>?_)) rfl) (all_map _ _)))
 exact zcp rfl rfl (z1p p (h.ps p hp) rfl rfl)
theorem z67 {es : List (Option Bool)} (r : Rul) (h : r.Ok es.length) : zrf [r.toD,.lst (es.map shD)] = some (.bl (r.surely es)):=by
 have hb:=z7k r h
 have hh:=h.hd
 obtain ⟨w,hd,ps⟩:=r
 cases w with
 | may=>exact zca (zez (zex rfl rfl))
 | never=>exact zca (zcr (zc0 rfl rfl) (zcr (zc0 (zls rfl) rfl) (zcj (zau rfl hb))))
 | make =>
  obtain ⟨h0,h1⟩:=hh (fun z=>by cases z)
  have e : mB (m2 zdq (mIx (zaf 1) (mIx (zaf 0) (fun _=>some (.int 1)))) (fun _=>some (.bl false))) [.im (Rul.toD ⟨.make,hd,ps⟩),.im (.lst (es.map shD))] = some (!(es.getD hd.toNat none == some false)) :=
   zb0 (zar (zak rfl rfl (zdb h0 h1)) rfl (zj5 _ _))
  cases hc : (es.getD hd.toNat none == some false) with
  | true =>
   rw [hc] at e
   refine (zca (zcr (zc0 rfl rfl) (zcr (zc0 (ziq rfl e) rfl) (zcj (zau rfl hb))))).trans ?_
   show _ = some (D.bl ((es.getD hd.toNat none == some false) && _))
   rw [hc]
   rfl
  | false =>
   rw [hc] at e
   refine (zca (zcr (zc0 rfl rfl) (zez (zex (ziq rfl e) rfl)))).trans ?_
   show _ = some (D.bl ((es.getD hd.toNat none == some false) && _))
   rw [hc]
   rfl
noncomputable def plD (n : Int) (rs : List Rul) : D:=.tup [.int n,.lst (rs.map Rul.toD)]
noncomputable def hup (es : List (Option Bool)) (wo : List Bool) (r : Rul) : Bool:=r.w != .never && (wo.getD r.hd.toNat false && !(r.bodyLost es wo))
theorem zqy {r : Rul} (h : r.w ≠ .never) : atI [.str r.w.s,r.hdD,.lst (r.ps.map Prt.toD)] 1 = some (.int r.hd):=by
 obtain ⟨w,hd,ps⟩:=r
 cases w <;> first | rfl | exact absurd rfl h
theorem z57 {r : Rul} (h : r.w = .never) : atI [.str r.w.s,r.hdD,.lst (r.ps.map Prt.toD)] 1 = some .non:=by
 obtain ⟨w,hd,ps⟩:=r
 cases h
 rfl
theorem zsb {r : Rul} (h : r.w ≠ .never) : (r.w != .never) = true:=by
 obtain ⟨w,hd,ps⟩:=r
 cases w <;> first | rfl | exact absurd rfl h
theorem zxj {es : List (Option Bool)} {wo : List Bool} (r : Rul) (h : r.Ok es.length) (hw : wo.length = es.length) : zrd [r.toD,.lst (es.map shD),.lst (wo.map D.bl)] = some (.bl (hup es wo r)):=by
 have el:=z6w (ws:=wo) r h hw
 apply zec
 unfold b_45
 show wp _ [.im r.toD,.im (.lst (es.map shD)),.im (.lst (wo.map D.bl)),.no] _
 by_cases hn : r.w = .never
 ·apply zam
  refine zbr (d:=.non) (zak rfl rfl (z57 hn)) ?_
  walk_at "nrm"
  refine zbx (d:=.bl false) (by unfold zd2; rfl) (zbs ?_)
  unfold hup
  rw [hn]
  rfl
 ·obtain ⟨h0,h1⟩:=h.hd hn
  apply zam
  refine zbr (d:=.int r.hd) (zak rfl rfl (zqy hn)) ?_
  walk_at "nrm"
  refine zbx (zhq (a:=true) rfl (zhq (zak rfl rfl (zfr h0 (by omega))) (zgi (zau rfl el)))) (zbs ?_)
  unfold hup
  rw [zsb hn]
theorem z8x {es : List (Option Bool)} {wo : List Bool} (p : Prt) (h : p.Ok es.length) (hw : wo.length = es.length) : zrb [p.toD,.lst (es.map shD),.lst (wo.map D.bl)] = some (.bl (p.lost es wo)):=by
 cases p with
 | inn t=>exact zca (zez (zex rfl (zcj (zol (zar (zak rfl (zak rfl rfl rfl) (zdb h.1 h.2)) rfl (zen _ _)) (zak rfl (zak rfl rfl rfl) (zfr h.1 (by rw [hw]; exact h.2)))))))
 | out t=>exact zca (zcr (zc0 rfl rfl) (zez (zex rfl (zcj (zar (zak rfl (zak rfl rfl rfl) (zdb h.1 h.2)) rfl (zen _ _))))))
 | least k its =>
  refine zca (zcr (zc0 rfl rfl) (zcr (zc0 rfl rfl) (zez (zex rfl (zcr (zuk (zat (zd3 its itD (fun z=>!(es.getD z.1.toNat none == some false) && !(wo.getD z.1.toNat false)) (fun z=>D.int z.2) (zcq (zak rfl rfl rfl) rfl) (by have:=h.2; omega) fun z hz=>?_))) (zcj (zar (zau rfl (zh4 (fun t=>!(es.getD t.toNat none == some false) && !(wo.getD t.toNat false)) its)) (zak rfl rfl rfl) rfl)))))))
  have hb:=h.1 z hz
  exact zdu rfl (zh2 (zb0 (zar (zak rfl rfl (zdb hb.1 hb.2.1)) rfl (zj5 _ _))) (zfl (zdc (zak rfl rfl (zfr hb.1 (by rw [hw]; exact hb.2.1))) rfl))) fun _=>rfl
 | most k its =>
  refine zca (zcr (zc0 rfl rfl) (zcr (zc0 rfl rfl) (zcr (zc0 rfl rfl) (zcj (zar (zau (zad (zat (zd3 its itD (fun z=>es.getD z.1.toNat none == some true) (fun z=>D.int z.2) (zcq (zak rfl rfl rfl) rfl) (by have:=h.2; omega) fun z hz=>?_)) rfl) (zh4 (fun t=>es.getD t.toNat none == some true) its)) (zak rfl rfl rfl) rfl)))))
  have hb:=h.1 z hz
  exact zdu rfl (zb0 (zar (zak rfl rfl (zdb hb.1 hb.2.1)) rfl (zen _ _))) fun _=>rfl
theorem zt3 {es : List (Option Bool)} {wo : List Bool} (r : Rul) (h : r.Ok es.length) (hw : wo.length = es.length) : zn5 [r.toD,.lst (es.map shD),.lst (wo.map D.bl)] = some (.bl (hup es wo r)):=by
 apply zec
 unfold b_22
 show wp _ [.im r.toD,.im (.lst (es.map shD)),.im (.lst (wo.map D.bl))] _
 by_cases hn : r.w = .never
 ·apply zam
  refine zaz (b:=true) (zla (zb0 (zar (zak rfl rfl rfl) rfl (by rw [zmw,hn]; rfl)))) (fun _=>zbx rfl (zbs ?_)) (fun z=>by cases z)
  unfold hup
  rw [hn]
  rfl
 ·obtain ⟨h0,h1⟩:=h.hd hn
  have e0 : (r.w.s == "never") = false:=by
   obtain ⟨w,hd,ps⟩:=r
   cases w <;> first | rfl | exact absurd rfl hn
  apply zam
  refine zaz (b:=!(wo.getD r.hd.toNat false)) (zhd (zb0 (zar (zak rfl rfl rfl) rfl (by rw [zmw,e0]))) (zfl (zdc (zak rfl (zak rfl rfl (zqy hn)) (zfr h0 (by omega))) rfl))) (fun z=>zbx rfl (zbs ?_)) (fun z=>zbo ?_)
  ·have z : wo.getD r.hd.toNat false = false:=by simpa using z
   unfold hup
   rw [z,Bool.false_and,Bool.and_false]
  ·have z : wo.getD r.hd.toNat false = true:=by simpa using z
   walk_at "nrm"
   refine zbx (zgi (zau (zad (zat (zcs r.ps Prt.toD (fun p=>D.bl (p.lost es wo)) (zcq (zak rfl rfl rfl) rfl) (by have:=h.len; omega) fun p hp=>zcp rfl rfl (zau rfl (z8x p (h.ps p hp) hw)))) rfl) (any_map _ _))) (zbs ?_)
   unfold hup
   rw [z,zsb hn,Bool.true_and,Bool.true_and]
   rfl
noncomputable def ct (bs : List Bool) : Nat:=(bs.filter fun b=>b).length
theorem z1l (bs : List Bool) : ct bs <= bs.length:=List.length_filter_le _ _
theorem zu9 : ∀ (bs : List Bool) (k : Nat),bs.getD k false = true -> ct (bs.set k false) + 1 = ct bs
 | [],k,h=>by simp at h
 | b :: bs,0,h=>by
  have h : b = true:=h
  subst h
  rfl
 | b :: bs,k + 1,h=>by
  have ih:=zu9 bs k (by simpa using h)
  cases b with
  | false=>exact ih
  | true =>
   show (ct (bs.set k false) + 1) + 1 = ct bs + 1
   rw [ih]
theorem z70 (bs : List Bool) (k : Nat) (b : Bool) : (bs.map D.bl).set k (.bl b) = (bs.set k b).map D.bl:=by rw [List.map_set]
noncomputable def zif (es : List (Option Bool)) : List Bool:=es.map fun e=>!(e == some false)
theorem zyz {es : List (Option Bool)} {fi : List Sl -> Option (List D)} {ρ : List Sl} (hi : fi ρ = some (es.map shD)) (hz : es.length <= 1000) : za6 1 [] fi (zaq 0) (fun _=>some true) (m2 zdq (zaa 0) (fun _=>some (.bl false))) ρ = some ((zif es).map D.bl):=by
 unfold zif
 rw [<- z5c]
 exact zcs es shD (fun e=>D.bl (!(e == some false))) hi (by omega) fun e _=>zcp rfl rfl (zar rfl rfl (zj5 _ _))
theorem zy6 (rs : List Rul) (hz : rs.length <= 1000) (hp : ∀ r ∈ rs,r.ps.length <= 1000) : m_9 [.lst (rs.map Rul.toD)] = some (.lst (rs.map Rul.toD)):=by
 apply zec
 unfold b_9
 show wp _ [.im (.lst (rs.map Rul.toD)),.no,.no,.no,.no,.no,.no] _
 walk_at "set"
 apply zam
 refine zd7 rs Rul.toD (fun pre ρ=>∃ v2 v3 v4 v5 v6,ρ = [.im (.lst (rs.map Rul.toD)),.own (pre.map Rul.toD),v2,v3,v4,v5,v6]) rfl ⟨_,_,_,_,_,rfl⟩ ?_ ?_
 ·rintro pre r post ρ ex ⟨v2,v3,v4,v5,v6,rfl⟩
  have hr : r ∈ rs:=by rw [ex]; simp
  have hpl : pre.length < rs.length:=by rw [ex]; simp
  have hp:=hp r hr
  refine ⟨_,rfl,?_⟩
  walk_at "nrm"
  apply zam
  refine zes (d:=[]) rfl ?_
  walk_at "nrm"
  apply zam
  refine zd7 r.ps Prt.toD (fun pr ρ=>∃ v6,ρ = [.im (.lst (rs.map Rul.toD)),.own (pre.map Rul.toD),.im (.str r.w.s),.im r.hdD,.im (.lst (r.ps.map Prt.toD)),.own (pr.map Prt.toD),v6]) rfl ⟨_,rfl⟩ ?_ ?_
  ·rintro pr p po ρ ex2 ⟨v6,rfl⟩
   have hpp : pr.length < r.ps.length:=by rw [ex2]; simp
   refine ⟨_,rfl,?_⟩
   walk_at "nrm"
   refine zig (fun ρ'=>ρ' = [.im (.lst (rs.map Rul.toD)),.own (pre.map Rul.toD),.im (.str r.w.s),.im r.hdD,.im (.lst (r.ps.map Prt.toD)),.own (pr.map Prt.toD),.im p.toD]) ?_ ?_
   ·cases p with
    | inn t=>exact zaz (b:=false) rfl (fun z=>by cases z) (fun _=>zbo (k_J rfl))
    | out t=>exact zaz (b:=false) rfl (fun z=>by cases z) (fun _=>zbo (k_J rfl))
    | least k its=>exact zaz (b:=true) rfl (fun _=>zbr (zb7 (zad (zak rfl rfl rfl) (zad (zak rfl rfl rfl) (zad (zat (zcq (zak rfl rfl rfl) rfl)) rfl)))) (k_J rfl)) (fun z=>by cases z)
    | most k its=>exact zaz (b:=true) rfl (fun _=>zbr (zb7 (zad (zak rfl rfl rfl) (zad (zak rfl rfl rfl) (zad (zat (zcq (zak rfl rfl rfl) rfl)) rfl)))) (k_J rfl)) (fun z=>by cases z)
   ·rintro ρ' rfl
    refine zhy rfl rfl (by rw [List.length_map]; omega) ?_
    exact ⟨.im p.toD,by rw [List.map_append]; rfl⟩
  ·rintro ρ ⟨v6,rfl⟩
   refine zhc rfl ?_
   refine zhy (zb7 (zad rfl (zad rfl (zad rfl rfl)))) rfl (by rw [List.length_map]; omega) ?_
   exact ⟨.im (.str r.w.s),.im r.hdD,.im (.lst (r.ps.map Prt.toD)),.im (.lst (r.ps.map Prt.toD)),v6,by rw [List.map_append]; rfl⟩
 ·rintro ρ ⟨v2,v3,v4,v5,v6,rfl⟩
  exact zgx rfl (zks rfl)
theorem zzc {es : List (Option Bool)} (p : Prt) (h : p.Ok es.length) : zn8 [p.toD,.lst (es.map shD)] = some (.bl (p.sure es)):=by
 cases p with
 | inn t=>exact zca (zez (zex rfl (zcj (zar (zak rfl (zak rfl rfl rfl) (zdb h.1 h.2)) rfl (zen _ _)))))
 | out t=>exact zca (zcr (zc0 rfl rfl) (zez (zex rfl (zcj (zar (zak rfl (zak rfl rfl rfl) (zdb h.1 h.2)) rfl (zen _ _))))))
 | least k its =>
  refine zca (zcr (zc0 rfl rfl) (zcr (zc0 rfl rfl) (zez (zex rfl (zcj (zar (zau (zad (zat (zd3 its itD (fun z=>es.getD z.1.toNat none == some true) (fun z=>D.int z.2) (zcq (zak rfl rfl rfl) rfl) (by have:=h.2; omega) fun z hz=>?_)) rfl) (zh4 (fun t=>es.getD t.toNat none == some true) its)) (zak rfl rfl rfl) rfl))))))
  have hb:=h.1 z hz
  exact zdu rfl (zb0 (zar (zak rfl rfl (zdb hb.1 hb.2.1)) rfl (zen _ _))) fun _=>rfl
 | most k its =>
  refine zca (zcr (zc0 rfl rfl) (zcr (zc0 rfl rfl) (zcr (zc0 rfl rfl) (zcj (zar (zau (zad (zat (zd3 its itD (fun z=>!(es.getD z.1.toNat none == some false)) (fun z=>D.int z.2) (zcq (zak rfl rfl rfl) rfl) (by have:=h.2; omega) fun z hz=>?_)) rfl) (zh4 (fun t=>!(es.getD t.toNat none == some false)) its)) (zak rfl rfl rfl) rfl)))))
  have hb:=h.1 z hz
  exact zdu rfl (zb0 (zar (zak rfl rfl (zdb hb.1 hb.2.1)) rfl (zj5 _ _))) fun _=>rfl
theorem zpo {es : List (Option Bool)} (r : Rul) (h : r.Ok es.length) : m_6 [r.toD,.lst (es.map shD)] = some (.bl (r.surely es)):=by
 have hb : ∀ ρ : List Sl,ρ = [.im r.toD,.im (.lst (es.map shD))] -> (zap zfz (zab (zal (za6 1 [1] (zbl (mIx (zaf 0) (fun _=>some (.int 2)))) (zaq 0) (fun _=>some true) (zap zn8 (zab (zaa 0) (zab (zaa 1) (fun _=>some [])))))) (fun _=>some []))) ρ = some (.bl (r.bodySure es)):=fun ρ e=>by
  subst e
  exact zau (zad (zat (zcs r.ps Prt.toD (fun p=>D.bl (p.sure es)) (zcq (zak rfl rfl rfl) rfl) (by have:=h.len; omega) fun p hp=>zcp rfl rfl (zau rfl (zzc p (h.ps p hp))))) rfl) (all_map _ _)
 have hh:=h.hd
 have hb:=hb _ rfl
 obtain ⟨w,hd,ps⟩:=r
 cases w with
 | may=>exact zca (zez (zex (zla rfl) rfl))
 | never=>exact zca (zcr (zc0 (zhd rfl (zls rfl)) rfl) (zcj hb))
 | make =>
  obtain ⟨h0,h1⟩:=hh (fun z=>by cases z)
  have e : mB (m2 zdq (mIx (zaf 1) (mIx (zaf 0) (fun _=>some (.int 1)))) (fun _=>some (.bl false))) [.im (Rul.toD ⟨.make,hd,ps⟩),.im (.lst (es.map shD))] = some (!(es.getD hd.toNat none == some false)) :=
   zb0 (zar (zak rfl (zak rfl rfl rfl) (zdb h0 h1)) rfl (zj5 _ _))
  cases hc : (es.getD hd.toNat none == some false) with
  | true =>
   rw [hc] at e
   refine (zca (zcr (zc0 (zhd rfl (ziq rfl e)) rfl) (zcj hb))).trans ?_
   show _ = some (D.bl ((es.getD hd.toNat none == some false) && _))
   rw [hc]
   rfl
  | false =>
   rw [hc] at e
   refine (zca (zez (zex (zhd rfl (ziq rfl e)) rfl))).trans ?_
   show _ = some (D.bl ((es.getD hd.toNat none == some false) && _))
   rw [hc]
   rfl
theorem zpc {α : Type} (f : α -> Bool) (xs : List α) : zfz [.lst (xs.map fun x=>D.bl (f x))] = some (.bl (xs.all f)):=by
 have e : (xs.map fun x=>D.bl (f x)) = (xs.map f).map D.bl:=by rw [List.map_map]; rfl
 rw [e]
 show (zem ((xs.map f).map D.bl)).map (fun bs=>D.bl (bs.all id)) = _
 rw [zmr,Option.map_some,List.all_map]
 rfl
theorem zjk {α : Type} (f : α -> Bool) (xs : List α) : zfd [.lst (xs.map fun x=>D.bl (f x))] = some (.bl (xs.any f)):=by
 have e : (xs.map fun x=>D.bl (f x)) = (xs.map f).map D.bl:=by rw [List.map_map]; rfl
 rw [e]
 show (zem ((xs.map f).map D.bl)).map (fun bs=>D.bl (bs.any id)) = _
 rw [zmr,Option.map_some,List.any_map]
 rfl
theorem zt5 (e : Option Bool) (b : Bool) : dEq (shD e) (.bl b) = some (.bl (e == some b)):=by
 cases e with
 | none=>cases b <;> rfl
 | some c=>cases b <;> cases c <;> rfl
theorem zuo (e : Option Bool) : zdq (shD e) .non = some (.bl e.isSome):=by cases e <;> rfl
noncomputable def brD (z : Int × Bool) : D:=.tup [.int z.1,.bl z.2]
noncomputable def zf5 (n : Nat) (zs : List (Int × Bool)) : Prop:=(∀ z ∈ zs,0 <= z.1 /\ z.1 < (n : Int)) /\ zs.length <= 60
noncomputable def zd0 (n : Nat) (xs : List Int) : Prop:=(∀ x ∈ xs,0 <= x /\ x < (n : Int)) /\ xs.length <= 63
noncomputable def zf9 (es : List (Option Bool)) (zs : List (Int × Bool)) : Bool:=zs.all fun z=>es.getD z.1.toNat none == some z.2
theorem zyi {es : List (Option Bool)} {zs : List (Int × Bool)} (h : zf5 es.length zs) : zpn [.lst (es.map shD),.lst (zs.map brD)] = some (.bl (zf9 es zs)) :=
 zca (zcj (zau (zad (zat (zcs zs brD (fun z=>D.bl (es.getD z.1.toNat none == some z.2)) rfl (by have:=h.2; omega) fun z hz=>zcp rfl rfl (zar (zak rfl rfl (zdb (h.1 z hz).1 (h.1 z hz).2)) rfl (zt5 _ _)))) rfl) (zpc _ _)))
theorem zs5 {es : List (Option Bool)} {zs : List (Int × Bool)} (h : zf5 es.length zs) : znd [.lst (es.map shD),.lst (zs.map brD)] = some (.bl (zf9 es zs)) :=
 zca (zcj (zau (zad (zat (zcs zs brD (fun z=>D.bl (es.getD z.1.toNat none == some z.2)) rfl (by have:=h.2; omega) fun z hz=>zcp rfl rfl (zar (zak rfl rfl (zdb (h.1 z hz).1 (h.1 z hz).2)) rfl (zt5 _ _)))) rfl) (zpc _ _)))
theorem zyb {es : List (Option Bool)} {wo : List Bool} {r : Rul} (h : hup es wo r = true) : r.w ≠ .never /\ wo.getD r.hd.toNat false = true:=by
 unfold hup at h
 have h' : r.w ≠ .never /\ wo.getD r.hd.toNat false = true /\ r.bodyLost es wo = false:=by simpa using h
 exact ⟨h'.1,h'.2.1⟩
theorem z86 (rs : List Rul) (es : List (Option Bool)) (n60 : es.length <= 60) (hok : ∀ r ∈ rs,r.Ok es.length) : ∃ wo : List Bool,zrw [.lst (rs.map Rul.toD),.lst (es.map shD)] = some (.lst (wo.map D.bl)) /\ wo.length = es.length:=by
 have hno : (zif es).length = es.length:=by unfold zif; rw [List.length_map]
 have : wp b_14 (zdt 5 [.lst (rs.map Rul.toD),.lst (es.map shD)]) (fun o=>∃ wo : List Bool,o = .rtO (wo.map D.bl) /\ wo.length = es.length):=by
  unfold b_14
  show wp _ [.im (.lst (rs.map Rul.toD)),.im (.lst (es.map shD)),.no,.no,.no] _
  apply zam
  refine zes (zyz rfl (by omega)) ?_
  walk_at "nrm"
  apply zam
  refine zbr (d:=.bl true) rfl ?_
  walk_at "nrm"
  apply zam
  refine ztf (fun m ρ=>∃ (wo : List Bool) (ch : Bool) (v4 : Sl),ρ = [.im (.lst (rs.map Rul.toD)),.im (.lst (es.map shD)),.own (wo.map D.bl),.im (.bl ch),v4] /\ wo.length = es.length /\ ct wo + (if ch then 1 else 0) = m) ?_ _ (ct (zif es) + 1) _ ⟨zif es,true,.no,rfl,hno,rfl⟩ (by have:=z1l (zif es); omega)
  rintro m ρ ⟨wo,ch,v4,rfl,hl,hm⟩
  refine ⟨ch,rfl,?_,?_⟩
  ·rintro rfl
   apply zam
   refine zbr (d:=.bl false) rfl ?_
   walk_at "nrm"
   refine zd7 rs Rul.toD (fun _ ρ=>∃ (wo' : List Bool) (ch : Bool) (v4 : Sl),ρ = [.im (.lst (rs.map Rul.toD)),.im (.lst (es.map shD)),.own (wo'.map D.bl),.im (.bl ch),v4] /\ wo'.length = es.length /\ ct wo' + (if ch then 1 else 0) <= ct wo) rfl ⟨wo,false,v4,rfl,hl,Nat.le_refl _⟩ ?_ ?_
   ·rintro pre r post ρ ex ⟨wo',ch,v4,rfl,hl',hc⟩
    have hrs : r ∈ rs:=by rw [ex]; simp
    have er:=zt3 (wo:=wo') r (hok r hrs) hl'
    refine ⟨_,rfl,?_⟩
    walk_at "nrm"
    refine zaz (zdc (zl2 (zad rfl (zad rfl (zad rfl rfl))) er rfl) rfl) (fun z=>?_) (fun z=>?_)
    ·obtain ⟨a,b⟩:=zyb z
     obtain ⟨h0,h1⟩:=(hok r hrs).hd a
     have hcs:=zu9 wo' r.hd.toNat b
     apply zam
     refine zio (k:=r.hd) (xs:=wo'.map D.bl) rfl (zak rfl rfl (zqy a)) rfl h0 (by rw [List.length_map]; omega) ?_
     walk_at "nrm"
     refine zbr rfl ?_
     refine ⟨wo'.set r.hd.toNat false,true,.im r.toD,by rw [<- z70]; rfl,by rw [List.length_set]; exact hl',?_⟩
     rw [if_pos rfl]
     have : ct wo' <= ct wo:=Nat.le_trans (Nat.le_add_right _ _) hc
     omega
    ·exact zbo ⟨wo',ch,.im r.toD,rfl,hl',hc⟩
   ·rintro ρ ⟨wo',ch,v4,rfl,hl',hc⟩
    rw [if_pos rfl] at hm
    exact ⟨_,by omega,wo',ch,v4,rfl,hl',rfl⟩
  ·rintro rfl
   exact zgx rfl ⟨wo,rfl,hl⟩
 obtain ⟨o,e,wo,rfl,hl⟩:=this
 exact ⟨wo,zj6 e,hl⟩
theorem z00 (cm : Bool) (c n : Int) (n0 : 0 <= n) (n60 : n <= 60) : ∃ d,zph [.int c,.int n,.bl cm] = some d /\ ∃ r : Rul,d = r.toD /\ r.Ok n.toNat /\ r.ps.length <= 3:=by
 apply zgu
 unfold b_43
 show wp _ [.im (.int c),.im (.int n),.im (.bl cm),.no,.no] _
 obtain ⟨d,em,xs,rfl,hl,hx⟩:=zl7 c 33 (by decide) (by decide)
 have hl' : xs.length = 33:=by omega
 obtain ⟨a0,h0,e0⟩:=zb4 (f:=D.int) (xs:=xs) (i:=0) (by decide) (by omega)
 obtain ⟨a1,h1,e1⟩:=zb4 (f:=D.int) (xs:=xs) (i:=1) (by decide) (by omega)
 obtain ⟨a2,h2,e2⟩:=zb4 (f:=D.int) (xs:=xs) (i:=2) (by decide) (by omega)
 walk_at "set"
 apply zam
 walk_at "if0"
 ·intro hb
  have hn : n = 0:=by simpa using hb
  subst hn
  obtain ⟨wd,hwd,ew⟩:=zb4 (f:=D.str) (xs:=["least","most"]) (i:=a0 % 2) (Int.emod_nonneg _ (by decide)) (Int.emod_lt_of_pos _ (by decide))
  have hw2:=List.mem_of_getElem? hwd
  simp only [List.mem_cons,List.not_mem_nil,or_false] at hw2
  obtain ⟨p,ep,hp⟩ : ∃ p : Prt,p.toD = .tup [.str wd,.int (a1 % 3 - 1),.lst []] /\ p.Ok 0:=by
   rcases hw2 with rfl | rfl
   ·exact ⟨.least (a1 % 3 - 1) [],rfl,⟨(fun z hz=>nomatch hz),by decide⟩⟩
   ·exact ⟨.most (a1 % 3 - 1) [],rfl,⟨(fun z hz=>nomatch hz),by decide⟩⟩
  have es : mSl (zal (zab (zbn (zab (mIx (zab (fun _=>some (.str "least")) (zab (fun _=>some (.str "most")) (fun _=>some []))) (m2 zbv (mIx (zaf 3) (fun _=>some (.int 0))) (fun _=>some (.int 2)))) (zab (m2 zh6 (m2 zbv (mIx (zaf 3) (fun _=>some (.int 1))) (fun _=>some (.int 3))) (fun _=>some (.int 1))) (zab (zal (fun _=>some [])) (fun _=>some []))))) (fun _=>some []))) (fun _=>some none) (mPt (m2 zbv (mIx (zaf 3) (fun _=>some (.int 2))) (fun _=>some (.int 6)))) [.im (.int c),.im (.int 0),.im (.bl cm),.im (.lst (xs.map D.int)),.no] = some ((([p].drop (HT.sIx [p].length 0 none)).take (HT.sIx [p].length [p].length (some (a2 % 6)) - HT.sIx [p].length 0 none)).map Prt.toD):=by
   refine zc6 (xs:=[p]) (g:=Prt.toD) ?_ rfl ?_
   ·rw [List.map_cons,List.map_nil,ep]
    walk_at "ev"
   ·unfold mPt
    rw [show (m2 zbv (mIx (zaf 3) (fun _=>some (.int 2))) (fun _=>some (.int 6))) [.im (.int c),.im (.int 0),.im (.bl cm),.im (.lst (xs.map D.int)),.no] = some (.int (a2 % 6)) by walk_at "ev"]
    rfl
  refine zbx (zb7 (zad rfl (zad rfl (zad (zat es) rfl)))) (zbs ⟨⟨.never,0,_⟩,rfl,⟨fun h=>absurd rfl h,fun q hq=>?_,?_⟩,?_⟩)
  ·have : q = p:=by simpa using zuy hq
   rw [this]
   exact hp
  ·show (List.take _ (List.drop _ [p])).length <= _
   rw [List.length_take,List.length_drop]
   show min _ (1 - _) <= _
   omega
  ·show (List.take _ (List.drop _ [p])).length <= _
   rw [List.length_take,List.length_drop]
   show min _ (1 - _) <= _
   omega
 ·intro hb
  have hn : n ≠ 0:=by simpa using hb
  have n1 : 1 <= n:=by omega
  apply zbo
  walk_at "nrm"
  obtain ⟨t,ht,et⟩:=zb4 (f:=D.int) (xs:=[1,1,2,2,3,0]) (i:=a0 % 6) (Int.emod_nonneg _ (by decide)) (Int.emod_lt_of_pos _ (by decide))
  have t3 : 0 <= t /\ t <= 3:=by
   have : ∀ x ∈ ([1,1,2,2,3,0] : List Int),0 <= x /\ x <= 3:=by decide
   exact this t (List.mem_of_getElem? ht)
  obtain ⟨ps,ep,lp,hp⟩:=zt0 (k:=1) (js:=[1,3]) (fi:=(zdn (zab (mIx (zab (fun _=>some (.int 1)) (zab (fun _=>some (.int 1)) (zab (fun _=>some (.int 2)) (zab (fun _=>some (.int 2)) (zab (fun _=>some (.int 3)) (zab (fun _=>some (.int 0)) (fun _=>some []))))))) (m2 zbv (mIx (zaf 3) (fun _=>some (.int 0))) (fun _=>some (.int 6)))) (fun _=>some [])))) (g:=zaq 0) (ft:=fun _=>some true) (fe:=(zap zn4 (zab (zal (mSl (zaa 2) (mPt (m2 zci (fun _=>some (.int 3)) (m2 zdd (fun _=>some (.int 10)) (zaa 0)))) (mPt (m2 zci (fun _=>some (.int 13)) (m2 zdd (fun _=>some (.int 10)) (zaa 0)))))) (zab (zaa 1) (fun _=>some []))))) (ρ:=[.im (.int c),.im (.int n),.im (.bl cm),.im (.lst (xs.map D.int)),.no]) (List.range t.toNat) (fun (i : Nat)=>D.int i) Prt.toD (fun p=>p.Ok n.toNat) (ze0 (by walk_at "ev") t3.1 (by omega)) (by rw [List.length_range]; omega) fun i hi=>by
   have hi:=List.mem_range.mp hi
   have es : mSl (zaa 2) (mPt (m2 zci (fun _=>some (.int 3)) (m2 zdd (fun _=>some (.int 10)) (zaa 0)))) (mPt (m2 zci (fun _=>some (.int 13)) (m2 zdd (fun _=>some (.int 10)) (zaa 0)))) [.im (.int i),.im (.int n),.im (.lst (xs.map D.int))] = some ((((xs.drop (HT.sIx xs.length 0 (some (3 + 10 * (i : Int)))))).take (HT.sIx xs.length xs.length (some (13 + 10 * (i : Int))) - HT.sIx xs.length 0 (some (3 + 10 * (i : Int))))).map D.int):=by
    refine zc6 rfl ?_ ?_
    ·unfold mPt
     rw [show (m2 zci (fun _=>some (.int 3)) (m2 zdd (fun _=>some (.int 10)) (zaa 0))) [.im (.int i),.im (.int n),.im (.lst (xs.map D.int))] = some (.int (3 + 10 * (i : Int))) by walk_at "ev"]
     rfl
    ·unfold mPt
     rw [show (m2 zci (fun _=>some (.int 13)) (m2 zdd (fun _=>some (.int 10)) (zaa 0))) [.im (.int i),.im (.int n),.im (.lst (xs.map D.int))] = some (.int (13 + 10 * (i : Int))) by walk_at "ev"]
     rfl
   obtain ⟨d,ed,p,rfl,hp,_⟩:=z3y ((xs.drop (HT.sIx xs.length 0 (some (3 + 10 * (i : Int))))).take (HT.sIx xs.length xs.length (some (13 + 10 * (i : Int))) - HT.sIx xs.length 0 (some (3 + 10 * (i : Int))))) n (by
    rw [List.length_take,List.length_drop,show (3 + 10 * (i : Int)) = ((3 + 10 * i : Nat) : Int) by omega,show (13 + 10 * (i : Int)) = ((13 + 10 * i : Nat) : Int) by omega,HT.sIx_nat,HT.sIx_nat]
    omega) (fun y hy=>hx y (zuy hy)) n1 n60
   exact ⟨p,hp,zcp rfl rfl (zau (zad (zat es) (zad rfl rfl)) ed)⟩
  rw [List.length_range] at lp
  apply zam
  refine zbr (zat ep) ?_
  walk_at "nrm"
  have eN : (m2 dNe (zaa 4) (zal (fun _=>some []))) [.im (.int c),.im (.int n),.im (.bl cm),.im (.lst (xs.map D.int)),.im (.lst (ps.map Prt.toD))] = some (.bl (!ps.isEmpty)):=zar rfl rfl (zjl _ _)
  apply zam
  walk_at "if0"
  ·intro _
   walk_at "if0"
   exact zbs ⟨⟨.never,0,ps⟩,rfl,⟨fun h=>absurd rfl h,hp,by show ps.length <= _; omega⟩,by show ps.length <= 3; omega⟩
  ·intro _
   apply zbo
   walk_at "nrm"
   obtain ⟨w,hw,ew⟩:=zb4 (f:=fun w : Wrd=>D.str w.s) (xs:=[.make,.may]) (i:=a1 / 8 % 2) (Int.emod_nonneg _ (by decide)) (Int.emod_lt_of_pos _ (by decide))
   have q0:=Int.emod_nonneg (a2 / 4) (show n ≠ 0 by omega)
   have q1:=Int.emod_lt_of_pos (a2 / 4) (show 0 < n by omega)
   walk_at "if0"
   refine zbs ⟨⟨w,a2 / 4 % n,ps⟩,?_,⟨fun _=>⟨q0,by show a2 / 4 % n < _; omega⟩,hp,by show ps.length <= _; omega⟩,by show ps.length <= 3; omega⟩
   have hw2:=List.mem_of_getElem? hw
   simp only [List.mem_cons,List.not_mem_nil,or_false] at hw2
   rcases hw2 with rfl | rfl <;> rfl
noncomputable def zer : Rul:=⟨.never,0,[]⟩
inductive Wy where
 | rul (k : Int)
 | bar (k : Int)
 | wld (k : Int)
 | grp (xs : List Int)
noncomputable def Wy.toD : Wy -> D
 | .rul k=>.tup [.str "rule",.int k]
 | .bar k=>.tup [.str "bar",.int k]
 | .wld k=>.tup [.str "world",.int k]
 | .grp xs=>.tup [.str "group",.lst (xs.map D.int)]
noncomputable def Wy.Ok (n : Nat) : Wy -> Prop
 | .rul k=>0 <= k
 | .bar k=>0 <= k
 | .wld k=>0 <= k
 | .grp xs=>zd0 n xs
noncomputable def seD (xs : List Int) : D:=.lst (xs.map D.int)
noncomputable def baD (zs : List (Int × Bool)) : D:=.lst (zs.map brD)
noncomputable def wiS (n : Nat) (xs : List Int) : List Bool:=(List.range n).map (inS xs)
theorem zog (n : Nat) (xs : List Int) : (wiS n xs).length = n:=by unfold wiS; rw [List.length_map,List.length_range]
noncomputable def rgt (rs : List Rul) (ss : List (List Int)) (bs : List (List (Int × Bool))) (es : List (Option Bool)) : Wy -> Bool
 | .rul k=>decide (k < (rs.length : Int)) && (rs.getD k.toNat zer).surely es
 | .bar k=>decide (k < (bs.length : Int)) && zf9 es (bs.getD k.toNat [])
 | .wld k=>decide (k < (ss.length : Int)) && (es == (wiS es.length (ss.getD k.toNat [])).map some)
 | .grp xs=>(xs.any fun x=>es.getD x.toNat none == some true) && !(rs.any fun r=>hup es (wiS es.length xs) r)
theorem zs0 : ∀ (es : List (Option Bool)) (bs : List Bool),es.length = bs.length -> zcy (deq 19) (es.map shD) (bs.map D.bl) = some (es == bs.map some)
 | [],[],_=>rfl
 | [],_ :: _,h=>by cases h
 | _ :: _,[],h=>by cases h
 | e :: es,b :: bs,h=>by
  have ih:=zs0 es bs (by simpa using h)
  have e1 : deq 19 (shD e) (.bl b) = some (e == some b):=by
   cases e with
   | none=>cases b <;> rfl
   | some c=>cases b <;> cases c <;> rfl
  show ((deq 19 (shD e) (.bl b)).bind fun x=>(zcy (deq 19) (es.map shD) (bs.map D.bl)).map fun r=>x && r) = _
  rw [e1,ih]
  rfl
theorem zom (es : List (Option Bool)) (bs : List Bool) (h : es.length = bs.length) : dEq (.lst (es.map shD)) (.lst (bs.map D.bl)) = some (.bl (es == bs.map some)):=by
 show ((if (es.map shD).length = (bs.map D.bl).length then zcy (deq 19) (es.map shD) (bs.map D.bl) else some false) : Option Bool).map D.bl = _
 rw [if_pos (by rw [List.length_map,List.length_map]; exact h),zs0 es bs h]
 rfl
theorem zl1 {p : Prop} [Decidable p] {f g : List Sl -> Option D} {ρ : List Sl} {b : Bool} (h : f ρ = some (.bl (decide p))) (h' : p -> g ρ = some (.bl b)) : zd2 f g ρ = some (.bl (decide p && b)):=by
 by_cases q : p
 ·exact zhq h (h' q)
 ·unfold zd2
  rw [zb0 h,decide_eq_false q]
  rfl
theorem zpe {α : Type} (f : α -> D) (xs : List α) (k : Int) (k0 : 0 <= k) : m_4 [.lst (xs.map f),.int k] = some (.bl (decide (k < (xs.length : Int)))):=by
 have : zim dLe dLt (fun _=>some (.int 0)) (zaa 1) (zap zce (zab (zaa 0) (fun _=>some []))) [.im (.lst (xs.map f)),.im (.int k)] = some (.bl (decide (0 <= k) && decide (k < (xs.length : Int)))):=z1t rfl rfl zs4 (zau rfl (zc4 _ _)) zjm
 rw [decide_eq_true k0] at this
 exact zca (zcj this)
theorem zt9 {xs : List Int} {n : Nat} {k : Nat} {js : List Nat} {fi : List Sl -> Option (List D)} {fe : List Sl -> Option D} {ρ : List Sl} (hn : n <= 1000) (hi : fi ρ = some ((List.range n).map fun (i : Nat)=>D.int i)) (he : ∀ i : Nat,fe ((zdp k js ρ).set 0 (.im (.int i))) = some (.bl (inS xs i))) : za6 k js fi (zaq 0) (fun _=>some true) fe ρ = some ((wiS n xs).map D.bl):=by
 unfold wiS
 rw [List.map_map]
 exact zcs (List.range n) (fun (i : Nat)=>D.int i) (fun i=>D.bl (inS xs i)) hi (by rw [List.length_range]; omega) fun i _=>zcp rfl rfl (he i)
section
variable {rs : List Rul} {ss : List (List Int)} {bs : List (List (Int × Bool))} {es : List (Option Bool)}
theorem zpa (hok : ∀ r ∈ rs,r.Ok es.length) (hz : rs.length <= 1000) (hs : ∀ s ∈ ss,zd0 es.length s) (hb : ∀ b ∈ bs,zf5 es.length b) (n60 : es.length <= 60) (w : Wy) (hw : w.Ok es.length) :
  m_3 [.lst (rs.map Rul.toD),.lst (ss.map seD),.lst (bs.map baD),.lst (es.map shD),w.toD] = some (.bl (rgt rs ss bs es w)):=by
 apply zec
 unfold b_3
 show wp _ [.im (.lst (rs.map Rul.toD)),.im (.lst (ss.map seD)),.im (.lst (bs.map baD)),.im (.lst (es.map shD)),.im w.toD,.no,.no,.no] _
 cases w with
 | rul k =>
  apply zam
  refine zhj rfl rfl ?_
  walk_at "nrm"
  apply zam
  refine zaz (b:=true) rfl (fun _=>zbx (zl1 (p:=k < (rs.length : Int)) (zar rfl (zau rfl (zc4 _ _)) zjm) fun q=>?_) (zbs rfl)) (fun z=>by cases z)
  obtain ⟨r,hr,er⟩:=zb4 (f:=Rul.toD) (xs:=rs) (i:=k) hw q
  have : rs.getD k.toNat zer = r:=by rw [List.getD_eq_getElem?_getD,hr]; rfl
  rw [this]
  exact zau (zad (zak rfl rfl er) (zad rfl rfl)) (zpo r (hok r (List.mem_of_getElem? hr)))
 | bar k =>
  apply zam
  refine zhj rfl rfl ?_
  walk_at "nrm"
  apply zam
  refine zaz (b:=false) rfl (fun z=>by cases z) (fun _=>zbo ?_)
  walk_at "nrm"
  apply zam
  refine zaz (b:=true) rfl (fun _=>zbx (zl1 (p:=k < (bs.length : Int)) (zar rfl (zau rfl (zc4 _ _)) zjm) fun q=>?_) (zbs rfl)) (fun z=>by cases z)
  obtain ⟨r,hr,er⟩:=zb4 (f:=baD) (xs:=bs) (i:=k) hw q
  have : bs.getD k.toNat [] = r:=by rw [List.getD_eq_getElem?_getD,hr]; rfl
  rw [this]
  exact zau (zad rfl (zad (zak rfl rfl er) rfl)) (zs5 (hb r (List.mem_of_getElem? hr)))
 | wld k =>
  apply zam
  refine zhj rfl rfl ?_
  walk_at "nrm"
  apply zam
  refine zaz (b:=false) rfl (fun z=>by cases z) (fun _=>zbo ?_)
  walk_at "nrm"
  apply zam
  refine zaz (b:=false) rfl (fun z=>by cases z) (fun _=>zbo ?_)
  walk_at "nrm"
  apply zam
  refine zaz (b:=decide (k < (ss.length : Int))) (ziq rfl (zb0 (zar rfl (zau rfl (zc4 _ _)) zjm))) (fun z=>?_) (fun z=>zbo ?_)
  ·obtain ⟨r,hr,er⟩:=zb4 (f:=seD) (xs:=ss) (i:=k) hw (by simpa using z)
   have e : ss.getD k.toNat [] = r:=by rw [List.getD_eq_getElem?_getD,hr]; rfl
   refine zbx (zar rfl (zat (zt9 (xs:=r) (n:=es.length) (by omega) (ze0 (n:=(es.length : Int)) (zad (zau rfl (zc4 _ _)) rfl) (by omega) (by omega)) fun i=>zar rfl (zak rfl rfl er) (zt7 _ _))) (zom es _ (zog _ _).symm)) (zbs ?_)
   show _ = D.bl (decide (k < (ss.length : Int)) && (es == (wiS es.length (ss.getD k.toNat [])).map some))
   rw [z,e]
   rfl
  ·walk_at "nrm"
   apply zam
   refine zaz (b:=true) rfl (fun _=>zbx rfl (zbs ?_)) (fun z=>by cases z)
   show _ = D.bl (decide (k < (ss.length : Int)) && (es == (wiS es.length (ss.getD k.toNat [])).map some))
   rw [z]
   rfl
 | grp xs =>
  apply zam
  refine zhj rfl rfl ?_
  walk_at "nrm"
  apply zam
  refine zaz (b:=false) rfl (fun z=>by cases z) (fun _=>zbo ?_)
  walk_at "nrm"
  apply zam
  refine zaz (b:=false) rfl (fun z=>by cases z) (fun _=>zbo ?_)
  walk_at "nrm"
  apply zam
  refine zaz (b:=false) (zls rfl) (fun z=>by cases z) (fun _=>zbo ?_)
  walk_at "nrm"
  apply zam
  refine zaz (b:=false) rfl (fun z=>by cases z) (fun _=>zbo ?_)
  walk_at "nrm"
  have hw2:=hw.2
  apply zam
  refine zaz (b:=!(xs.any fun x=>es.getD x.toNat none == some true)) (zfl (zdc (zau (zad (zat (zcs xs D.int (fun x=>D.bl (es.getD x.toNat none == some true)) rfl (by omega) fun x hx=>zcp rfl rfl (zar (zak rfl rfl (zdb (hw.1 x hx).1 (hw.1 x hx).2)) rfl (zen _ _)))) rfl) (zjk _ _)) rfl)) (fun z=>zbx rfl (zbs ?_)) (fun z=>zbo ?_)
  ·have z : (xs.any fun x=>es.getD x.toNat none == some true) = false:=by simpa using z
   show _ = D.bl ((xs.any fun x=>es.getD x.toNat none == some true) && _)
   rw [z]
   rfl
  ·have z : (xs.any fun x=>es.getD x.toNat none == some true) = true:=by
    cases e : (xs.any fun x=>es.getD x.toNat none == some true) with
    | true=>rfl
    | false=>rw [e] at z; cases z
   walk_at "nrm"
   apply zam
   refine zbr (zat (zt9 (xs:=xs) (n:=es.length) (by omega) (ze0 (n:=(es.length : Int)) (zad (zau rfl (zc4 _ _)) rfl) (by omega) (by omega)) fun i=>zar rfl rfl (zt7 _ _))) ?_
   walk_at "nrm"
   refine zbx (zgi (zau (zad (zat (zcs rs Rul.toD (fun r=>D.bl (hup es (wiS es.length xs) r)) rfl (by omega) fun r hr=>zcp rfl rfl (zau rfl (zt3 r (hok r hr) (zog _ _))))) rfl) (zjk _ _))) (zbs ?_)
   show _ = D.bl ((xs.any fun x=>es.getD x.toNat none == some true) && _)
   rw [z]
   rfl
theorem z5f (hok : ∀ r ∈ rs,r.Ok es.length) (hz : rs.length <= 1000) (n60 : es.length <= 60) (xs : List Int) (hw : zd0 es.length xs) :
  zqw [plD es.length rs,.lst (es.map shD),.lst (xs.map D.int)] = some (.bl (rgt rs ss bs es (.grp xs))):=by
 have hw2:=hw.2
 have em : m_8 [.int (es.length : Int),.lst (xs.map D.int)] = some (.lst ((wiS es.length xs).map D.bl)):=zt6 (es.length : Int) xs (by omega) (by omega) hw.2
 have eh : zpz [.lst (es.map shD),.lst (xs.map D.int)] = some (.bl (xs.any fun x=>es.getD x.toNat none == some true)) :=
  zca (zcj (zau (zad (zat (zcs xs D.int (fun x=>D.bl (es.getD x.toNat none == some true)) rfl (by omega) fun x hx=>zcp rfl rfl (zar (zak rfl rfl (zdb (hw.1 x hx).1 (hw.1 x hx).2)) rfl (zen _ _)))) rfl) (zjk _ _)))
 apply zec
 unfold b_46
 show wp _ [.im (plD es.length rs),.im (.lst (es.map shD)),.im (.lst (xs.map D.int)),.no] _
 apply zam
 refine zbr (zau (zad (zak rfl rfl rfl) (zad rfl rfl)) em) ?_
 walk_at "nrm"
 apply zam
 refine zaz (zdc (zau (zad (zat (zcs rs Rul.toD (fun r=>D.bl (hup es (wiS es.length xs) r)) (zcq (zak rfl rfl rfl) rfl) (by omega) fun r hr=>zcp rfl rfl (zau rfl (zxj r (hok r hr) (zog _ _))))) rfl) (zjk _ _)) rfl) (fun z=>zbx rfl (zbs ?_)) (fun z=>zbo ?_)
 ·show _ = D.bl (_ && !(rs.any fun r=>hup es (wiS es.length xs) r))
  rw [z,Bool.not_true,Bool.and_false]
 ·walk_at "nrm"
  refine zbx (zau rfl eh) (zbs ?_)
  show _ = D.bl (_ && !(rs.any fun r=>hup es (wiS es.length xs) r))
  rw [z,Bool.not_false,Bool.and_true]
theorem z5k (hok : ∀ r ∈ rs,r.Ok es.length) (hz : rs.length <= 1000) (hs : ∀ s ∈ ss,zd0 es.length s) (hb : ∀ b ∈ bs,zf5 es.length b) (n60 : es.length <= 60) (w : Wy) (hw : w.Ok es.length) :
  zm6 [plD es.length rs,.lst (ss.map seD),.lst (bs.map baD),.lst (es.map shD),w.toD] = some (.bl (rgt rs ss bs es w)):=by
 apply zec
 unfold b_13
 show wp _ [.im (plD es.length rs),.im (.lst (ss.map seD)),.im (.lst (bs.map baD)),.im (.lst (es.map shD)),.im w.toD,.no] _
 cases w with
 | rul k =>
  apply zam
  refine zaz (b:=false) rfl (fun z=>by cases z) (fun _=>zbo ?_)
  walk_at "nrm"
  apply zam
  refine zbr (d:=.int k) (zak rfl rfl rfl) ?_
  walk_at "nrm"
  apply zam
  refine zaz (b:=true) rfl (fun _=>zbx (zl1 (p:=k < (rs.length : Int)) (zau (zad (zak rfl rfl rfl) (zad rfl rfl)) (zpe Rul.toD rs k hw)) fun q=>?_) (zbs rfl)) (fun z=>by cases z)
  obtain ⟨r,hr,er⟩:=zb4 (f:=Rul.toD) (xs:=rs) (i:=k) hw q
  have : rs.getD k.toNat zer = r:=by rw [List.getD_eq_getElem?_getD,hr]; rfl
  rw [this]
  exact zau (zad (zak (zcq (zak rfl rfl rfl) rfl) rfl er) (zad rfl rfl)) (z67 r (hok r (List.mem_of_getElem? hr)))
 | bar k =>
  apply zam
  refine zaz (b:=false) rfl (fun z=>by cases z) (fun _=>zbo ?_)
  walk_at "nrm"
  apply zam
  refine zbr (d:=.int k) (zak rfl rfl rfl) ?_
  walk_at "nrm"
  apply zam
  refine zaz (b:=false) rfl (fun z=>by cases z) (fun _=>zbo ?_)
  walk_at "nrm"
  apply zam
  refine zaz (b:=true) rfl (fun _=>zbx (zl1 (p:=k < (bs.length : Int)) (zau rfl (zpe baD bs k hw)) fun q=>?_) (zbs rfl)) (fun z=>by cases z)
  obtain ⟨r,hr,er⟩:=zb4 (f:=baD) (xs:=bs) (i:=k) hw q
  have : bs.getD k.toNat [] = r:=by rw [List.getD_eq_getElem?_getD,hr]; rfl
  rw [this]
  exact zau (zad rfl (zad (zak rfl rfl er) rfl)) (zyi (hb r (List.mem_of_getElem? hr)))
 | wld k =>
  apply zam
  refine zaz (b:=false) rfl (fun z=>by cases z) (fun _=>zbo ?_)
  walk_at "nrm"
  apply zam
  refine zbr (d:=.int k) (zak rfl rfl rfl) ?_
  walk_at "nrm"
  apply zam
  refine zaz (b:=false) rfl (fun z=>by cases z) (fun _=>zbo ?_)
  walk_at "nrm"
  apply zam
  refine zaz (b:=false) rfl (fun z=>by cases z) (fun _=>zbo ?_)
  walk_at "nrm"
  refine zbx (zhq (a:=true) (zar (zak rfl rfl rfl) rfl (zmw _ _)) (zl1 (p:=k < (ss.length : Int)) (zau rfl (zpe seD ss k hw)) fun q=>?_)) (zbs rfl)
  obtain ⟨r,hr,er⟩:=zb4 (f:=seD) (xs:=ss) (i:=k) hw q
  have : ss.getD k.toNat [] = r:=by rw [List.getD_eq_getElem?_getD,hr]; rfl
  rw [this]
  have em : m_8 [.int (es.length : Int),.lst (r.map D.int)] = some (.lst ((wiS es.length r).map D.bl)):=zt6 (es.length : Int) r (by omega) (by omega) (hs r (List.mem_of_getElem? hr)).2
  exact zar rfl (zau (zad (zak rfl rfl rfl) (zad (zak rfl rfl er) rfl)) em) (zom es _ (zog _ _).symm)
 | grp xs =>
  apply zam
  exact zaz (b:=true) rfl (fun _=>zbx (zau (zad rfl (zad rfl (zad (zak rfl rfl rfl) rfl))) (z5f (ss:=ss) (bs:=bs) hok hz n60 xs hw)) (zbs rfl)) (fun z=>by cases z)
end
section
variable {rs : List Rul} {ss : List (List Int)} {bs : List (List (Int × Bool))} {es : List (Option Bool)}
theorem z27 (zs : List (Int × Bool)) : zc1 3 (baD zs):=fun x hx=>by
 obtain ⟨z,_,rfl⟩:=List.mem_map.mp hx
 intro y hy
 simp only [List.mem_cons,List.not_mem_nil,or_false] at hy
 rcases hy with rfl | rfl <;> exact rfl
theorem zxv (b : Bool) : dNe (.bl b) (.bl b) = some (.bl false):=by cases b <;> rfl
end
theorem zpw {es : List (Option Bool)} {t : Int} (b : Bool) (t0 : 0 <= t) (t1 : t < (es.length : Int)) (n60 : es.length <= 60) : m_7 [.lst (es.map shD),.int t,.bl b] = some (.lst ((es.set t.toNat (some b)).map shD)):=by
 obtain ⟨k,rfl⟩ : ∃ k : Nat,t = (k : Int):=⟨t.toNat,by omega⟩
 have hk : k < es.length:=by omega
 have e : es.set (k : Int).toNat (some b) = es.take k ++ [some b] ++ es.drop (k + 1):=by
  rw [Int.toNat_natCast,List.set_eq_take_append_cons_drop,if_pos hk,List.append_assoc]
  rfl
 rw [e,List.map_append,List.map_append]
 refine zj6 ?_
 refine congrArg (Option.map Fl.rtO) (zed (zat (zed (zat ?_) (zat (zad rfl rfl)) ?_)) (zat ?_) ?_)
 ·have:=zc6 (f:=zaa 0) (l:=fun _=>some none) (h:=mPt (zaa 1)) (ρ:=[.im (.lst (es.map shD)),.im (.int k),.im (.bl b)]) (g:=shD) (xs:=es) (lo:=none) (hi:=some (k : Int)) rfl rfl rfl
  rw [show HT.sIx es.length 0 none = 0 from rfl,HT.sIx_nat,List.drop_zero,Nat.sub_zero,Nat.min_eq_left (Nat.le_of_lt hk)] at this
  exact this
 ·rw [List.length_map,List.length_take]
  show _ + 1 <= _
  omega
 ·have:=zc6 (f:=zaa 0) (l:=mPt (m2 zci (zaa 1) (fun _=>some (.int 1)))) (h:=fun _=>some none) (ρ:=[.im (.lst (es.map shD)),.im (.int k),.im (.bl b)]) (g:=shD) (xs:=es) (lo:=some ((k + 1 : Nat) : Int)) (hi:=none) rfl rfl rfl
  rw [show HT.sIx es.length es.length none = es.length from rfl,HT.sIx_nat,Nat.min_eq_left hk,List.take_of_length_le (by rw [List.length_drop]; omega)] at this
  exact this
 ·rw [List.length_append,List.length_map,List.length_map,List.length_take,List.length_drop]
  show (_ + 1) + _ <= _
  omega
theorem z2w {es : List (Option Bool)} {t : Int} (b : Bool) (t0 : 0 <= t) (t1 : t < (es.length : Int)) : zp8 [.lst (es.map shD),.int t,.bl b] = some (.lst ((es.set t.toNat (some b)).map shD)):=by
 apply zec
 unfold b_44
 show wp _ [.im (.lst (es.map shD)),.im (.int t),.im (.bl b),.no] _
 apply zam
 refine zes (d:=es.map shD) rfl ?_
 walk_at "nrm"
 apply zam
 refine zio (k:=t) (xs:=es.map shD) (d:=shD (some b)) rfl rfl rfl t0 (by rw [List.length_map]; omega) ?_
 walk_at "nrm"
 refine zgx (d:=(es.map shD).set t.toNat (shD (some b))) rfl (zks ?_)
 rw [List.map_set]
noncomputable def opD : Option (Int × Bool) -> D
 | none=>.non
 | some z=>brD z
noncomputable def trl (es : List (Option Bool)) : Option (Int × Bool) -> List (Option Bool)
 | none=>es
 | some z=>es.set z.1.toNat (some (!z.2))
noncomputable def ze4 (es : List (Option Bool)) : Option (Int × Bool) -> Bool
 | none=>true
 | some z=>es.getD z.1.toNat none == none
noncomputable def zsd (n : Nat) (o : Option (Int × Bool)) : Prop:=∀ z,o = some z -> 0 <= z.1 /\ z.1 < (n : Int)
theorem zfy (es : List (Option Bool)) (o : Option (Int × Bool)) : (trl es o).length = es.length:=by
 cases o with
 | none=>rfl
 | some z=>exact List.length_set
theorem zyn (e : Option Bool) : dIs (shD e) .non = some (.bl (e == none)):=by cases e <;> rfl
section
variable {rs : List Rul} {ss : List (List Int)} {bs : List (List (Int × Bool))} {es : List (Option Bool)}
theorem z20 (hok : ∀ r ∈ rs,r.Ok es.length) (hz : rs.length <= 1000) (hs : ∀ s ∈ ss,zd0 es.length s) (hb : ∀ b ∈ bs,zf5 es.length b) (n60 : es.length <= 60) (o : Option (Int × Bool)) (ho : zsd es.length o) (w : Wy) (hw : w.Ok es.length) :
  zrx [plD es.length rs,.lst (ss.map seD),.lst (bs.map baD),.lst (es.map shD),.tup [opD o,w.toD]] = some (.bl (rgt rs ss bs (trl es o) w && ze4 es o)):=by
 have ew:=z5k (rs:=rs) (ss:=ss) (bs:=bs) (es:=trl es o) (by rw [zfy]; exact hok) hz (by rw [zfy]; exact hs) (by rw [zfy]; exact hb) (by rw [zfy]; exact n60) w (by rw [zfy]; exact hw)
 rw [zfy] at ew
 apply zec
 unfold b_47
 show wp _ [.im (plD es.length rs),.im (.lst (ss.map seD)),.im (.lst (bs.map baD)),.im (.lst (es.map shD)),.im (.tup [opD o,w.toD]),.no] _
 apply zam
 refine zbr (d:=opD o) (zak rfl rfl rfl) ?_
 walk_at "nrm"
 apply zam
 cases o with
 | none =>
  refine zaz (b:=true) rfl (fun _=>zbx (zau (zad rfl (zad rfl (zad rfl (zad rfl (zad (zak rfl rfl rfl) rfl))))) ew) (zbs ?_)) (fun z=>by cases z)
  show _ = D.bl (_ && true)
  rw [Bool.and_true]
 | some z =>
  obtain ⟨z0,z1⟩:=ho z rfl
  refine zaz (b:=false) rfl (fun q=>by cases q) (fun _=>zbo ?_)
  walk_at "nrm"
  apply zam
  refine zaz (zb0 (zar (zak rfl (zak rfl rfl rfl) (zdb z0 z1)) rfl (zuo _))) (fun q=>zbx rfl (zbs ?_)) (fun q=>zbo ?_)
  ·show _ = D.bl (_ && (es.getD z.1.toNat none == none))
   cases hq : es.getD z.1.toNat none with
   | none=>rw [hq] at q; cases q
   | some b=>exact congrArg D.bl (Bool.and_false _).symm
  ·walk_at "nrm"
   refine zbx (zau (zad rfl (zad rfl (zad rfl (zad (zau (zad rfl (zad (zak rfl rfl rfl) (zad (zgi (zak rfl rfl rfl)) rfl))) (z2w (!z.2) z0 z1)) (zad (zak rfl rfl rfl) rfl))))) ew) (zbs ?_)
   show _ = D.bl (_ && (es.getD z.1.toNat none == none))
   cases hq : es.getD z.1.toNat none with
   | none=>exact congrArg D.bl (Bool.and_true _).symm
   | some b=>rw [hq] at q; cases q
end
noncomputable def beg (n : Nat) (zs : List (Int × Bool)) : List (Option Bool):=zs.foldl (fun es z=>es.set z.1.toNat (some z.2)) (List.replicate n none)
theorem zuj (n : Nat) (zs : List (Int × Bool)) (z : Int × Bool) : beg n (zs ++ [z]) = (beg n zs).set z.1.toNat (some z.2):=by
 unfold beg
 rw [List.foldl_append]
 rfl
theorem znk (n : Nat) : ∀ zs : List (Int × Bool),(beg n zs).length = n:=by
 intro zs
 unfold beg
 have : ∀ (zs : List (Int × Bool)) (es : List (Option Bool)),(zs.foldl (fun es z=>es.set z.1.toNat (some z.2)) es).length = es.length:=by
  intro zs
  induction zs with
  | nil=>intro es; rfl
  | cons z zs ih=>intro es; rw [List.foldl_cons,ih,List.length_set]
 rw [this,List.length_replicate]
theorem zo9 (n : Nat) : (List.range n).map (fun (_ : Nat)=>D.non) = (List.replicate n (none : Option Bool)).map shD:=by
 rw [List.map_const',List.length_range,List.map_replicate]
 rfl
theorem z7g (n : Int) (n0 : 0 <= n) (n60 : n <= 60) (zs : List (Int × Bool)) (hz : ∀ z ∈ zs,0 <= z.1 /\ z.1 < (n.toNat : Int)) : znz [.int n,.lst (zs.map brD)] = some (.lst ((beg n.toNat zs).map shD)):=by
 apply zec
 unfold b_32
 show wp _ [.im (.int n),.im (.lst (zs.map brD)),.no,.no,.no] _
 apply zam
 refine zes (d:=(List.replicate n.toNat none).map shD) ?_ ?_
 ·rw [<- zo9]
  exact zcs (List.range n.toNat) (fun (i : Nat)=>D.int i) (fun _=>D.non) (ze0 rfl n0 (by omega)) (by rw [List.length_range]; omega) fun i _=>zcp rfl rfl rfl
 walk_at "nrm"
 apply zam
 refine zd7 zs brD (fun pre ρ=>∃ v2 v4,ρ = [.im (.int n),.im (.lst (zs.map brD)),v2,.own ((beg n.toNat pre).map shD),v4]) rfl ⟨_,_,rfl⟩ ?_ ?_
 ·rintro pre z post ρ ex ⟨v2,v4,rfl⟩
  obtain ⟨z0,z1⟩:=hz z (by rw [ex]; simp)
  refine ⟨_,rfl,?_⟩
  walk_at "nrm"
  refine zio (k:=z.1) (xs:=(beg n.toNat pre).map shD) (d:=shD (some z.2)) rfl rfl rfl z0 (by rw [List.length_map,znk]; omega) ?_
  exact ⟨_,_,by rw [zuj,List.map_set]; rfl⟩
 ·rintro ρ ⟨v2,v4,rfl⟩
  exact zgx rfl (zks rfl)
theorem zxn (n : Int) (n0 : 0 <= n) (n60 : n <= 60) (zs : List (Int × Bool)) (hz : ∀ z ∈ zs,0 <= z.1 /\ z.1 < (n.toNat : Int)) : znj [.int n,.lst (zs.map brD)] = some ((beg n.toNat zs).map shD):=by
 have : wp b_24 (zdt 5 [.int n,.lst (zs.map brD)]) (fun o=>o = .rtO ((beg n.toNat zs).map shD)):=by
  unfold b_24
  show wp _ [.im (.int n),.im (.lst (zs.map brD)),.no,.no,.no] _
  apply zam
  refine zes (d:=(List.replicate n.toNat none).map shD) ?_ ?_
  ·rw [<- zo9]
   exact zcs (List.range n.toNat) (fun (i : Nat)=>D.int i) (fun _=>D.non) (ze0 rfl n0 (by omega)) (by rw [List.length_range]; omega) fun i _=>zcp rfl rfl rfl
  walk_at "nrm"
  apply zam
  refine zd7 zs brD (fun pre ρ=>∃ v3 v4,ρ = [.im (.int n),.im (.lst (zs.map brD)),.own ((beg n.toNat pre).map shD),v3,v4]) rfl ⟨_,_,rfl⟩ ?_ ?_
  ·rintro pre z post ρ ex ⟨v3,v4,rfl⟩
   obtain ⟨z0,z1⟩:=hz z (by rw [ex]; simp)
   refine ⟨_,rfl,?_⟩
   walk_at "nrm"
   refine zio (k:=z.1) (xs:=(beg n.toNat pre).map shD) (d:=shD (some z.2)) rfl rfl rfl z0 (by rw [List.length_map,znk]; omega) ?_
   exact ⟨_,_,by rw [zuj,List.map_set]; rfl⟩
  ·rintro ρ ⟨v3,v4,rfl⟩
   exact zgx rfl rfl
 obtain ⟨o,e,rfl⟩:=this
 exact zvi e
theorem z80 {i : Nat} {f : List Sl -> Option D} {ρ : List Sl} {xs ds : List D} (h : f ρ = some (.lst ds)) (h' : ρ[i]? = some (.own xs)) (hl : xs.length + ds.length <= 16777216) : zh1 i (zin f) ρ = some (.nx (ρ.set i (.own (xs ++ ds)))):=by
 unfold zh1 zin
 rw [h]
 show (match ρ[i]? with | some (.own ys)=>_ | _=>_) = _
 rw [h']
 show (if _ then _ else _) = _
 rw [if_pos hl]
theorem ztg {i : Nat} {f : List Sl -> Option D} {ρ : List Sl} {xs ds : List D} {K : Fl -> Prop} (h : f ρ = some (.lst ds)) (h' : ρ[i]? = some (.own xs)) (hl : xs.length + ds.length <= 16777216) (k : K (.nx (ρ.set i (.own (xs ++ ds))))) : wp (zh1 i (zin f)) ρ K:=⟨_,z80 h h' hl,k⟩
noncomputable def Wy.nE : Wy -> Prop
 | .grp xs=>xs ≠ []
 | _=>True
section
variable {rs : List Rul} {ss : List (List Int)} {bs : List (List (Int × Bool))} {es : List (Option Bool)}
theorem z53 (hok : ∀ r ∈ rs,r.Ok es.length) (hz : rs.length <= 1000) (hs : ∀ s ∈ ss,zd0 es.length s) (hsz : ss.length <= 1000) (hb : ∀ b ∈ bs,zf5 es.length b) (hbz : bs.length <= 1000) (n60 : es.length <= 60) :
  ∃ ws : List Wy,b_23 (zdt 7 [.lst (rs.map Rul.toD),.lst (ss.map seD),.lst (bs.map baD),.lst (es.map shD)]) = some (.rtO (ws.map Wy.toD)) /\ (∀ w ∈ ws,w.Ok es.length /\ w.nE) /\ ws.length <= 4000:=by
 have : wp b_23 (zdt 7 [.lst (rs.map Rul.toD),.lst (ss.map seD),.lst (bs.map baD),.lst (es.map shD)]) (fun o=>∃ ws : List Wy,o = .rtO (ws.map Wy.toD) /\ (∀ w ∈ ws,w.Ok es.length /\ w.nE) /\ ws.length <= 4000):=by
  obtain ⟨wo,el,hwo⟩:=z86 rs es n60 hok
  unfold b_23
  show wp _ [.im (.lst (rs.map Rul.toD)),.im (.lst (ss.map seD)),.im (.lst (bs.map baD)),.im (.lst (es.map shD)),.no,.no,.no] _
  apply zam
  refine zes (d:=(((List.range rs.length).filter fun i=>(rs.getD i zer).surely es).map fun (i : Nat)=>Wy.rul i).map Wy.toD) ?_ ?_
  ·rw [List.map_map]
   refine zd3 (List.range rs.length) (fun i=>D.tup [.int (i : Nat),(rs.getD i zer).toD]) (fun i=>(rs.getD i zer).surely es) (fun (i : Nat)=>(Wy.rul i).toD) (zie zer (zad rfl rfl)) (by rw [List.length_range]; omega) fun i hi=>zdu rfl (zdc (zau (zad rfl (zad rfl rfl)) (zpo (rs.getD i zer) ?_)) rfl) fun _=>rfl
   have hi:=List.mem_range.mp hi
   rw [List.getD_eq_getElem?_getD,List.getElem?_eq_getElem hi]
   exact hok _ (List.getElem_mem hi)
  walk_at "nrm"
  apply zam
  refine ztg (xs:=(((List.range rs.length).filter fun i=>(rs.getD i zer).surely es).map fun (i : Nat)=>Wy.rul i).map Wy.toD) (ds:=(((List.range bs.length).filter fun i=>zf9 es (bs.getD i [])).map fun (i : Nat)=>Wy.bar i).map Wy.toD) (zat ?_) rfl ?_ ?_
  ·refine Eq.trans ?_ (congrArg some List.map_map.symm)
   refine zd3 (List.range bs.length) (fun i=>D.tup [.int (i : Nat),baD (bs.getD i [])]) (fun i=>zf9 es (bs.getD i [])) (fun (i : Nat)=>(Wy.bar i).toD) (zie [] (zad rfl rfl)) (by rw [List.length_range]; omega) ?_
   intro i hi
   refine zdu rfl (zdc (zau (zad rfl (zad rfl rfl)) (zs5 (zs:=bs.getD i []) ?_)) rfl) fun _=>rfl
   have hi:=List.mem_range.mp hi
   rw [List.getD_eq_getElem?_getD,List.getElem?_eq_getElem hi]
   exact hb _ (List.getElem_mem hi)
  ·have h1:=List.length_filter_le (fun i=>(rs.getD i zer).surely es) (List.range rs.length)
   have h2:=List.length_filter_le (fun i=>zf9 es (bs.getD i [])) (List.range bs.length)
   rw [List.length_range] at h1 h2
   rw [List.length_map,List.length_map,List.length_map,List.length_map]
   omega
  have h1:=List.length_filter_le (fun i=>(rs.getD i zer).surely es) (List.range rs.length)
  have h2:=List.length_filter_le (fun i=>zf9 es (bs.getD i [])) (List.range bs.length)
  rw [List.length_range] at h1 h2
  rw [<- List.map_append]
  have ho : ∀ w ∈ (((List.range rs.length).filter fun i=>(rs.getD i zer).surely es).map fun (i : Nat)=>Wy.rul i) ++ (((List.range bs.length).filter fun i=>zf9 es (bs.getD i [])).map fun (i : Nat)=>Wy.bar i),w.Ok es.length /\ w.nE:=fun w hw=>by
   rcases List.mem_append.mp hw with h | h
   ·obtain ⟨i,_,rfl⟩:=List.mem_map.mp h
    exact ⟨Int.natCast_nonneg i,trivial⟩
   ·obtain ⟨i,_,rfl⟩:=List.mem_map.mp h
    exact ⟨Int.natCast_nonneg i,trivial⟩
  have hl : ((((List.range rs.length).filter fun i=>(rs.getD i zer).surely es).map fun (i : Nat)=>Wy.rul i) ++ (((List.range bs.length).filter fun i=>zf9 es (bs.getD i [])).map fun (i : Nat)=>Wy.bar i)).length <= 2000:=by
   rw [List.length_append,List.length_map,List.length_map]
   omega
  generalize (((List.range rs.length).filter fun i=>(rs.getD i zer).surely es).map fun (i : Nat)=>Wy.rul i) ++ (((List.range bs.length).filter fun i=>zf9 es (bs.getD i [])).map fun (i : Nat)=>Wy.bar i) = ws at ho hl
  walk_at "nrm"
  apply zam
  have h3:=List.length_filter_le (fun i=>rgt rs ss bs es (.wld (i : Nat))) (List.range ss.length)
  rw [List.length_range] at h3
  refine ztg (xs:=ws.map Wy.toD) (ds:=(((List.range ss.length).filter fun i=>rgt rs ss bs es (.wld (i : Nat))).map fun (i : Nat)=>Wy.wld i).map Wy.toD) (zat ?_) rfl (by rw [List.length_map,List.length_map,List.length_map]; omega) ?_
  ·rw [List.map_map]
   refine zd3 (List.range ss.length) (fun (i : Nat)=>D.int i) (fun i=>rgt rs ss bs es (.wld (i : Nat))) (fun (i : Nat)=>(Wy.wld i).toD) (ze0 (n:=(ss.length : Int)) (zad (zau rfl (zc4 _ _)) rfl) (by omega) (by omega)) (by rw [List.length_range]; omega) fun i _=>zdu rfl (zdc (zau (zad rfl (zad rfl (zad rfl (zad rfl (zad (zb7 (zad rfl (zad rfl rfl))) rfl))))) (zpa hok hz hs hb n60 (.wld (i : Nat)) (Int.natCast_nonneg i))) rfl) fun _=>rfl
  rw [<- List.map_append]
  have ho2 : ∀ w ∈ ws ++ (((List.range ss.length).filter fun i=>rgt rs ss bs es (.wld (i : Nat))).map fun (i : Nat)=>Wy.wld i),w.Ok es.length /\ w.nE:=fun w hw=>by
   rcases List.mem_append.mp hw with h | h
   ·exact ho w h
   ·obtain ⟨i,_,rfl⟩:=List.mem_map.mp h
    exact ⟨Int.natCast_nonneg i,trivial⟩
  have hl2 : (ws ++ (((List.range ss.length).filter fun i=>rgt rs ss bs es (.wld (i : Nat))).map fun (i : Nat)=>Wy.wld i)).length <= 3000:=by
   rw [List.length_append,List.length_map]
   omega
  generalize ws ++ (((List.range ss.length).filter fun i=>rgt rs ss bs es (.wld (i : Nat))).map fun (i : Nat)=>Wy.wld i) = us at ho2 hl2
  walk_at "nrm"
  apply zam
  refine zbr (zau (zad rfl (zad rfl rfl)) el) ?_
  walk_at "nrm"
  apply zam
  have hm:=List.length_filter_le (fun i=>wo.getD i false) (List.range wo.length)
  rw [List.length_range] at hm
  refine zbr (zat (zd3 (List.range wo.length) (fun i=>D.tup [.int (i : Nat),D.bl (wo.getD i false)]) (fun i=>wo.getD i false) (fun (i : Nat)=>D.int i) (zie false (zad rfl rfl)) (by rw [List.length_range]; omega) fun i _=>zdu rfl (zdc rfl rfl) fun _=>rfl)) ?_
  have hfe : ((List.range wo.length).filter fun i=>wo.getD i false).map (fun (i : Nat)=>D.int i) = (((List.range wo.length).filter fun i=>wo.getD i false).map fun (i : Nat)=>(i : Int)).map D.int:=by rw [List.map_map]; rfl
  rw [hfe]
  have hmi : zd0 es.length (((List.range wo.length).filter fun i=>wo.getD i false).map fun (i : Nat)=>(i : Int)):=by
   refine ⟨fun x hx=>?_,by rw [List.length_map]; omega⟩
   obtain ⟨i,hi,rfl⟩:=List.mem_map.mp hx
   have:=List.mem_range.mp (List.mem_filter.mp hi).1
   exact ⟨by omega,by omega⟩
  generalize (((List.range wo.length).filter fun i=>wo.getD i false).map fun (i : Nat)=>(i : Int)) = mi at hmi
  walk_at "nrm"
  refine zig (fun ρ'=>∃ us' : List Wy,ρ' = [.im (.lst (rs.map Rul.toD)),.im (.lst (ss.map seD)),.im (.lst (bs.map baD)),.im (.lst (es.map shD)),.own (us'.map Wy.toD),.im (.lst (wo.map D.bl)),.im (.lst (mi.map D.int))] /\ (∀ w ∈ us',w.Ok es.length /\ w.nE) /\ us'.length <= 4000) ?_ ?_
  ·have hmi2:=hmi.2
   refine zaz (b:=mi.any fun x=>es.getD x.toNat none == some true) (zdc (zau (zad (zat (zcs mi D.int (fun x=>D.bl (es.getD x.toNat none == some true)) (zcq rfl rfl) (by omega) fun x hx=>zcp rfl rfl (zar (zak rfl rfl (zdb (hmi.1 x hx).1 (hmi.1 x hx).2)) rfl (zen _ _)))) rfl) (zjk _ _)) rfl) (fun z=>?_) (fun z=>zbo ?_)
   ·refine zhy (d:=(Wy.grp mi).toD) rfl rfl (by rw [List.length_map]; omega) (k_J ⟨us ++ [.grp mi],by rw [List.map_append]; rfl,fun w hw=>?_,by rw [List.length_append]; show _ + 1 <= _; omega⟩)
    rcases List.mem_append.mp hw with h | h
    ·exact ho2 w h
    ·have : w = .grp mi:=by simpa using h
     subst this
     refine ⟨hmi,fun e=>?_⟩
     rw [e] at z
     cases z
   ·exact k_J ⟨us,rfl,ho2,by omega⟩
  ·rintro ρ' ⟨us',rfl,h1,h2⟩
   exact zgx rfl ⟨us',rfl,h1,h2⟩
 obtain ⟨o,e,ws,rfl,h1,h2⟩:=this
 exact ⟨ws,e,h1,h2⟩
end
noncomputable abbrev Stp:=Option (Int × Bool) × Wy
noncomputable def stD (z : Stp) : D:=.tup [opD z.1,z.2.toD]
noncomputable def za1 (n : Nat) (z : Stp) : Prop:=zsd n z.1 /\ z.2.Ok n
noncomputable def aft (es : List (Option Bool)) : Option (Int × Bool) -> List (Option Bool)
 | none=>es
 | some z=>es.set z.1.toNat (some z.2)
noncomputable def rst (rs : List Rul) (ss : List (List Int)) (bs : List (List (Int × Bool))) : List (Option Bool) -> List Stp -> Bool
 | _,[]=>false
 | es,[z]=>z.1.isNone && (rgt rs ss bs (trl es z.1) z.2 && ze4 es z.1)
 | es,z :: y :: r=>z.1.isSome && ((rgt rs ss bs (trl es z.1) z.2 && ze4 es z.1) && rst rs ss bs (aft es z.1) (y :: r))
theorem zzl (o : Option (Int × Bool)) : dIs (opD o) .non = some (.bl o.isNone):=by cases o <;> rfl
section
variable {rs : List Rul} {ss : List (List Int)} {bs : List (List (Int × Bool))}
theorem zzr (n : Nat) (n60 : n <= 60) (hok : ∀ r ∈ rs,r.Ok n) (hz : rs.length <= 1000) (hs : ∀ s ∈ ss,zd0 n s) (hb : ∀ b ∈ bs,zf5 n b) (es : List (Option Bool)) (hes : es.length = n) (zs : List Stp) (hzs : ∀ z ∈ zs,za1 n z) (hl : zs.length <= 1000) :
  zqj [plD n rs,.lst (ss.map seD),.lst (bs.map baD),.lst (es.map shD),.lst (zs.map stD)] = some (.bl (rst rs ss bs es zs)):=by
 apply zec
 unfold b_33
 show wp _ [.im (plD n rs),.im (.lst (ss.map seD)),.im (.lst (bs.map baD)),.im (.lst (es.map shD)),.im (.lst (zs.map stD)),.no,.no,.no,.no] _
 apply zam
 refine zes (d:=es.map shD) rfl ?_
 walk_at "nrm"
 apply zam
 refine zd7 (List.range zs.length) (fun i=>D.tup [.int ((i + 1 : Nat) : Int),stD (zs.getD i (none,.rul 0))]) (fun pre ρ=>∃ (es' : List (Option Bool)) (v6 v7 v8 : Sl),ρ = [.im (plD n rs),.im (.lst (ss.map seD)),.im (.lst (bs.map baD)),.im (.lst (es.map shD)),.im (.lst (zs.map stD)),.own (es'.map shD),v6,v7,v8] /\ es'.length = n /\ (pre.length < zs.length -> rst rs ss bs es zs = rst rs ss bs es' (zs.drop pre.length)) /\ (pre.length = zs.length -> 0 < zs.length -> rst rs ss bs es zs = true)) (z50 _ rfl) ⟨es,.no,.no,.no,rfl,hes,fun _=>rfl,fun h h'=>by rw [<- h] at h'; cases h'⟩ ?_ ?_
 ·rintro pre i post ρ ex ⟨es',v6,v7,v8,rfl,hes',hgo,_⟩
  have hi : i < zs.length:=List.mem_range.mp (by rw [ex]; simp)
  have hpi : pre.length = i:=by
   have h1 : (List.range zs.length)[pre.length]? = some i:=by rw [ex]; simp
   have hp : pre.length < zs.length:=by
    have : pre.length < (List.range zs.length).length:=by rw [ex]; simp
    simpa using this
   rw [List.getElem?_range hp] at h1
   exact Option.some.inj h1
  have hd : zs.drop i = zs[i] :: zs.drop (i + 1):=List.drop_eq_getElem_cons hi
  have eg : zs.getD i (none,.rul 0) = zs[i]:=by rw [List.getD_eq_getElem?_getD,List.getElem?_eq_getElem hi]; rfl
  have hgo:=hgo (by omega)
  rw [hpi,hd] at hgo
  rw [eg]
  obtain ⟨hpo,hwo⟩:=hzs zs[i] (List.getElem_mem hi)
  generalize zs[i] = z at hgo hpo hwo
  obtain ⟨o,w⟩:=z
  have est:=z20 (rs:=rs) (ss:=ss) (bs:=bs) (es:=es') (by rw [hes']; exact hok) hz (by rw [hes']; exact hs) (by rw [hes']; exact hb) (by omega) o (by rw [hes']; exact hpo) w (by rw [hes']; exact hwo)
  rw [hes'] at est
  refine ⟨_,rfl,?_⟩
  walk_at "nrm"
  apply zam
  refine zbr (zar (zak rfl rfl rfl) rfl (zzl o)) ?_
  walk_at "nrm"
  have ee : (((i + 1 : Nat) : Int) == ((zs.length : Nat) : Int)) = decide (i + 1 = zs.length):=by
   by_cases q : i + 1 = zs.length
   ·rw [q,decide_eq_true rfl]; simp
   ·rw [decide_eq_false q]; simp; omega
  apply zam
  refine zaz (zb0 (zar rfl (zar rfl (zau rfl (zc4 _ _)) (zdx _ _)) (z0s _ _))) (fun q=>zbx rfl (zbs ?_)) (fun q=>zbo ?_)
  ·rw [hgo]
   rw [ee] at q
   by_cases hq : i + 1 = zs.length
   ·rw [List.drop_of_length_le (by omega)]
    rw [decide_eq_true hq] at q
    cases o with
    | none=>cases q
    | some z=>rfl
   ·rw [List.drop_eq_getElem_cons (show i + 1 < zs.length by omega)]
    rw [decide_eq_false hq] at q
    cases o with
    | none=>rfl
    | some z=>cases q
  ·rw [ee] at q
   walk_at "nrm"
   apply zam
   refine zaz (zfl (zdc (zl2 (zad rfl (zad rfl (zad rfl (zad rfl (zad rfl rfl))))) est rfl) rfl)) (fun b=>zbx rfl (zbs ?_)) (fun b=>zbo ?_)
   ·have b : (rgt rs ss bs (trl es' o) w && ze4 es' o) = false:=by
     cases hb' : (rgt rs ss bs (trl es' o) w && ze4 es' o) with
     | false=>rfl
     | true=>rw [hb'] at b; cases b
    rw [hgo]
    by_cases hq : i + 1 = zs.length
    ·rw [List.drop_of_length_le (by omega)]
     show _ = D.bl (_ && (rgt rs ss bs (trl es' o) w && ze4 es' o))
     rw [b,Bool.and_false]
    ·rw [List.drop_eq_getElem_cons (show i + 1 < zs.length by omega)]
     show _ = D.bl (_ && ((rgt rs ss bs (trl es' o) w && ze4 es' o) && _))
     rw [b,Bool.false_and,Bool.and_false]
   ·have b : (rgt rs ss bs (trl es' o) w && ze4 es' o) = true:=by
     cases hb' : (rgt rs ss bs (trl es' o) w && ze4 es' o) with
     | true=>rfl
     | false=>rw [hb'] at b; cases b
    walk_at "nrm"
    cases o with
    | none =>
     have hq : i + 1 = zs.length:=by
      by_cases hq : i + 1 = zs.length
      ·exact hq
      ·rw [decide_eq_false hq] at q; cases q
     refine zaz (b:=false) rfl (fun c=>by cases c) (fun _=>zbo ?_)
     refine ⟨es',_,_,_,rfl,hes',fun h=>?_,fun _ _=>?_⟩
     ·rw [List.length_append] at h
      exact absurd (show i + 1 < zs.length by rw [<- hpi]; exact h) (by omega)
     ·rw [hgo,List.drop_of_length_le (by omega)]
      show (true && (rgt rs ss bs (trl es' none) w && ze4 es' none)) = true
      rw [b]
      rfl
    | some z =>
     have hq : i + 1 ≠ zs.length:=fun hq=>by rw [decide_eq_true hq] at q; cases q
     obtain ⟨z0,z1⟩:=hpo z rfl
     refine zaz (b:=true) rfl (fun _=>?_) (fun c=>by cases c)
     refine zio (k:=z.1) (xs:=es'.map shD) (d:=shD (some z.2)) (zak (zcq (zak rfl rfl rfl) rfl) rfl rfl) (zak (zcq (zak rfl rfl rfl) rfl) rfl rfl) rfl z0 (by rw [List.length_map]; omega) ?_
     refine ⟨es'.set z.1.toNat (some z.2),_,_,_,by rw [List.map_set]; rfl,by rw [List.length_set]; exact hes',fun h=>?_,fun h _=>?_⟩
     ·rw [List.length_append]
      show _ = rst rs ss bs _ (zs.drop (pre.length + 1))
      rw [hgo,hpi,List.drop_eq_getElem_cons (show i + 1 < zs.length by omega)]
      show (true && ((rgt rs ss bs (trl es' (some z)) w && ze4 es' (some z)) && _)) = _
      rw [b]
      rfl
     ·rw [List.length_append] at h
      exact absurd (show i + 1 = zs.length by rw [<- hpi]; exact h) hq
 ·rintro ρ ⟨es',v6,v7,v8,rfl,hes',_,hend⟩
  rw [List.length_range] at hend
  refine zbx (zar (zau rfl (zc4 _ _)) rfl zlc) (zbs ?_)
  cases zs with
  | nil=>rfl
  | cons z zs =>
   rw [hend rfl (by rw [List.length_cons]; omega)]
   show D.bl (decide _) = _
   rw [decide_eq_true (by rw [List.length_cons]; omega)]
end
theorem zub (ns : List Int) : (zct ns).length <= ns.length:=by
 rw [zsw]
 exact firstMet_length_le _ _
noncomputable def zrv (n : Nat) (zs : List (Int × Bool)) (sts : List Stp) : Prop:=zf5 n zs /\ (∀ z ∈ sts,za1 n z) /\ sts.length <= 1000
noncomputable def lnD (zs : List (Int × Bool)) (sts : List Stp) : D:=.tup [baD zs,.lst (sts.map stD)]
noncomputable def rln (rs : List Rul) (ss : List (List Int)) (bs : List (List (Int × Bool))) (n : Nat) (zs : List (Int × Bool)) (sts : List Stp) : Bool :=
 !(decide ((zct (zs.map (·.1))).length < zs.length)) && rst rs ss bs (beg n zs) sts
section
variable {rs : List Rul} {ss : List (List Int)} {bs : List (List (Int × Bool))}
theorem z4d (n : Nat) (n60 : n <= 60) (hok : ∀ r ∈ rs,r.Ok n) (hz : rs.length <= 1000) (hs : ∀ s ∈ ss,zd0 n s) (hb : ∀ b ∈ bs,zf5 n b) (zs : List (Int × Bool)) (sts : List Stp) (hl : zrv n zs sts) :
  zqf [plD n rs,.lst (ss.map seD),.lst (bs.map baD),lnD zs sts] = some (.bl (rln rs ss bs n zs sts)):=by
 obtain ⟨⟨hz1,hz2⟩,hst,hsl⟩:=hl
 have eb : znz [.int (n : Int),.lst (zs.map brD)] = some (.lst ((beg n zs).map shD)):=z7g (n : Int) (by omega) (by omega) zs hz1
 have est:=zzr (rs:=rs) (ss:=ss) (bs:=bs) n n60 hok hz hs hb (beg n zs) (znk n zs) sts hst hsl
 apply zec
 unfold b_40
 show wp _ [.im (plD n rs),.im (.lst (ss.map seD)),.im (.lst (bs.map baD)),.im (lnD zs sts),.no,.no] _
 apply zam
 refine zbr (d:=baD zs) (zak rfl rfl rfl) ?_
 walk_at "nrm"
 apply zam
 refine zbr (d:=.lst ((zs.map (·.1)).map D.int)) (zat ?_) ?_
 ·rw [List.map_map]
  exact zcs zs brD (fun z=>D.int z.1) rfl (by omega) fun z _=>zcp rfl rfl rfl
 walk_at "nrm"
 apply zam
 refine zaz (zb0 (zar (z1u rfl (by rw [List.length_map]; omega)) (zau rfl (zc4 _ _)) zjm)) (fun q=>zbx rfl (zbs ?_)) (fun q=>zbo ?_)
 ·rw [List.length_map] at q
  have q : (zct (zs.map (·.1))).length < zs.length:=by have:=of_decide_eq_true q; omega
  unfold rln
  rw [decide_eq_true q]
  rfl
 ·rw [List.length_map] at q
  have q : ¬ (zct (zs.map (·.1))).length < zs.length:=by have:=of_decide_eq_false q; omega
  walk_at "nrm"
  refine zbx (zau (zad rfl (zad rfl (zad rfl (zad (zau (zad (zak rfl rfl rfl) (zad rfl rfl)) eb) (zad (zak rfl rfl rfl) rfl))))) est) (zbs ?_)
  unfold rln
  rw [decide_eq_false q]
  rfl
end
theorem zl8 (xs : List D) (d : D) : atI (xs ++ [d]) (-1) = some d:=by
 unfold atI
 have hl : (xs ++ [d]).length = xs.length + 1:=by simp
 have e : ixN (xs ++ [d]).length (-1) = some xs.length:=by
  rw [hl]
  unfold ixN
  rw [if_neg (by decide),if_pos (by omega)]
  congr 1
  omega
 rw [e]
 show (xs ++ [d])[xs.length]? = some d
 simp
theorem zsg {rs : List Rul} {ss : List (List Int)} {bs : List (List (Int × Bool))} (es : List (Option Bool)) (z : Stp) (r : List Stp) (h : r ≠ []) :
  rst rs ss bs es (z :: r) = (z.1.isSome && ((rgt rs ss bs (trl es z.1) z.2 && ze4 es z.1) && rst rs ss bs (aft es z.1) r)):=by
 cases r with
 | nil=>exact absurd rfl h
 | cons y r=>rfl
theorem zzg (o : Option (Int × Bool)) : zdq (opD o) .non = some (.bl o.isSome):=by cases o <;> rfl
theorem z48 {α : Type} (xs : List α) (x : α) : (((xs ++ [x]).drop (HT.sIx (xs ++ [x]).length 0 none)).take (HT.sIx (xs ++ [x]).length (xs ++ [x]).length (some (-1)) - HT.sIx (xs ++ [x]).length 0 none)) = xs:=by
 have e1 : HT.sIx (xs ++ [x]).length 0 none = 0:=rfl
 have e2 : HT.sIx (xs ++ [x]).length (xs ++ [x]).length (some (-1)) = xs.length:=by
  unfold HT.sIx
  rw [List.length_append]
  simp
  omega
 rw [e1,e2,List.drop_zero,Nat.sub_zero,List.take_left']
 rfl
theorem zsr {rs : List Rul} {ss : List (List Int)} {bs : List (List (Int × Bool))} : ∀ (es : List (Option Bool)) (ini : List Stp) (l : Stp),l.1.isSome = true -> rst rs ss bs es (ini ++ [l]) = false
 | es,[],l,h=>by
  show (l.1.isNone && _) = false
  have : l.1.isNone = false:=by
   cases hq : l.1 with
   | none=>rw [hq] at h; cases h
   | some z=>rfl
  rw [this]
  rfl
 | es,z :: ini,l,h=>by
  rw [List.cons_append,zsg es z (ini ++ [l]) (by simp),zsr _ ini l h,Bool.and_false,Bool.and_false]
section
variable {rs : List Rul} {ss : List (List Int)} {bs : List (List (Int × Bool))}
theorem z65 (n : Nat) (n60 : n <= 60) (hok : ∀ r ∈ rs,r.Ok n) (hz : rs.length <= 1000) (hs : ∀ s ∈ ss,zd0 n s) (hb : ∀ b ∈ bs,zf5 n b) (zs : List (Int × Bool)) (sts : List Stp) (hl : zrv n zs sts) :
  zo6 [.int n,.lst (rs.map Rul.toD),.lst (ss.map seD),.lst (bs.map baD),lnD zs sts] = some (.bl (rst rs ss bs (beg n zs) sts)):=by
 obtain ⟨⟨hz1,hz2⟩,hst,hsl⟩:=hl
 have eo : znj [.int (n : Int),.lst (zs.map brD)] = some ((beg n zs).map shD):=zxn (n : Int) (by omega) (by omega) zs hz1
 apply zec
 unfold b_25
 show wp _ [.im (.int n),.im (.lst (rs.map Rul.toD)),.im (.lst (ss.map seD)),.im (.lst (bs.map baD)),.im (lnD zs sts),.no,.no,.no,.no,.no] _
 apply zam
 refine zhj rfl rfl ?_
 walk_at "nrm"
 rcases List.eq_nil_or_concat sts with rfl | ⟨ini,l,rfl⟩
 ·apply zam
  exact zaz (b:=true) (zla rfl) (fun _=>zbx rfl (zbs rfl)) (fun c=>by cases c)
 ·rw [List.concat_eq_append] at *
  have hln : (ini ++ [l]).isEmpty = false:=by cases ini <;> rfl
  obtain ⟨hlp,hlw⟩:=hst l (by simp)
  have eL : atI ((ini ++ [l]).map stD) (-1) = some (stD l):=by rw [List.map_append]; exact zl8 _ _
  have eN : mB (m2 dEq (zaa 6) (zal (fun _=>some []))) [.im (.int n),.im (.lst (rs.map Rul.toD)),.im (.lst (ss.map seD)),.im (.lst (bs.map baD)),.im (lnD zs (ini ++ [l])),.im (baD zs),.im (.lst ((ini ++ [l]).map stD)),.no,.no,.no] = some false:=by
   rw [<- hln]
   exact zb0 (zar rfl (zat rfl) (zof _ _))
  apply zam
  refine zaz (b:=l.1.isSome) (zhd eN (zb0 (zar (zak (zcq (zak rfl rfl eL) rfl) rfl rfl) rfl (zzg _)))) (fun q=>zbx rfl (zbs ?_)) (fun q=>zbo ?_)
  ·rw [zsr _ ini l q]
  ·have hll : l.1 = none:=by
    obtain ⟨o,w⟩:=l
    cases o with
    | none=>rfl
    | some z=>cases q
   walk_at "nrm"
   apply zam
   refine zes (zvm (zad rfl (zad rfl rfl)) eo) ?_
   walk_at "nrm"
   apply zam
   refine zd7 ini stD (fun pre ρ=>∃ (es' : List (Option Bool)) (v8 v9 : Sl),ρ = [.im (.int n),.im (.lst (rs.map Rul.toD)),.im (.lst (ss.map seD)),.im (.lst (bs.map baD)),.im (lnD zs (ini ++ [l])),.im (baD zs),.im (.lst ((ini ++ [l]).map stD)),.own (es'.map shD),v8,v9] /\ es'.length = n /\ ∀ post,ini = pre ++ post -> rst rs ss bs (beg n zs) (ini ++ [l]) = rst rs ss bs es' (post ++ [l])) ?_ ⟨beg n zs,.no,.no,rfl,znk n zs,fun post e=>by rw [e]; rfl⟩ ?_ ?_
   ·refine zcq (zat ?_) rfl
    have:=zc6 (f:=zaa 6) (l:=fun _=>some none) (h:=mPt (m1 zfh (fun _=>some (.int 1)))) (ρ:=[.im (.int n),.im (.lst (rs.map Rul.toD)),.im (.lst (ss.map seD)),.im (.lst (bs.map baD)),.im (lnD zs (ini ++ [l])),.im (baD zs),.im (.lst ((ini ++ [l]).map stD)),.own ((beg n zs).map shD),.no,.no]) (g:=stD) (xs:=ini ++ [l]) (lo:=none) (hi:=some (-1)) rfl rfl rfl
    rw [z48] at this
    exact this
   ·rintro pre z post ρ ex ⟨es',v8,v9,rfl,hes',hgo⟩
    have hgo:=hgo (z :: post) ex
    rw [List.cons_append,zsg es' z (post ++ [l]) (by simp)] at hgo
    obtain ⟨hpo,hwo⟩:=hst z (by rw [ex]; simp)
    obtain ⟨o,w⟩:=z
    refine ⟨_,rfl,?_⟩
    walk_at "nrm"
    cases o with
    | none =>
     apply zam
     refine zaz (b:=true) (zla rfl) (fun _=>zbx rfl (zbs ?_)) (fun c=>by cases c)
     rw [hgo]
     rfl
    | some y =>
     obtain ⟨y0,y1⟩:=hpo y rfl
     have er:=zpa (rs:=rs) (ss:=ss) (bs:=bs) (es:=trl es' (some y)) (by rw [zfy,hes']; exact hok) hz (by rw [zfy,hes']; exact hs) (by rw [zfy,hes']; exact hb) (by rw [zfy]; omega) w (by rw [zfy,hes']; exact hwo)
     have ewi:=zpw (es:=es') (!y.2) y0 (by rw [hes']; exact y1) (by omega)
     apply zam
     refine zaz (zhd rfl (zb0 (zar (zak rfl (zak rfl rfl rfl) (zdb y0 (by rw [hes']; exact y1))) rfl (zuo _)))) (fun b=>zbx rfl (zbs ?_)) (fun b=>zbo ?_)
     ·have b' : (es'.getD y.1.toNat none == none) = false:=by
       cases hq : es'.getD y.1.toNat none with
       | none=>rw [hq] at b; cases b
       | some c=>rfl
      rw [hgo]
      show _ = D.bl (true && ((_ && (es'.getD y.1.toNat none == none)) && _))
      rw [b',Bool.and_false,Bool.false_and]
      rfl
     ·have b' : (es'.getD y.1.toNat none == none) = true:=by
       cases hq : es'.getD y.1.toNat none with
       | none=>rfl
       | some c=>rw [hq] at b; cases b
      walk_at "nrm"
      apply zam
      refine zaz (zfl (zdc (zl2 (zad rfl (zad rfl (zad rfl (zad (zau (zad rfl (zad (zak rfl rfl rfl) (zad (zgi (zak rfl rfl rfl)) rfl))) ewi) (zad rfl rfl))))) er rfl) rfl)) (fun c=>zbx rfl (zbs ?_)) (fun c=>zbo ?_)
      ·have c : rgt rs ss bs (trl es' (some y)) w = false:=by simpa using c
       rw [hgo]
       show _ = D.bl (true && ((rgt rs ss bs (trl es' (some y)) w && _) && _))
       rw [c]
       rfl
      ·have c : rgt rs ss bs (trl es' (some y)) w = true:=by simpa using c
       walk_at "nrm"
       refine zio (k:=y.1) (xs:=es'.map shD) (d:=shD (some y.2)) (zak rfl rfl rfl) (zak rfl rfl rfl) rfl y0 (by rw [List.length_map]; omega) ?_
       refine ⟨es'.set y.1.toNat (some y.2),_,_,by rw [List.map_set]; rfl,by rw [List.length_set]; exact hes',fun post' e=>?_⟩
       have : post' = post:=by
        rw [ex,List.append_assoc] at e
        have e:=List.append_cancel_left e
        exact (List.cons.inj e).2.symm
       subst this
       rw [hgo]
       show (true && ((rgt rs ss bs (trl es' (some y)) w && (es'.getD y.1.toNat none == none)) && _)) = _
       rw [c,b']
       rfl
   ·rintro ρ ⟨es',v8,v9,rfl,hes',hgo⟩
    have hgo:=hgo [] (List.append_nil _).symm
    have er:=zpa (rs:=rs) (ss:=ss) (bs:=bs) (es:=es') (by rw [hes']; exact hok) hz (by rw [hes']; exact hs) (by rw [hes']; exact hb) (by omega) l.2 (by rw [hes']; exact hlw)
    walk_at "nrm"
    refine zhc rfl ?_
    refine zbx (zau (zad rfl (zad rfl (zad rfl (zad rfl (zad (zak (zcq (zak rfl rfl eL) rfl) rfl rfl) rfl))))) er) (zbs ?_)
    rw [hgo]
    show _ = D.bl (l.1.isNone && (rgt rs ss bs (trl es' l.1) l.2 && ze4 es' l.1))
    rw [hll]
    show _ = D.bl (true && (rgt rs ss bs es' l.2 && true))
    rw [Bool.true_and,Bool.and_true]
end
theorem z37 (sts : List Stp) (hl : sts.length <= 1000) : zpg [.lst (sts.map stD)] = some (.lst (sts.map stD)):=by
 apply zec
 unfold b_37
 show wp _ [.im (.lst (sts.map stD)),.no,.no,.no] _
 apply zam
 refine zes (d:=[]) rfl ?_
 walk_at "nrm"
 apply zam
 refine zd7 sts stD (fun pre ρ=>∃ v2 v3,ρ = [.im (.lst (sts.map stD)),.own (pre.map stD),v2,v3]) rfl ⟨_,_,rfl⟩ ?_ ?_
 ·rintro pre ⟨o,w⟩ post ρ ex ⟨v2,v3,rfl⟩
  have hpl : pre.length < sts.length:=by rw [ex]; simp
  refine ⟨_,rfl,?_⟩
  walk_at "nrm"
  refine zig (fun ρ'=>ρ' = [.im (.lst (sts.map stD)),.own (pre.map stD),.im (opD o),.im w.toD]) ?_ ?_
  ·cases w with
   | grp xs=>exact zaz (b:=true) rfl (fun _=>zbr (zb7 (zad (zak rfl rfl rfl) (zad (zat (zcq (zak rfl rfl rfl) rfl)) rfl))) (k_J rfl)) (fun z=>by cases z)
   | rul k=>exact zaz (b:=false) rfl (fun z=>by cases z) (fun _=>zbo (k_J rfl))
   | bar k=>exact zaz (b:=false) rfl (fun z=>by cases z) (fun _=>zbo (k_J rfl))
   | wld k=>exact zaz (b:=false) rfl (fun z=>by cases z) (fun _=>zbo (k_J rfl))
  ·rintro ρ' rfl
   refine zhy (d:=stD (o,w)) (zb7 (zad rfl (zad rfl rfl))) rfl (by rw [List.length_map]; omega) ?_
   exact ⟨_,_,by rw [List.map_append]; rfl⟩
 ·rintro ρ ⟨v2,v3,rfl⟩
  exact zgx rfl (zks rfl)
theorem z83 (o : Option (Int × Bool)) : zc1 3 (opD o):=by
 cases o with
 | none=>exact rfl
 | some z =>
  intro y hy
  simp only [List.mem_cons,List.not_mem_nil,or_false] at hy
  rcases hy with rfl | rfl <;> exact rfl
theorem zza (w : Wy) : zc1 3 w.toD:=by
 cases w with
 | grp xs =>
  intro x hx
  simp only [List.mem_cons,List.not_mem_nil,or_false] at hx
  rcases hx with rfl | rfl
  ·exact rfl
  ·exact zs8 xs
 | _ k =>
  intro x hx
  simp only [List.mem_cons,List.not_mem_nil,or_false] at hx
  rcases hx with rfl | rfl <;> exact rfl
theorem zww (zs : List (Int × Bool)) (sts : List Stp) : zc1 7 (lnD zs sts):=fun x hx=>by
  simp only [List.mem_cons,List.not_mem_nil,or_false] at hx
  rcases hx with rfl | rfl
  ·exact (z27 zs).le (by decide)
  ·intro y hy
   obtain ⟨⟨o,w⟩,_,rfl⟩:=List.mem_map.mp hy
   intro x hx
   simp only [List.mem_cons,List.not_mem_nil,or_false] at hx
   rcases hx with rfl | rfl
   ·exact (z83 o).le (by decide)
   ·exact (zza w).le (by decide)
theorem z76 {ns : List Int} (nd : ns.Nodup) : (zct ns).length = ns.length :=
 (zm1 ns (zct ns) nd (fun x hx=>(zl9 x ns).mpr hx) (zub ns)).length_eq
noncomputable abbrev Ln:=List (Int × Bool) × List Stp
noncomputable def lD (l : Ln) : D:=lnD l.1 l.2
noncomputable def LnM (n : Nat) (l : Ln) : Prop:=zrv n l.1 l.2 /\ (l.1.map (·.1)).Nodup
noncomputable def LnN (n : Nat) (l : Ln) : Prop:=LnM n l /\ 0 < l.2.length /\ l.2.length <= 40
theorem zw0 {rs : List Rul} {ss : List (List Int)} {bs : List (List (Int × Bool))} {n : Nat} {zs : List (Int × Bool)} {sts : List Stp} (nd : (zs.map (·.1)).Nodup) : rln rs ss bs n zs sts = rst rs ss bs (beg n zs) sts:=by
 unfold rln
 rw [z76 nd,List.length_map,decide_eq_false (Nat.lt_irrefl _)]
 rfl
noncomputable def pgo (rs : List Rul) (ss : List (List Int)) (n : Nat) : List (List (Int × Bool)) -> List Ln -> Bool
 | _,[]=>true
 | bs,l :: r=>rst rs ss bs (beg n l.1) l.2 && pgo rs ss n (bs ++ [l.1]) r
noncomputable def zhf (rs : List Rul) (ss : List (List Int)) (n : Nat) (ls : List Ln) : Bool:=pgo rs ss n [] ls && (match ls.getLast? with
 | none=>false
 | some l=>l.1.isEmpty)
section
variable {rs : List Rul} {ss : List (List Int)}
theorem z11 (n : Nat) (n60 : n <= 60) (hok : ∀ r ∈ rs,r.Ok n) (hz : rs.length <= 1000) (hs : ∀ s ∈ ss,zd0 n s) (ls : List Ln) (hl : ∀ l ∈ ls,LnM n l) (hll : ls.length <= 3000) :
  zp2 [plD n rs,.lst (ss.map seD),.lst (ls.map lD)] = some (.bl (zhf rs ss n ls)):=by
 apply zec
 unfold b_41
 show wp _ [.im (plD n rs),.im (.lst (ss.map seD)),.im (.lst (ls.map lD)),.no,.no] _
 apply zam
 refine zes rfl ?_
 walk_at "nrm"
 apply zam
 refine zd7 ls lD (fun pre ρ=>∃ v4 : Sl,ρ = [.im (plD n rs),.im (.lst (ss.map seD)),.im (.lst (ls.map lD)),.own ((pre.map (·.1)).map baD),v4] /\ ∀ post,ls = pre ++ post -> pgo rs ss n [] ls = pgo rs ss n (pre.map (·.1)) post) rfl ⟨_,rfl,fun post e=>by rw [e]; rfl⟩ ?_ ?_
 ·rintro pre l post ρ ex ⟨v4,rfl,hgo⟩
  have hgo:=hgo (l :: post) ex
  have hln:=hl l (by rw [ex]; simp)
  have hpl : pre.length < ls.length:=by rw [ex]; simp
  have er:=z4d (rs:=rs) (ss:=ss) (bs:=pre.map (·.1)) n n60 hok hz hs (fun b hb=>by
   obtain ⟨q,hq,rfl⟩:=List.mem_map.mp hb
   exact (hl q (by rw [ex]; exact List.mem_append_left _ hq)).1.1) l.1 l.2 hln.1
  rw [zw0 hln.2] at er
  refine ⟨_,rfl,?_⟩
  walk_at "nrm"
  apply zam
  refine zaz (zfl (zdc (zl2 (zad rfl (zad rfl (zad rfl (zad rfl rfl)))) er rfl) rfl)) (fun q=>zbx rfl (zbs ?_)) (fun q=>zbo ?_)
  ·unfold zhf
   rw [hgo]
   show _ = D.bl ((rst rs ss (pre.map (·.1)) (beg n l.1) l.2 && _) && _)
   cases h : rst rs ss (pre.map (·.1)) (beg n l.1) l.2 with
   | true=>rw [h] at q; cases q
   | false=>rfl
  ·walk_at "nrm"
   refine zhy (d:=baD l.1) (zak rfl rfl rfl) rfl (by rw [List.length_map,List.length_map]; omega) ?_
   refine ⟨_,by rw [List.map_append,List.map_append]; rfl,fun post' e=>?_⟩
   rw [List.append_assoc] at e
   have : post' = post:=by
    have:=ex.symm.trans e
    exact (List.cons.inj (List.append_cancel_left this)).2.symm
   subst this
   rw [hgo,List.map_append]
   show (rst rs ss (pre.map (·.1)) (beg n l.1) l.2 && pgo rs ss n (pre.map (·.1) ++ [l.1]) post') = _
   cases h : rst rs ss (pre.map (·.1)) (beg n l.1) l.2 with
   | true=>rfl
   | false=>rw [h] at q; cases q
 ·rintro ρ ⟨v4,rfl,hgo⟩
  walk_at "nrm"
  have hgo:=hgo [] (List.append_nil _).symm
  refine zhc rfl ?_
  refine zbx (d:=.bl (zhf rs ss n ls)) ?_ (zbs rfl)
  unfold zhf
  rw [hgo]
  rcases List.eq_nil_or_concat ls with rfl | ⟨ini,l,rfl⟩
  ·rfl
  ·rw [List.concat_eq_append] at *
   have eL : atI (((ini ++ [l]).map (·.1)).map baD) (-1) = some (baD l.1):=by rw [List.map_append,List.map_append]; exact zl8 _ _
   have e1 : decide ((((((ini ++ [l]).map (·.1)).length : Nat) : Int)) > 0) = true:=decide_eq_true (by rw [List.length_map,List.length_append]; show ((_ + 1 : Nat) : Int) > 0; omega)
   have e2 : (match (ini ++ [l]).getLast? with | none=>false | some l=>l.1.isEmpty) = l.1.isEmpty:=by rw [List.getLast?_concat]
   show _ = some (D.bl (true && (match (ini ++ [l]).getLast? with | none=>false | some l=>l.1.isEmpty)))
   rw [e2]
   refine zhq (a:=true) (zar (zau rfl (zc4 _ _)) rfl (by rw [<- e1]; exact zlc)) (zar (zau (zad (zak rfl rfl eL) rfl) (zc4 _ _)) rfl ?_)
   rw [zdx]
   cases l.1 <;> rfl
theorem z3z (n : Nat) (n60 : n <= 60) (hok : ∀ r ∈ rs,r.Ok n) (hz : rs.length <= 1000) (hs : ∀ s ∈ ss,zd0 n s) (ls : List Ln) (hl : ∀ l ∈ ls,LnM n l) (hll : ls.length <= 3000) :
  zoy [.int n,.lst (rs.map Rul.toD),.lst (ss.map seD),.lst (ls.map lD)] = some (.bl (zhf rs ss n ls)):=by
 apply zec
 unfold b_38
 show wp _ [.im (.int n),.im (.lst (rs.map Rul.toD)),.im (.lst (ss.map seD)),.im (.lst (ls.map lD)),.no,.no,.no] _
 apply zam
 refine zbr (d:=.lst ((ls.map (·.1)).map baD)) (zat ?_) ?_
 ·rw [List.map_map]
  exact zcs ls lD (fun l=>baD l.1) rfl (by omega) fun l _=>zcp rfl rfl rfl
 walk_at "nrm"
 apply zam
 refine zd7 (List.range ls.length) (fun i=>D.tup [.int (i : Nat),lD (ls.getD i ([],[]))]) (fun pre ρ=>∃ v5 v6 : Sl,ρ = [.im (.int n),.im (.lst (rs.map Rul.toD)),.im (.lst (ss.map seD)),.im (.lst (ls.map lD)),.im (.lst ((ls.map (·.1)).map baD)),v5,v6] /\ pgo rs ss n [] ls = pgo rs ss n ((ls.take pre.length).map (·.1)) (ls.drop pre.length)) (zie ([],[]) (zad rfl rfl)) ⟨_,_,rfl,rfl⟩ ?_ ?_
 ·rintro pre i post ρ ex ⟨v5,v6,rfl,hgo⟩
  have hi : i < ls.length:=List.mem_range.mp (by rw [ex]; simp)
  have hpi : pre.length = i:=by
   have h1 : (List.range ls.length)[pre.length]? = some i:=by rw [ex]; simp
   have hp : pre.length < ls.length:=by
    have : pre.length < (List.range ls.length).length:=by rw [ex]; simp
    simpa using this
   rw [List.getElem?_range hp] at h1
   exact Option.some.inj h1
  have hd : ls.drop i = ls[i] :: ls.drop (i + 1):=List.drop_eq_getElem_cons hi
  have eg : ls.getD i ([],[]) = ls[i]:=by rw [List.getD_eq_getElem?_getD,List.getElem?_eq_getElem hi]; rfl
  have ht : ls.take (i + 1) = ls.take i ++ [ls[i]]:=by rw [List.take_succ,List.getElem?_eq_getElem hi]; rfl
  rw [hpi,hd] at hgo
  have hln:=hl ls[i] (List.getElem_mem hi)
  rw [eg]
  generalize ls[i] = l at hgo hln ht
  have er:=z65 (rs:=rs) (ss:=ss) (bs:=(ls.take i).map (·.1)) n n60 hok hz hs (fun b hb=>by
   obtain ⟨q,hq,rfl⟩:=List.mem_map.mp hb
   exact (hl q (List.mem_of_mem_take hq)).1.1) l.1 l.2 hln.1
  have esl : mSl (zaa 4) (fun _=>some none) (mPt (zaa 5)) [.im (.int n),.im (.lst (rs.map Rul.toD)),.im (.lst (ss.map seD)),.im (.lst (ls.map lD)),.im (.lst ((ls.map (·.1)).map baD)),.im (.int i),.im (lD l)] = some (((ls.take i).map (·.1)).map baD):=by
   have:=zc6 (f:=zaa 4) (l:=fun _=>some none) (h:=mPt (zaa 5)) (ρ:=[.im (.int n),.im (.lst (rs.map Rul.toD)),.im (.lst (ss.map seD)),.im (.lst (ls.map lD)),.im (.lst ((ls.map (·.1)).map baD)),.im (.int i),.im (lD l)]) (g:=baD) (xs:=ls.map (·.1)) (lo:=none) (hi:=some (i : Int)) rfl rfl rfl
   rw [show HT.sIx (ls.map (·.1)).length 0 none = 0 from rfl,HT.sIx_nat,List.drop_zero,Nat.sub_zero,List.length_map,Nat.min_eq_left (Nat.le_of_lt hi),<- List.map_take] at this
   exact this
  refine ⟨_,rfl,?_⟩
  walk_at "nrm"
  refine zaz (zfl (zdc (zau (zad rfl (zad rfl (zad rfl (zad (zat esl) (zad rfl rfl))))) er) rfl)) (fun q=>zbx rfl (zbs ?_)) (fun q=>zbo ?_)
  ·unfold zhf
   rw [hgo]
   show _ = D.bl ((rst rs ss ((ls.take i).map (·.1)) (beg n l.1) l.2 && _) && _)
   cases h : rst rs ss ((ls.take i).map (·.1)) (beg n l.1) l.2 with
   | true=>rw [h] at q; cases q
   | false=>rfl
  ·refine ⟨_,_,rfl,?_⟩
   rw [hgo,List.length_append,hpi]
   show (rst rs ss ((ls.take i).map (·.1)) (beg n l.1) l.2 && pgo rs ss n ((ls.take i).map (·.1) ++ [l.1]) (ls.drop (i + 1))) = pgo rs ss n ((ls.take (i + 1)).map (·.1)) (ls.drop (i + 1))
   rw [ht,List.map_append]
   cases h : rst rs ss ((ls.take i).map (·.1)) (beg n l.1) l.2 with
   | true=>rfl
   | false=>rw [h] at q; cases q
 ·rintro ρ ⟨v5,v6,rfl,hgo⟩
  walk_at "nrm"
  rw [List.length_range,List.drop_length] at hgo
  refine zbx (d:=.bl (zhf rs ss n ls)) ?_ (zbs rfl)
  unfold zhf
  rw [hgo]
  rcases List.eq_nil_or_concat ls with rfl | ⟨ini,l,rfl⟩
  ·rfl
  ·rw [List.concat_eq_append] at *
   have eL : atI (((ini ++ [l]).map (·.1)).map baD) (-1) = some (baD l.1):=by rw [List.map_append,List.map_append]; exact zl8 _ _
   have e1 : (!(ini ++ [l]).isEmpty) = true:=by cases ini <;> rfl
   have e2 : (match (ini ++ [l]).getLast? with | none=>false | some l=>l.1.isEmpty) = l.1.isEmpty:=by rw [List.getLast?_concat]
   show _ = some (D.bl (true && (match (ini ++ [l]).getLast? with | none=>false | some l=>l.1.isEmpty)))
   rw [e2]
   refine zhq (a:=true) (zar rfl (zat rfl) (by rw [<- e1]; exact zjl _ _)) (zar (zak rfl rfl eL) (zat rfl) (zof _ _))
theorem zzo (n : Int) : zc1 20 (.lst [plD n rs,.lst (ss.map seD)]):=by
 have : zc1 11 (.lst [plD n rs,.lst (ss.map seD)]):=fun x hx=>by
  simp only [List.mem_cons,List.not_mem_nil,or_false] at hx
  rcases hx with rfl | rfl
  ·intro y hy
   simp only [List.mem_cons,List.not_mem_nil,or_false] at hy
   rcases hy with rfl | rfl
   ·exact rfl
   ·intro z hz
    obtain ⟨r,_,rfl⟩:=List.mem_map.mp hz
    exact (z8w r).le (by decide)
  ·intro y hy
   obtain ⟨r,_,rfl⟩:=List.mem_map.mp hy
   exact (zs8 r).le (by decide)
 exact this.le (by decide)
theorem z5o (ls : List Ln) : zc1 20 (.lst (ls.map lD)):=by
 have : zc1 8 (.lst (ls.map lD)):=fun x hx=>by
  obtain ⟨l,_,rfl⟩:=List.mem_map.mp hx
  exact zww l.1 l.2
 exact this.le (by decide)
theorem z74 (n : Nat) (n60 : n <= 60) (hok : ∀ r ∈ rs,r.Ok n) (hz : rs.length <= 1000) (hp : ∀ r ∈ rs,r.ps.length <= 1000) (hs : ∀ s ∈ ss,zd0 n s) (hsz : ss.length <= 1000) (ls : List Ln) (hl : ∀ l ∈ ls,LnM n l) (hll : ls.length <= 3000) :
  zpm [.int n,.lst (rs.map Rul.toD),.lst (ss.map seD),.lst (ls.map lD)] = some (.bl true):=by
 have ec:=zy6 rs hz hp
 have e1:=z11 (rs:=rs) (ss:=ss) n n60 hok hz hs ls hl hll
 have e2:=z3z (rs:=rs) (ss:=ss) n n60 hok hz hs ls hl hll
 apply zec
 unfold b_39
 show wp _ [.im (.int n),.im (.lst (rs.map Rul.toD)),.im (.lst (ss.map seD)),.im (.lst (ls.map lD)),.no,.no,.no] _
 apply zam
 refine zbr (d:=.lst [plD n rs,.lst (ss.map seD)]) (zat (zad (zb7 (zad rfl (zad (zau rfl ec) rfl))) (zad (zat (zcs ss seD seD rfl (by omega) fun x _=>zcp rfl rfl (zat rfl))) rfl))) ?_
 walk_at "nrm"
 apply zam
 refine zbr (d:=.lst (ls.map lD)) (zat (zcs ls lD lD rfl (by omega) fun l hl'=>?_)) ?_
 ·have ea:=z37 l.2 (hl l hl').1.2.2
  exact zcp rfl rfl (zb7 (zad (zat rfl) (zad (zau (zad rfl rfl) ea) rfl)))
 walk_at "nrm"
 apply zam
 refine zbr (zau (zad (zak rfl rfl rfl) (zad (zak rfl rfl rfl) (zad rfl rfl))) e1) ?_
 walk_at "nrm"
 apply zam
 refine zaz (b:=false) (zhd (zfl (b:=true) rfl) (zb0 (zar rfl (zau (zad rfl (zad rfl (zad rfl (zad rfl rfl)))) e2) (zxv _)))) (fun z=>by cases z) (fun _=>zbo ?_)
 walk_at "nrm"
 exact zbx (zhq (zar rfl (zat (zad (zb7 (zad rfl (zad rfl rfl))) (zad rfl rfl))) (zsn (zzo n))) (zar rfl rfl (zsn (z5o ls)))) (zbs rfl)
end
theorem z7h {p q : Int -> Bool} {its : List (Int × Int)} (h : ∀ z ∈ its,p z.1 = q z.1) : zf3 p its = zf3 q its:=by
 unfold zf3
 rw [List.filter_congr h]
theorem zwt {l : List Bool} {its : List (Int × Int)} (h : InN l.length its) : zgk (· == some true) (bs l) its = zf3 (fun t=>l.getD t.toNat false) its:=by
 rw [zsm]
 refine z7h fun z hz=>?_
 have:=h z hz
 rw [z8e (by omega)]
 cases l.getD z.1.toNat false <;> rfl
theorem zv2 {l : List Bool} {its : List (Int × Int)} {js : List Nat} {fi : List Sl -> Option (List D)} {ρ : List Sl} (h : InN l.length its) (hz : its.length <= 100000) (hi : fi ρ = some (its.map itD)) (hj : zdp 2 js ρ = [.no,.no,.im (.lst (l.map D.bl))]) :
  zap zd5 (zab (zal (za6 2 js fi (zb8 (za3 (zaq 0) (za3 (zaq 1) zcd))) (zcn (mIx (zaf 2) (zaa 0))) (zaa 1))) (fun _=>some [])) ρ = some (.int (zgk (· == some true) (bs l) its)):=by
 rw [zwt h]
 refine zau (zad (zat (zd3 its itD (fun z=>l.getD z.1.toNat false) (fun z=>D.int z.2) hi (by omega) fun z hz'=>?_)) rfl) (zh4 (fun t=>l.getD t.toNat false) its)
 rw [hj]
 exact zdu rfl (zdc (zak rfl rfl (zfr (h z hz').1 (h z hz').2.1)) rfl) fun _=>rfl
theorem z9d {rs ws : List Bool} (p : Prt) (h : p.Ok rs.length) (hw : ws.length = rs.length) : zpx [p.toD,.lst (rs.map D.bl),.lst (ws.map D.bl)] = some (.bl (p.holds rs ws)):=by
 cases p with
 | inn t=>exact zca (zez (zex rfl (zcj (zak rfl rfl (zfr h.1 h.2)))))
 | out t=>exact zca (zcr (zc0 rfl rfl) (zez (zex rfl (zcj (zgi (zak rfl rfl (zfr h.1 (by rw [hw]; exact h.2))))))))
 | least k its=>exact zca (zcr (zc0 rfl rfl) (zcr (zc0 rfl rfl) (zez (zex rfl (zcj (zar (zv2 h.1 h.2 rfl rfl) rfl rfl))))))
 | most k its=>exact zca (zcr (zc0 rfl rfl) (zcr (zc0 rfl rfl) (zcr (zc0 rfl rfl) (zcj (zar (zv2 (by rw [hw]; exact h.1) h.2 rfl rfl) rfl rfl)))))
theorem zvs (ws : List Bool) : ws.map D.bl = (ws.map some).map shD:=by rw [List.map_map]; rfl
theorem zu4 : ∀ ws : List Bool,List.replicate ws.length (D.bl false) = ws.map fun _=>D.bl false
 | []=>rfl
 | _ :: ws=>by rw [List.length_cons,List.replicate_succ,zu4 ws]; rfl
theorem z17 (rs : List Rul) (n : Nat) (n60 : n <= 60) (hok : ∀ r ∈ rs,r.Ok n) (hz : rs.length <= 1000) (ws : List Bool) (hw : ws.length = n) : ∃ d,zlq [.lst (rs.map Rul.toD),.lst (ws.map D.bl)] = some d /\ ∃ b,d = .bl b:=by
 apply zgu
 unfold b_11
 show wp _ [.im (.lst (rs.map Rul.toD)),.im (.lst (ws.map D.bl)),.no,.no,.no,.no,.no] _
 apply zam
 refine zaz (zdc (zau (zad (zat (zcs rs Rul.toD (fun r=>D.bl (r.surely (ws.map some))) rfl (by omega) fun r hr=>zcp rfl rfl (zau (zad rfl (zad rfl rfl)) ?_))) rfl) (zjk _ _)) rfl) (fun _=>zbx rfl (zbs ⟨_,rfl⟩)) (fun _=>zbo ?_)
 ·rw [zvs]
  exact zpo r (by rw [List.length_map,hw]; exact hok r hr)
 walk_at "nrm"
 apply zam
 refine zes (d:=(List.replicate n false).map D.bl) ?_ ?_
 ·have : (List.replicate n false).map D.bl = ws.map fun _=>D.bl false:=by rw [List.map_replicate,<- hw]; exact zu4 ws
  rw [this]
  exact zcs ws D.bl (fun _=>D.bl false) (zcq rfl rfl) (by omega) fun x _=>zcp rfl rfl rfl
 walk_at "nrm"
 apply zam
 refine zd7 (List.range n) (fun (i : Nat)=>D.int i) (fun _ ρ=>∃ (ri : List Bool) (v3 v4 v5 v6 : Sl),ρ = [.im (.lst (rs.map Rul.toD)),.im (.lst (ws.map D.bl)),.own (ri.map D.bl),v3,v4,v5,v6] /\ ri.length = n) (ze0 (n:=(n : Int)) (zad (zau rfl (by rw [<- hw]; exact zc4 _ _)) rfl) (by omega) (by omega)) ⟨_,_,_,_,_,rfl,List.length_replicate⟩ ?_ ?_
 ·rintro pre i post ρ ex ⟨ri,v3,v4,v5,v6,rfl,hri⟩
  refine ⟨_,rfl,?_⟩
  walk_at "nrm"
  refine zd7 rs Rul.toD (fun _ ρ=>∃ (ri : List Bool) (v4 v5 v6 : Sl),ρ = [.im (.lst (rs.map Rul.toD)),.im (.lst (ws.map D.bl)),.own (ri.map D.bl),.im (.int i),v4,v5,v6] /\ ri.length = n) (zcq rfl rfl) ⟨_,_,_,_,rfl,hri⟩ ?_ ?_
  ·rintro pre r post ρ ex ⟨ri,v4,v5,v6,rfl,hri⟩
   have hr:=hok r (by rw [ex]; simp)
   refine ⟨_,rfl,?_⟩
   walk_at "nrm"
   by_cases hn : r.w = .never
   ·have e1 : mB (m2 dNe (zaa 4) (fun _=>some (.str "never"))) [.im (.lst (rs.map Rul.toD)),.im (.lst (ws.map D.bl)),.own (ri.map D.bl),.im (.int i),.im (.str r.w.s),.im r.hdD,.im (.lst (r.ps.map Prt.toD))] = some false:=by
     rw [hn]
     rfl
    exact zaz (b:=false) (zls e1) (fun q=>by cases q) (fun _=>zbo ⟨_,_,_,_,rfl,hri⟩)
   ·obtain ⟨h0,h1⟩:=hr.hd hn
    have e1 : mB (m2 dNe (zaa 4) (fun _=>some (.str "never"))) [.im (.lst (rs.map Rul.toD)),.im (.lst (ws.map D.bl)),.own (ri.map D.bl),.im (.int i),.im (.str r.w.s),.im (.int r.hd),.im (.lst (r.ps.map Prt.toD))] = some true:=by
     cases hw : r.w with
     | never=>exact absurd hw hn
     | make=>rfl
     | may=>rfl
    have eh : r.hdD = .int r.hd:=by
     unfold Rul.hdD
     cases hw : r.w with
     | never=>exact absurd hw hn
     | make=>rfl
     | may=>rfl
    rw [eh]
    refine zaz (ziq e1 (zh2 (zdc (zak rfl rfl (zfr h0 (by rw [hw]; exact h1))) rfl) (zfl (zdc (zak rfl rfl (zfr h0 (by rw [hri]; exact h1))) rfl)))) (fun _=>?_) (fun _=>zbo ⟨_,_,_,_,rfl,hri⟩)
    refine zio (k:=r.hd) (xs:=ri.map D.bl) (d:=.bl (r.ps.all fun p=>p.holds ri ws)) (zau (zad (zat (zcs r.ps Prt.toD (fun p=>D.bl (p.holds ri ws)) (zcq rfl rfl) (by have:=hr.len; omega) fun p hp=>zcp rfl rfl (z59 (zad rfl (zad rfl (zad rfl rfl))) (z9d p (by rw [hri]; exact hr.ps p hp) (by rw [hw,hri])) rfl))) rfl) (zpc _ _)) rfl rfl h0 (by rw [List.length_map,hri]; exact h1) ?_
    exact ⟨ri.set r.hd.toNat (r.ps.all fun p=>p.holds ri ws),_,_,_,by rw [List.map_set]; rfl,by rw [List.length_set]; exact hri⟩
  ·rintro ρ ⟨ri,v4,v5,v6,rfl,hri⟩
   exact ⟨_,_,_,_,_,rfl,hri⟩
 ·rintro ρ ⟨ri,v3,v4,v5,v6,rfl,hri⟩
  walk_at "nrm"
  refine zhc rfl ?_
  have hrw : (ri.map some).length = ws.length:=by rw [List.length_map,hri,hw]
  refine zbx (d:=.bl (ri.map some == ws.map some)) (zar rfl rfl ?_) (zbs ⟨_,rfl⟩)
  rw [zvs ri]
  exact zom _ _ hrw
noncomputable def stB (rs : List Rul) (ws : List Bool) : Bool:=match zlq [.lst (rs.map Rul.toD),.lst (ws.map D.bl)] with
 | some (.bl b)=>b
 | _=>false
theorem z6y (rs : List Rul) (n : Nat) (n60 : n <= 60) (hok : ∀ r ∈ rs,r.Ok n) (hz : rs.length <= 1000) (ws : List Bool) (hw : ws.length = n) : zlq [.lst (rs.map Rul.toD),.lst (ws.map D.bl)] = some (.bl (stB rs ws)):=by
 obtain ⟨d,e,b,rfl⟩:=z17 rs n n60 hok hz ws hw
 unfold stB
 rw [e]
noncomputable def SeN (n : Nat) (s : List Int) : Prop:=zd0 n s /\ s.Nodup /\ s.length <= 60
theorem z7r (m : Nat) (p : Nat -> Bool) : (((List.range m).filter p).map fun (i : Nat)=>(i : Int)).Nodup :=
 List.pairwise_map.mpr ((List.Pairwise.filter p List.nodup_range).imp fun h e=>h (Int.ofNat.inj e))
theorem zte (n m : Nat) (h : m <= n) (h60 : n <= 60) (p : Nat -> Bool) : SeN n (((List.range m).filter p).map fun (i : Nat)=>(i : Int)):=by
 have hl:=List.length_filter_le p (List.range m)
 rw [List.length_range] at hl
 refine ⟨⟨fun x hx=>?_,by rw [List.length_map]; omega⟩,z7r m p,by rw [List.length_map]; omega⟩
 obtain ⟨i,hi,rfl⟩:=List.mem_map.mp hx
 have:=List.mem_range.mp (List.mem_filter.mp hi).1
 exact ⟨by omega,by omega⟩
noncomputable def roD (r : List Bool) : D:=.lst (r.map D.bl)
theorem z2n (rs : List Rul) (n : Nat) (n7 : n <= 7) (hok : ∀ r ∈ rs,r.Ok n) (hz : rs.length <= 1000) : ∃ d,zp4 [.int n,.lst (rs.map Rul.toD)] = some d /\ ∃ ss : List (List Int),d = .lst (ss.map seD) /\ (∀ s ∈ ss,SeN n s) /\ ss.length <= 200:=by
 apply zgu
 unfold b_36
 show wp _ [.im (.int n),.im (.lst (rs.map Rul.toD)),.no,.no,.no] _
 apply zam
 refine zbr (d:=.lst ([[]].map roD)) rfl ?_
 walk_at "nrm"
 apply zam
 refine zd7 (List.range n) (fun (i : Nat)=>D.int i) (fun pre ρ=>∃ (ro : List (List Bool)) (v3 : Sl),ρ = [.im (.int n),.im (.lst (rs.map Rul.toD)),.im (.lst (ro.map roD)),v3,.no] /\ (∀ r ∈ ro,r.length = pre.length) /\ ro.length <= 2 ^ pre.length) (ze0 (n:=(n : Int)) (zad rfl rfl) (by omega) (by omega)) ⟨[[]],_,rfl,fun r hr=>by rw [List.mem_singleton.mp hr]; rfl,Nat.le_refl 1⟩ ?_ ?_
 ·rintro pre i post ρ ex ⟨ro,v3,rfl,hro,hrl⟩
  have hp : pre.length < n:=by
   have : pre.length < (List.range n).length:=by rw [ex]; simp
   simpa using this
  have h2 : 2 ^ pre.length <= 2 ^ 7:=Nat.pow_le_pow_right (by decide) (by omega)
  have hrl' : ro.length <= 128:=by omega
  refine ⟨_,rfl,?_⟩
  walk_at "nrm"
  have ec : ∀ b : Bool,∀ f : List Sl -> Option D,(∀ ρ,f ρ = some (.bl b)) -> za6 1 [] (zbl (zaa 2)) (zaq 0) (fun _=>some true) (zal (zcx (zaa 0) (zal (zab f (fun _=>some []))))) [.im (.int n),.im (.lst (rs.map Rul.toD)),.im (.lst (ro.map roD)),.im (.int i),.no] = some ((ro.map (· ++ [b])).map roD):=fun b f hf=>by
   rw [List.map_map]
   refine zcs ro roD (fun r=>roD (r ++ [b])) (zcq rfl rfl) (by omega) fun r hr=>zcp rfl rfl (zat ?_)
   rw [List.map_append]
   refine zed rfl (zat (zad (hf _) rfl)) ?_
   rw [List.length_map,hro r hr]
   show _ + 1 <= _
   omega
  refine zbr (d:=.lst ((ro.map (· ++ [true]) ++ ro.map (· ++ [false])).map roD)) (zat ?_) ?_
  ·rw [List.map_append]
   refine zed (zat (ec true _ fun _=>rfl)) (zat (ec false _ fun _=>rfl)) ?_
   simp only [List.length_map]
   omega
  ·refine ⟨_,_,rfl,fun r hr=>?_,?_⟩
   ·rw [List.length_append]
    rcases List.mem_append.mp hr with h | h
    ·obtain ⟨q,hq,rfl⟩:=List.mem_map.mp h
     rw [List.length_append,hro q hq]
     rfl
    ·obtain ⟨q,hq,rfl⟩:=List.mem_map.mp h
     rw [List.length_append,hro q hq]
     rfl
   ·simp only [List.length_append,List.length_map,List.length_cons,List.length_nil]
    rw [Nat.pow_succ]
    omega
 ·rintro ρ ⟨ro,v3,rfl,hro,hrl⟩
  rw [List.length_range] at hro hrl
  have h2 : 2 ^ n <= 2 ^ 7:=Nat.pow_le_pow_right (by decide) (by omega)
  have hrl' : ro.length <= 128:=by omega
  walk_at "nrm"
  apply zam
  refine zbr (d:=.lst ((ro.filter (stB rs)).map roD)) (zat (zd3 ro roD (stB rs) roD (zcq rfl rfl) (by omega) fun r hr=>zdu rfl (zdc (zau (zad rfl (zad rfl rfl)) (z6y rs n (by omega) hok hz r (hro r hr))) rfl) fun _=>rfl)) ?_
  have hhl:=List.length_filter_le (stB rs) ro
  have hh : ∀ r ∈ ro.filter (stB rs),r.length = n:=fun r hr=>hro r (List.mem_filter.mp hr).1
  generalize ro.filter (stB rs) = he at hhl hh
  walk_at "nrm"
  refine z5g (d:=(he.map fun r=>((List.range r.length).filter fun i=>r.getD i false).map fun (i : Nat)=>(i : Int)).map seD) ?_ (zks ⟨_,rfl,fun s hs=>?_,by rw [List.length_map]; omega⟩)
  ·rw [List.map_map]
   refine zcs he roD (fun r=>seD (((List.range r.length).filter fun i=>r.getD i false).map fun (i : Nat)=>(i : Int))) (zcq rfl rfl) (by omega) fun r hr=>zcp rfl rfl (zat ?_)
   have hrn:=hh r hr
   rw [List.map_map]
   exact zd3 (List.range r.length) (fun i=>D.tup [.int (i : Nat),D.bl (r.getD i false)]) (fun i=>r.getD i false) (fun (i : Nat)=>D.int i) (zie false (zad rfl rfl)) (by rw [List.length_range]; omega) fun i _=>zdu rfl (zdc rfl rfl) fun _=>rfl
  ·obtain ⟨r,hr,rfl⟩:=List.mem_map.mp hs
   exact zte n r.length (by rw [hh r hr]; omega) (by omega) _
theorem z5u (l : Addr) (c : Int) (a b s : D) (xs : List D) : zh8 7 l [.int c,a,b] [s] xs = [.im (.int c),.im a,.im b,.pin l xs,.im s,.no,.no]:=rfl
section
variable {rs : List Rul} {ss : List (List Int)} {es : List (Option Bool)}
theorem zqo {k1 k2 k3 : Str} {f1 f2 f3 g : List Sl -> Option D} {ρ : List Sl} {a b c y d : D} (h1 : f1 ρ = some a) (h2 : f2 ρ = some b) (h3 : f3 ρ = some c) (hg : g ρ = some y) (hp : znw k1 k2 k3 a b c y = some d) : zis k1 k2 k3 f1 f2 f3 g ρ = some d:=by
 unfold zis
 rw [h1,h2,h3,hg]
 exact hp
theorem zlt {i : Nat} {ρ : List Sl} {l : Addr} {xs : List D} (h : ρ[i]? = some (.pin l xs)) : zap zce (zab (zg6 i) (fun _=>some [])) ρ = some (.int (xs.length : Nat)):=by
 refine zau (ds:=[.lst xs]) (zad ?_ rfl) rfl
 unfold zg6
 rw [h]
theorem z2x (n60 : es.length <= 60) (hz : rs.length <= 1000) (hsz : ss.length <= 1000) (c : Int) (xs : List D) :
  ∃ w : Wy,w.Ok es.length /\ ∀ l,znt l [.int c,.lst (rs.map Rul.toD),.lst (ss.map seD)] [.lst (es.map shD)] xs = some (xs,w.toD):=by
 obtain ⟨d,em,ys,rfl,hl,hx⟩:=zl7 c 3 (by decide) (by decide)
 obtain ⟨a0,h0,e0⟩:=zb4 (f:=D.int) (xs:=ys) (i:=0) (by decide) (by omega)
 obtain ⟨a1,h1,e1⟩:=zb4 (f:=D.int) (xs:=ys) (i:=1) (by decide) (by omega)
 obtain ⟨a2,h2,e2⟩:=zb4 (f:=D.int) (xs:=ys) (i:=2) (by decide) (by omega)
 have q0 : 0 <= a0 % 4:=Int.emod_nonneg _ (by decide)
 have q1 : a0 % 4 < 4:=Int.emod_lt_of_pos _ (by decide)
 have run : ∀ (w : Wy) (l : Addr),wp b_10 [.im (.int c),.im (.lst (rs.map Rul.toD)),.im (.lst (ss.map seD)),.pin l xs,.im (.lst (es.map shD)),.no,.no] (fun o=>∃ ρ,o = .rtS w.toD ρ /\ ρ[3]? = some (.pin l xs)) -> znt l [.int c,.lst (rs.map Rul.toD),.lst (ss.map seD)] [.lst (es.map shD)] xs = some (xs,w.toD):=by
  rintro w l ⟨o,eo,ρ,rfl,hp⟩
  exact zwz (by rw [z5u]; exact eo) hp
 have word : ∀ k : Int,a0 % 4 = k -> ∀ s : Str,([D.str "rule",.str "group",.str "bar",.str "world"] : List D)[k.toNat]? = some (.str s) -> ∀ (l : Addr) (K : Fl -> Prop) (F : List Sl -> Option Fl),wp F [.im (.int c),.im (.lst (rs.map Rul.toD)),.im (.lst (ss.map seD)),.pin l xs,.im (.lst (es.map shD)),.im (.lst (ys.map D.int)),.im (.str s)] K ->
   wp (zai (zbe 5 (zap m_0 (zab (zaa 0) (zab (fun _=>some (.int 3)) (fun _=>some []))))) (zai (zbe 6 (mIx (zab (fun _=>some (.str "rule")) (zab (fun _=>some (.str "group")) (zab (fun _=>some (.str "bar")) (zab (fun _=>some (.str "world")) (fun _=>some []))))) (m2 zbv (mIx (zaf 5) (fun _=>some (.int 0))) (fun _=>some (.int 4))))) F)) [.im (.int c),.im (.lst (rs.map Rul.toD)),.im (.lst (ss.map seD)),.pin l xs,.im (.lst (es.map shD)),.no,.no] K:=by
  intro k hk s hs l K F h
  apply zam
  refine zbr (zau (zad rfl (zad rfl rfl)) em) ?_
  walk_at "nrm"
  apply zam
  refine zbr (zak rfl (zar (zak rfl rfl e0) rfl (zdi (j:=4) (by decide))) (r:=some (.str s)) ?_) ?_
  ·rw [hk]
   have k0 : 0 <= k:=by omega
   have k1 : k < 4:=by omega
   obtain ⟨x,hx,ex⟩:=zb4 (f:=id) (xs:=([D.str "rule",.str "group",.str "bar",.str "world"] : List D)) (i:=k) k0 (by show k < 4; omega)
   rw [hs] at hx
   cases hx
   exact ex
  ·walk_at "nrm"
   exact h
 have num : ∀ (s : Str) (L : Int),0 <= L -> (∀ l,zis "rule" "bar" "world" (zap zce (zab (zaa 1) (fun _=>some []))) (zap zce (zab (zg6 3) (fun _=>some []))) (zap zce (zab (zaa 2) (fun _=>some []))) (zaa 6) [.im (.int c),.im (.lst (rs.map Rul.toD)),.im (.lst (ss.map seD)),.pin l xs,.im (.lst (es.map shD)),.im (.lst (ys.map D.int)),.im (.str s)] = some (.int L)) -> ∀ l,
   zbn (zab (zaa 6) (zab (m2 zbv (mIx (zaf 5) (fun _=>some (.int 2))) (m2 zci (fun _=>some (.int 1)) (zis "rule" "bar" "world" (zap zce (zab (zaa 1) (fun _=>some []))) (zap zce (zab (zg6 3) (fun _=>some []))) (zap zce (zab (zaa 2) (fun _=>some []))) (zaa 6)))) (fun _=>some []))) [.im (.int c),.im (.lst (rs.map Rul.toD)),.im (.lst (ss.map seD)),.pin l xs,.im (.lst (es.map shD)),.im (.lst (ys.map D.int)),.im (.str s)] = some (.tup [.str s,.int (a2 % (1 + L))]):=by
  intro s L L0 hd l
  exact zb7 (zad rfl (zad (zar (zak rfl rfl e2) (zar rfl (hd l) zhu) (zdi (by omega))) rfl))
 rcases (show a0 % 4 = 0 \/ a0 % 4 = 1 \/ a0 % 4 = 2 \/ a0 % 4 = 3 by omega) with hk | hk | hk | hk
 ·refine ⟨.rul (a2 % (1 + (rs.length : Int))),Int.emod_nonneg _ (by omega),fun l=>run _ l ?_⟩
  unfold b_10
  refine word 0 hk "rule" rfl l _ _ ?_
  apply zam
  refine zaz (b:=false) rfl (fun q=>by cases q) (fun _=>zbo ?_)
  walk_at "nrm"
  exact znp (num "rule" rs.length (by omega) (fun l=>zqo (zau rfl (zc4 _ _)) (zlt rfl) (zau rfl (zc4 _ _)) rfl rfl) l) ⟨_,rfl,rfl⟩
 ·have hc:=List.length_filter_le (fun i=>es.getD i none == some true || a1 / ((i : Int) + 1) % 2 == 0) (List.range es.length)
  rw [List.length_range] at hc
  refine ⟨.grp (((List.range es.length).filter fun i=>es.getD i none == some true || a1 / ((i : Int) + 1) % 2 == 0).map fun (i : Nat)=>(i : Int)),⟨fun x hx=>?_,by rw [List.length_map]; omega⟩,fun l=>run _ l ?_⟩
  ·obtain ⟨i,hi,rfl⟩:=List.mem_map.mp hx
   have:=List.mem_range.mp (List.mem_filter.mp hi).1
   exact ⟨by omega,by omega⟩
  ·unfold b_10
   refine word 1 hk "group" rfl l _ _ ?_
   apply zam
   refine zaz (b:=true) rfl (fun _=>?_) (fun q=>by cases q)
   refine znp (zb7 (zad rfl (zad (zat ?_) rfl))) ⟨_,rfl,rfl⟩
   rw [List.map_map]
   refine zd3 (List.range es.length) (fun i=>D.tup [.int (i : Nat),shD (es.getD i none)]) (fun i=>es.getD i none == some true || a1 / ((i : Int) + 1) % 2 == 0) (fun (i : Nat)=>D.int i) (zie none (zad rfl rfl)) (by rw [List.length_range]; omega) fun i hi=>zdu rfl (zml (zb0 (zar rfl rfl (zen _ _))) (zb0 (zar (zar (zar (zak rfl rfl e1) (zar rfl rfl zhu) (znb ?_)) rfl (zdi (by decide))) rfl (zdx _ _)))) fun _=>rfl
   have:=List.mem_range.mp hi
   exact ⟨by omega,by omega⟩
 ·refine ⟨.bar (a2 % (1 + ((xs.length : Nat) : Int))),Int.emod_nonneg _ (by omega),fun l=>run _ l ?_⟩
  unfold b_10
  refine word 2 hk "bar" rfl l _ _ ?_
  apply zam
  refine zaz (b:=false) rfl (fun q=>by cases q) (fun _=>zbo ?_)
  walk_at "nrm"
  exact znp (num "bar" xs.length (by omega) (fun l=>zqo (zau rfl (zc4 _ _)) (zlt rfl) (zau rfl (zc4 _ _)) rfl rfl) l) ⟨_,rfl,rfl⟩
 ·refine ⟨.wld (a2 % (1 + (ss.length : Int))),Int.emod_nonneg _ (by omega),fun l=>run _ l ?_⟩
  unfold b_10
  refine word 3 hk "world" rfl l _ _ ?_
  apply zam
  refine zaz (b:=false) rfl (fun q=>by cases q) (fun _=>zbo ?_)
  walk_at "nrm"
  exact znp (num "world" ss.length (by omega) (fun l=>zqo (zau rfl (zc4 _ _)) (zlt rfl) (zau rfl (zc4 _ _)) rfl rfl) l) ⟨_,rfl,rfl⟩
end
noncomputable def cnt (es : List (Option Bool)) : Nat:=(es.filter (· == none)).length
theorem zu1 : ∀ (es : List (Option Bool)) (i : Nat) (b : Bool),es[i]? = some none -> cnt (es.set i (some b)) + 1 = cnt es
 | [],_,_,h=>by cases h
 | e :: es,0,b,h=>by
  cases h
  rfl
 | e :: es,i + 1,b,h=>by
  have ih:=zu1 es i b (by simpa using h)
  unfold cnt at ih ⊢
  rw [List.set_cons_succ]
  cases e with
  | none =>
   show ((none : Option Bool) :: _).length + 1 = ((none : Option Bool) :: _).length
   rw [List.length_cons,List.length_cons,ih]
  | some x =>
   show (List.filter _ (es.set i (some b))).length + 1 = (List.filter _ es).length
   exact ih
theorem z2i (l : Addr) (a b s z c : D) (xs : List D) : zh8 12 l [a,b,s,z] [c] xs = [.im a,.im b,.im s,.im z,.pin l xs,.im c,.no,.no,.no,.no,.no,.no]:=rfl
section
variable {rs : List Rul} {ss : List (List Int)}
theorem zo4 (n : Nat) (n60 : n <= 60) (hok : ∀ r ∈ rs,r.Ok n) (hz : rs.length <= 1000) (hs : ∀ s ∈ ss,zd0 n s) (hsz : ss.length <= 1000) : ∀ (j : Nat) (es : List (Option Bool)) (zs : List (Int × Bool)) (ls : List Ln) (c : Int),es.length = n -> cnt es < j -> (zs.map (·.1)).Nodup ->
  (∀ z ∈ zs,(0 <= z.1 /\ z.1 < (n : Int)) /\ es[z.1.toNat]? ≠ some none) -> zs.length + j <= 50 -> (∀ l ∈ ls,LnN n l) -> ls.length + 2 ^ j <= 900 ->
  ∃ new : List Ln,(∀ l,m_1 j l [.lst (rs.map Rul.toD),.lst (ss.map seD),.lst (es.map shD),baD zs] [.int c] (ls.map lD) = some ((ls ++ new).map lD,.non)) /\ (∀ x ∈ new,LnN n x) /\ 0 < new.length /\ new.length + 1 <= 2 ^ j
 | 0,es,zs,ls,c,_,hc,_,_,_,_,_=>absurd hc (Nat.not_lt_zero _)
 | j + 1,es,zs,ls,c,hes,hc,hnd,hzs,hzj,hls,hll=>by
  have hpow : 0 < 2 ^ j:=Nat.pow_pos (by decide)
  rw [Nat.pow_succ] at hll
  obtain ⟨d,em,ys,rfl,hl,hx⟩:=zl7 c 4 (by decide) (by decide)
  obtain ⟨a0,h0,e0⟩:=zb4 (f:=D.int) (xs:=ys) (i:=0) (by decide) (by omega)
  obtain ⟨a1,h1,e1⟩:=zb4 (f:=D.int) (xs:=ys) (i:=1) (by decide) (by omega)
  obtain ⟨a2,h2,e2⟩:=zb4 (f:=D.int) (xs:=ys) (i:=2) (by decide) (by omega)
  obtain ⟨a3,h3,e3⟩:=zb4 (f:=D.int) (xs:=ys) (i:=3) (by decide) (by omega)
  subst hes
  have hbar : zf5 es.length zs:=⟨fun z hz'=>(hzs z hz').1,by omega⟩
  obtain ⟨ws,ew,hw,hwl⟩:=z53 (rs:=rs) (ss:=ss) (bs:=ls.map (·.1)) (es:=es) hok hz hs hsz (fun b hb=>by
   obtain ⟨q,hq,rfl⟩:=List.mem_map.mp hb
   exact (hls q hq).1.1.1) (by rw [List.length_map]; omega) n60
  obtain ⟨fs,hfs⟩ : ∃ fs : List Int,((List.range es.length).filter fun i=>es.getD i none == none).map (fun (i : Nat)=>(i : Int)) = fs:=⟨_,rfl⟩
  have hfm : ∀ x ∈ fs,(0 <= x /\ x < (es.length : Int)) /\ es[x.toNat]? = some none:=fun x hx=>by
   rw [<- hfs] at hx
   obtain ⟨i,hi,rfl⟩:=List.mem_map.mp hx
   obtain ⟨hi1,hi2⟩:=List.mem_filter.mp hi
   have hi1:=List.mem_range.mp hi1
   refine ⟨⟨by omega,by omega⟩,?_⟩
   rw [Int.toNat_natCast,List.getElem?_eq_getElem hi1]
   rw [List.getD_eq_getElem?_getD,List.getElem?_eq_getElem hi1] at hi2
   cases hq : es[i] with
   | none=>rfl
   | some b=>rw [hq] at hi2; cases hi2
  have run : ∀ (l : Addr) (us : List D),wp (b_1 (m_1 j)) [.im (.lst (rs.map Rul.toD)),.im (.lst (ss.map seD)),.im (.lst (es.map shD)),.im (baD zs),.pin l (ls.map lD),.im (.int c),.no,.no,.no,.no,.no,.no] (fun o=>∃ ρ,o = .nx ρ /\ ρ[4]? = some (.pin l us)) -> m_1 (j + 1) l [.lst (rs.map Rul.toD),.lst (ss.map seD),.lst (es.map shD),baD zs] [.int c] (ls.map lD) = some (us,.non):=by
   rintro l us ⟨o,eo,ρ,rfl,hp⟩
   exact zz1 (by rw [z2i]; exact eo) hp
  have start : ∀ (l : Addr) (F : List Sl -> Option Fl) (K : Fl -> Prop),wp F [.im (.lst (rs.map Rul.toD)),.im (.lst (ss.map seD)),.im (.lst (es.map shD)),.im (baD zs),.pin l (ls.map lD),.im (.int c),.im (.lst (ys.map D.int)),.no,.im (.lst (fs.map D.int)),.im (.lst (ws.map Wy.toD)),.no,.no] K ->
    wp (zai (zbe 6 (zap m_0 (zab (zaa 5) (zab (fun _=>some (.int 4)) (fun _=>some [])))))
     (zai (zbe 8 (zal (za6 2 [] (zfi (zab (zaa 2) (fun _=>some []))) (zb8 (za3 (zaq 0) (za3 (zaq 1) zcd))) (mB (m2 dIs (zaa 1) (fun _=>some .non))) (zaa 0))))
     (zai (zbe 9 (zap zos (zab (zaa 0) (zab (zaa 1) (zab (zal (za6 1 [] (zn6 4) (zaq 0) (fun _=>some true) (mIx (zaf 0) (fun _=>some (.int 0))))) (zab (zaa 2) (fun _=>some []))))))) F)))
     [.im (.lst (rs.map Rul.toD)),.im (.lst (ss.map seD)),.im (.lst (es.map shD)),.im (baD zs),.pin l (ls.map lD),.im (.int c),.no,.no,.no,.no,.no,.no] K:=by
   intro l F K h
   apply zam
   refine zbr (zau (zad rfl (zad rfl rfl)) em) ?_
   walk_at "nrm"
   apply zam
   refine zbr (d:=.lst (fs.map D.int)) (zat ?_) ?_
   ·rw [<- hfs,List.map_map]
    exact zd3 (List.range es.length) (fun i=>D.tup [.int (i : Nat),shD (es.getD i none)]) (fun i=>es.getD i none == none) (fun (i : Nat)=>D.int i) (zie none (zad rfl rfl)) (by rw [List.length_range]; omega) fun i _=>zdu rfl (zb0 (zar rfl rfl (zyn _))) fun _=>rfl
   walk_at "nrm"
   apply zam
   refine zbr (zau (zad rfl (zad rfl (zad (d:=.lst ((ls.map (·.1)).map baD)) (zat ?_) (zad rfl rfl)))) (zj6 ew)) ?_
   ·rw [List.map_map]
    exact zcs ls lD (fun l=>baD l.1) rfl (by omega) fun l _=>zcp rfl rfl (zak rfl rfl rfl)
   ·walk_at "nrm"
    exact h
  have lnn : ∀ sts : List Stp,(∀ z ∈ sts,za1 es.length z) -> 0 < sts.length -> sts.length <= 40 -> LnN es.length (zs,sts):=fun sts h1 h2 h3=>⟨⟨⟨hbar,h1,by show sts.length <= 1000; omega⟩,hnd⟩,h2,h3⟩
  have econd : ∀ ρ : List Sl,ρ[8]? = some (.im (.lst (fs.map D.int))) -> ρ[9]? = some (.im (.lst (ws.map Wy.toD))) -> ρ[6]? = some (.im (.lst (ys.map D.int))) ->
    mOr (mB (m2 dEq (zaa 8) (zal (fun _=>some [])))) (zdj (mB (m2 dNe (zaa 9) (zal (fun _=>some [])))) (mB (m2 dGt (m2 zbv (mIx (zaf 6) (fun _=>some (.int 0))) (fun _=>some (.int 4))) (fun _=>some (.int 0))))) ρ = some (fs.isEmpty || (!ws.isEmpty && decide (a0 % 4 > 0))):=by
   intro ρ r8 r9 r6
   have v8 : zaa 8 ρ = some (.lst (fs.map D.int)):=by unfold zaa; rw [r8]
   have v9 : zaa 9 ρ = some (.lst (ws.map Wy.toD)):=by unfold zaa; rw [r9]
   have v6 : zaf 6 ρ = some (ys.map D.int):=by unfold zaf; rw [r6]; rfl
   exact zml (zb0 (zar v8 (zat rfl) (zof _ _))) (zh2 (zb0 (zar v9 (zat rfl) (zjl _ _))) (zb0 (zar (zar (zak v6 rfl e0) rfl (zdi (by decide))) rfl zlc)))
  cases hcond : (fs.isEmpty || (!ws.isEmpty && decide (a0 % 4 > 0))) with
  | true =>
   cases ws with
   | nil =>
    obtain ⟨w,hwk,hlie⟩:=z2x (rs:=rs) (ss:=ss) (es:=es) n60 hz hsz a1 (ls.map lD)
    refine ⟨[(zs,[(none,w)])],fun l=>run l _ ?_,fun x hx=>?_,Nat.one_pos,by rw [Nat.pow_succ]; show 1 + 1 <= _; omega⟩
    ·unfold b_1
     refine start l _ _ ?_
     refine zaz (b:=true) (by rw [<- hcond]; exact econd _ rfl rfl rfl) (fun _=>?_) (fun q=>by cases q)
     apply zam
     refine zaz (b:=true) rfl (fun _=>?_) (fun q=>by cases q)
     refine zzq (zp6 rfl (zeq (zak rfl rfl e1) (zeq rfl (zeq rfl (zmv (zad rfl rfl))))) (hlie l)) ?_
     walk_at "nrm"
     refine zqm (d:=lD (zs,[(none,w)])) (zb7 (zad rfl (zad (zat (zad (zb7 (zad rfl (zad (zak rfl (zar (zak rfl rfl e2) (zau rfl rfl) (zdi (j:=1) (by decide))) (r:=some w.toD) ?_) rfl))) rfl)) rfl))) rfl (by rw [List.length_map]; omega) ⟨_,rfl,?_⟩
     ·rw [show a2 % 1 = 0 by omega]
      rfl
     ·rw [List.map_append]
      rfl
    ·have : x = (zs,[(none,w)]):=by simpa using hx
     subst this
     refine lnn _ (fun z hz'=>?_) Nat.one_pos (by show 1 <= 40; decide)
     have : z = (none,w):=by simpa using hz'
     subst this
     exact ⟨fun y e=>(nomatch e),hwk⟩
   | cons w0 ws' =>
    obtain ⟨w,hw',eg⟩:=zb4 (f:=Wy.toD) (xs:=w0 :: ws') (i:=a2 % ((w0 :: ws').length : Int)) (Int.emod_nonneg _ (by rw [List.length_cons]; omega)) (Int.emod_lt_of_pos _ (by rw [List.length_cons]; omega))
    refine ⟨[(zs,[(none,w)])],fun l=>run l _ ?_,fun x hx=>?_,Nat.one_pos,by rw [Nat.pow_succ]; show 1 + 1 <= _; omega⟩
    ·unfold b_1
     refine start l _ _ ?_
     refine zaz (b:=true) (by rw [<- hcond]; exact econd _ rfl rfl rfl) (fun _=>?_) (fun q=>by cases q)
     apply zam
     refine zaz (b:=false) rfl (fun q=>by cases q) (fun _=>zbo ?_)
     walk_at "nrm"
     refine zqm (d:=lD (zs,[(none,w)])) (zb7 (zad rfl (zad (zat (zad (zb7 (zad rfl (zad (zak rfl (zar (zak rfl rfl e2) (zau rfl (zc4 _ _)) (zdi (by rw [List.length_cons]; omega))) eg) rfl))) rfl)) rfl))) rfl (by rw [List.length_map]; omega) ⟨_,rfl,?_⟩
     rw [List.map_append]
     rfl
    ·have : x = (zs,[(none,w)]):=by simpa using hx
     subst this
     refine lnn _ (fun z hz'=>?_) Nat.one_pos (by show 1 <= 40; decide)
     have : z = (none,w):=by simpa using hz'
     subst this
     exact ⟨fun y e=>(nomatch e),(hw w (List.mem_of_getElem? hw')).1⟩
  | false =>
   have hfl : 0 < fs.length:=by
    cases fs with
    | nil=>cases hcond
    | cons f fs=>rw [List.length_cons]; omega
   obtain ⟨t,ht,et⟩:=zb4 (f:=D.int) (xs:=fs) (i:=a2 % (fs.length : Int)) (Int.emod_nonneg _ (by omega)) (Int.emod_lt_of_pos _ (by omega))
   obtain ⟨⟨t0,t1⟩,tn⟩:=hfm t (List.mem_of_getElem? ht)
   obtain ⟨b,hb⟩ : ∃ b,(a3 % 2 == 0) = b:=⟨_,rfl⟩
   have next : ∀ x : Bool,(((zs ++ [(t,x)]).map (·.1)).Nodup) /\ (∀ z ∈ zs ++ [(t,x)],(0 <= z.1 /\ z.1 < (es.length : Int)) /\ (es.set t.toNat (some x))[z.1.toNat]? ≠ some none):=fun x=>by
    have htn : t.toNat < es.length:=by omega
    refine ⟨?_,fun z hz'=>?_⟩
    ·rw [List.map_append]
     refine List.nodup_append.mpr ⟨hnd,List.pairwise_singleton _ _,fun p hp q hq e=>?_⟩
     obtain ⟨z,hz',rfl⟩:=List.mem_map.mp hp
     have hq : q = t:=by simpa using hq
     subst hq
     exact (hzs z hz').2 (by rw [e]; exact tn)
    ·rcases List.mem_append.mp hz' with h | h
     ·refine ⟨(hzs z h).1,?_⟩
      by_cases q : z.1.toNat = t.toNat
      ·rw [q,List.getElem?_set_self htn]
       exact fun e=>nomatch e
      ·rw [List.getElem?_set_ne (fun e=>q e.symm)]
       exact (hzs z h).2
     ·have : z = (t,x):=by simpa using h
      subst this
      refine ⟨⟨t0,t1⟩,?_⟩
      rw [List.getElem?_set_self htn]
      exact fun e=>nomatch e
   have hcs : ∀ x : Bool,cnt (es.set t.toNat (some x)) < j:=fun x=>by
    have:=zu1 es t.toNat x tn
    omega
   obtain ⟨nw1,hn1,hk1,hp1,hq1⟩:=zo4 es.length n60 hok hz hs hsz j (es.set t.toNat (some b)) (zs ++ [(t,b)]) ls a0 List.length_set (hcs b) (next b).1 (next b).2 (by rw [List.length_append]; show _ + 1 + j <= 50; omega) hls (by omega)
   obtain ⟨nw2,hn2,hk2,hp2,hq2⟩:=zo4 es.length n60 hok hz hs hsz j (es.set t.toNat (some (!b))) (zs ++ [(t,!b)]) (ls ++ nw1) a1 List.length_set (hcs (!b)) (next (!b)).1 (next (!b)).2 (by rw [List.length_append]; show _ + 1 + j <= 50; omega) (fun l hl'=>by
    rcases List.mem_append.mp hl' with h | h
    ·exact hls l h
    ·exact hk1 l h) (by rw [List.length_append]; omega)
   have ew1:=zpw (es:=es) b t0 t1 n60
   have ew2:=zpw (es:=es) (!b) t0 t1 n60
   have ecat : ∀ (x : Bool) (f : List Sl -> Option D) (ρ : List Sl),f ρ = some (.bl x) -> ρ[3]? = some (.im (baD zs)) -> ρ[7]? = some (.im (.int t)) -> zal (zcx (zaa 3) (zal (zab (zbn (zab (zaa 7) (zab f (fun _=>some [])))) (fun _=>some [])))) ρ = some (baD (zs ++ [(t,x)])):=by
    intro x f ρ hf r3 r7
    have v3 : zaa 3 ρ = some (baD zs):=by unfold zaa; rw [r3]
    have v7 : zaa 7 ρ = some (.int t):=by unfold zaa; rw [r7]
    refine zat (ds:=(zs ++ [(t,x)]).map brD) ?_
    rw [List.map_append]
    refine zed v3 (zat (zad (zb7 (zad v7 (zad hf rfl))) rfl)) ?_
    rw [List.length_map]
    show _ + 1 <= _
    omega
   refine ⟨nw1 ++ nw2 ++ [(zs,[(some (t,!b),.bar (((ls ++ nw1).length : Nat) - 1 : Int)),(none,.bar (((ls ++ nw1 ++ nw2).length : Nat) - 1 : Int))])],fun l=>run l _ ?_,fun x hx=>?_,by rw [List.length_append]; show 0 < _ + 1; omega,by rw [List.length_append,List.length_append,Nat.pow_succ]; show _ + _ + 1 + 1 <= _; omega⟩
   ·unfold b_1
    refine start l _ _ ?_
    refine zaz (b:=false) (by rw [<- hcond]; exact econd _ rfl rfl rfl) (fun q=>by cases q) (fun _=>?_)
    apply zam
    refine zbr (zak rfl (zar (zak rfl rfl e2) (zau rfl (zc4 _ _)) (zdi (by omega))) et) ?_
    walk_at "nrm"
    apply zam
    refine zbr (d:=.bl b) (by rw [<- hb]; exact zar (zar (zak rfl rfl e3) rfl (zdi (by decide))) rfl (zdx _ _)) ?_
    walk_at "nrm"
    apply zam
    refine zqb (zp6 rfl (zeq rfl (zeq rfl (zeq (zau (zad rfl (zad rfl (zad rfl rfl))) ew1) (zeq (ecat b _ _ rfl rfl rfl) (zmv (zad (zak rfl rfl e0) rfl)))))) (hn1 l)) ?_
    walk_at "nrm"
    apply zam
    refine zbr (d:=.int (((ls ++ nw1).length : Nat) - 1 : Int)) (zar (zlt rfl) rfl (by rw [List.length_map]; exact zq7)) ?_
    walk_at "nrm"
    apply zam
    refine zqb (zp6 rfl (zeq rfl (zeq rfl (zeq (zau (zad rfl (zad rfl (zad (zgi rfl) rfl))) ew2) (zeq (ecat (!b) _ _ (zgi rfl) rfl rfl) (zmv (zad (zak rfl rfl e1) rfl)))))) (hn2 l)) ?_
    walk_at "nrm"
    refine zqm (d:=lD (zs,[(some (t,!b),.bar (((ls ++ nw1).length : Nat) - 1 : Int)),(none,.bar (((ls ++ nw1 ++ nw2).length : Nat) - 1 : Int))])) (zb7 (zad rfl (zad (zat (zad (zb7 (zad (zb7 (zad rfl (zad (zgi rfl) rfl))) (zad (zb7 (zad rfl (zad rfl rfl))) rfl))) (zad (zb7 (zad rfl (zad (zb7 (zad rfl (zad (zar (zlt rfl) rfl (by rw [List.length_map]; exact zq7)) rfl))) rfl))) rfl))) rfl))) rfl (by rw [List.length_map,List.length_append,List.length_append]; omega) ⟨_,rfl,?_⟩
    rw [<- List.append_assoc,<- List.append_assoc,List.map_append (l₁:=ls ++ nw1 ++ nw2)]
    rfl
   ·rcases List.mem_append.mp hx with h | h
    ·rcases List.mem_append.mp h with h | h
     ·exact hk1 x h
     ·exact hk2 x h
    ·have : x = (zs,[(some (t,!b),.bar (((ls ++ nw1).length : Nat) - 1 : Int)),(none,.bar (((ls ++ nw1 ++ nw2).length : Nat) - 1 : Int))]):=by simpa using h
     subst this
     refine lnn _ (fun z hz'=>?_) (by show 0 < 2; decide) (by show 2 <= 40; decide)
     have l1 : 0 < (ls ++ nw1).length:=by rw [List.length_append]; omega
     have l2 : 0 < (ls ++ nw1 ++ nw2).length:=by rw [List.length_append]; omega
     simp only [List.mem_cons,List.not_mem_nil,or_false] at hz'
     rcases hz' with rfl | rfl
     ·exact ⟨fun y e=>by cases e; exact ⟨t0,t1⟩,by show (0 : Int) <= _ - 1; omega⟩
     ·exact ⟨fun y e=>(nomatch e),by show (0 : Int) <= _ - 1; omega⟩
end
theorem zwi : ∀ (xs ys : List Int),xs.length = ys.length -> zcy (deq 19) (xs.map D.int) (ys.map D.int) = some (xs == ys)
 | [],[],_=>rfl
 | [],_ :: _,h=>by cases h
 | _ :: _,[],h=>by cases h
 | e :: es,b :: bs,h=>by
  have ih:=zwi es bs (by simpa using h)
  show ((deq 19 (.int e) (.int b)).bind fun x=>(zcy (deq 19) (es.map D.int) (bs.map D.int)).map fun r=>x && r) = _
  rw [show deq 19 (.int e) (.int b) = some (e == b) from rfl,ih]
  rfl
theorem zz9 (xs ys : List Int) : dEq (.lst (xs.map D.int)) (.lst (ys.map D.int)) = some (.bl (xs == ys)):=by
 show ((if (xs.map D.int).length = (ys.map D.int).length then zcy (deq 19) (xs.map D.int) (ys.map D.int) else some false) : Option Bool).map D.bl = _
 rw [List.length_map,List.length_map]
 by_cases h : xs.length = ys.length
 ·rw [if_pos h,zwi xs ys h]
  rfl
 ·rw [if_neg h]
  have : (xs == ys) = false:=by
   cases q : xs == ys with
   | false=>rfl
   | true=>exact absurd (by rw [beq_iff_eq.mp q]) h
  rw [this]
  rfl
theorem ziw {α : Type} {P : α -> Prop} {xs : List α} (h : ∀ z ∈ xs,P z) (a b : Nat) : (∀ z ∈ (xs.drop a).take b,P z) /\ ((xs.drop a).take b).length <= xs.length:=by
 refine ⟨fun z hz=>h z (List.mem_of_mem_drop (List.mem_of_mem_take hz)),?_⟩
 rw [List.length_take,List.length_drop]
 omega
theorem zgd {α : Type} {P : α -> Prop} {xs ys : List α} (h : ∀ z ∈ xs,P z) (h' : ∀ z ∈ ys,P z) : ∀ z ∈ xs ++ ys,P z:=fun z hz=>by
 rcases List.mem_append.mp hz with q | q
 ·exact h z q
 ·exact h' z q
theorem zl0 {α : Type} {P : α -> Prop} {x : α} (h : P x) : ∀ z ∈ [x],P z:=fun z hz=>by
 rw [List.mem_singleton.mp hz]
 exact h
theorem z7j (n : Nat) (l : Ln) (hl : LnN n l) (x : Int) : ∃ d,zo0 [lD l,.int x] = some d /\ ∃ l' : Ln,d = lD l' /\ LnM n l':=by
 obtain ⟨zs,sts⟩:=l
 obtain ⟨⟨⟨hbr,hst,hsl⟩,hnd⟩,s0,s1⟩:=hl
 replace s0 : 0 < sts.length:=s0
 replace s1 : sts.length <= 40:=s1
 replace hst : ∀ z ∈ sts,za1 n z:=hst
 apply zgu
 unfold b_12
 show wp _ [.im (.tup [baD zs,.lst (sts.map stD)]),.im (.int x),.no,.no,.no,.no,.no] _
 apply zam
 refine zhj rfl rfl ?_
 walk_at "nrm"
 apply zam
 refine zbr (zar rfl (zau rfl (zc4 _ _)) (zdi (by omega))) ?_
 walk_at "nrm"
 obtain ⟨t,ht⟩ : ∃ t,x % (sts.length : Int) = t:=⟨_,rfl⟩
 have t0 : 0 <= t:=by rw [<- ht]; exact Int.emod_nonneg _ (by omega)
 have t1 : t < (sts.length : Int):=by rw [<- ht]; exact Int.emod_lt_of_pos _ (by omega)
 rw [ht]
 obtain ⟨⟨o,w⟩,hz,ez⟩:=zb4 (f:=stD) (xs:=sts) (i:=t) t0 t1
 obtain ⟨ho,hw⟩:=hst (o,w) (List.mem_of_getElem? hz)
 apply zam
 refine zhj (zak rfl rfl ez) rfl ?_
 walk_at "nrm"
 refine zig (fun ρ'=>∃ w' : Wy,ρ' = [.im (.tup [baD zs,.lst (sts.map stD)]),.im (.int x),.im (baD zs),.im (.lst (sts.map stD)),.im (.int t),.im (opD o),.im w'.toD] /\ w'.Ok n) ?_ ?_
 ·cases w with
  | grp gs =>
   refine zaz (b:=true) rfl (fun _=>?_) (fun q=>by cases q)
   have hc:=ziw hw.1 (HT.sIx gs.length 0 (some 1)) (HT.sIx gs.length gs.length none - HT.sIx gs.length 0 (some 1))
   exact zbr (d:=(Wy.grp ((gs.drop (HT.sIx gs.length 0 (some 1))).take (HT.sIx gs.length gs.length none - HT.sIx gs.length 0 (some 1)))).toD) (zb7 (zad rfl (zad (zat (zc6 (g:=D.int) (xs:=gs) (zak rfl rfl rfl) rfl rfl)) rfl))) (k_J ⟨_,rfl,hc.1,Nat.le_trans hc.2 hw.2⟩)
  | rul k =>
   refine zaz (b:=false) rfl (fun q=>by cases q) (fun _=>?_)
   exact zbr (d:=(Wy.rul (k + 1)).toD) (zb7 (zad (zak rfl rfl rfl) (zad (zar (zak rfl rfl rfl) rfl zhu) rfl))) (k_J ⟨_,rfl,Int.add_nonneg hw (by decide)⟩)
  | bar k =>
   refine zaz (b:=false) rfl (fun q=>by cases q) (fun _=>?_)
   exact zbr (d:=(Wy.bar (k + 1)).toD) (zb7 (zad (zak rfl rfl rfl) (zad (zar (zak rfl rfl rfl) rfl zhu) rfl))) (k_J ⟨_,rfl,Int.add_nonneg hw (by decide)⟩)
  | wld k =>
   refine zaz (b:=false) rfl (fun q=>by cases q) (fun _=>?_)
   exact zbr (d:=(Wy.wld (k + 1)).toD) (zb7 (zad (zak rfl rfl rfl) (zad (zar (zak rfl rfl rfl) rfl zhu) rfl))) (k_J ⟨_,rfl,Int.add_nonneg hw (by decide)⟩)
 ·rintro ρ' ⟨w',rfl,hw'⟩
  have hc:=ziw hst (HT.sIx sts.length 0 none) (HT.sIx sts.length sts.length (some t) - HT.sIx sts.length 0 none)
  have hd:=ziw hst (HT.sIx sts.length 0 (some (t + 1))) (HT.sIx sts.length sts.length none - HT.sIx sts.length 0 (some (t + 1)))
  refine zbx (d:=lD (zs,((((sts.drop (HT.sIx sts.length 0 none)).take (HT.sIx sts.length sts.length (some t) - HT.sIx sts.length 0 none)) ++ [(o,w')]) ++ ((sts.drop (HT.sIx sts.length 0 (some (t + 1)))).take (HT.sIx sts.length sts.length none - HT.sIx sts.length 0 (some (t + 1))))))) (zb7 (zad rfl (zad (zat ?_) rfl))) (zbs ⟨_,rfl,⟨hbr,zgd (zgd hc.1 (zl0 ⟨ho,hw'⟩)) hd.1,?_⟩,hnd⟩)
  ·rw [List.map_append,List.map_append]
   refine zed (zat (zed (zat (zc6 (g:=stD) (xs:=sts) rfl rfl rfl)) (zat (zad (zb7 (zad rfl (zad rfl rfl))) rfl)) ?_)) (zat (zc6 (g:=stD) (xs:=sts) rfl rfl rfl)) ?_
   ·simp only [List.length_map,List.length_cons,List.length_nil]
    omega
   ·simp only [List.length_append,List.length_map,List.length_cons,List.length_nil]
    omega
  ·show (_ ++ _ ++ _ : List Stp).length <= 1000
   rw [List.length_append,List.length_append]
   show (_ + 1) + _ <= _
   omega
theorem z3o {s : List Int} {t : Int} (h : (s.filter fun x=>!(x == t)) = s) : t ∉ s:=fun q=>by
 rw [<- h] at q
 have:=(List.mem_filter.mp q).2
 simp at this
theorem zwo (n : Nat) (n60 : n <= 60) (ss : List (List Int)) (hs : ∀ s ∈ ss,SeN n s) (hsz : ss.length <= 300) (ls : List Ln) (hl : ∀ l ∈ ls,LnN n l) (l0 : 0 < ls.length) (l1 : ls.length <= 900) (c : Int) :
  ∃ d,zrz [.lst (ss.map seD),.lst (ls.map lD),.int c,.int n] = some d /\ ∃ (ss' : List (List Int)) (ls' : List Ln),d = .tup [.lst (ss'.map seD),.lst (ls'.map lD)] /\ (∀ s ∈ ss',zd0 n s) /\ ss'.length <= 1000 /\ (∀ l ∈ ls',LnM n l) /\ ls'.length <= 3000:=by
 have hsok : ∀ s ∈ ss,zd0 n s:=fun s h=>(hs s h).1
 have hlm : ∀ l ∈ ls,LnM n l:=fun l h=>(hl l h).1
 obtain ⟨d,em,xs,rfl,hxl,hx⟩:=zl7 c 4 (by decide) (by decide)
 obtain ⟨a0,h0,e0⟩:=zb4 (f:=D.int) (xs:=xs) (i:=0) (by decide) (by omega)
 obtain ⟨a1,h1,e1⟩:=zb4 (f:=D.int) (xs:=xs) (i:=1) (by decide) (by omega)
 obtain ⟨a2,h2,e2⟩:=zb4 (f:=D.int) (xs:=xs) (i:=2) (by decide) (by omega)
 obtain ⟨a3,h3,e3⟩:=zb4 (f:=D.int) (xs:=xs) (i:=3) (by decide) (by omega)
 apply zgu
 unfold b_15
 show wp _ [.im (.lst (ss.map seD)),.im (.lst (ls.map lD)),.im (.int c),.im (.int n),.no,.no,.no,.no,.no] _
 apply zam
 refine zbr (zau (zad rfl (zad rfl rfl)) em) ?_
 walk_at "nrm"
 apply zam
 refine zbr (zar (zak rfl rfl e0) rfl (zdi (by decide))) ?_
 walk_at "nrm"
 apply zam
 refine zbr (zar (zak rfl rfl e1) (zau rfl (zc4 _ _)) (zdi (by omega))) ?_
 walk_at "nrm"
 obtain ⟨t,ht⟩ : ∃ t,a1 % (ls.length : Int) = t:=⟨_,rfl⟩
 have t0 : 0 <= t:=by rw [<- ht]; exact Int.emod_nonneg _ (by omega)
 have t1 : t < (ls.length : Int):=by rw [<- ht]; exact Int.emod_lt_of_pos _ (by omega)
 rw [ht]
 obtain ⟨lt,hlt,elt⟩:=zb4 (f:=lD) (xs:=ls) (i:=t) t0 t1
 have cut:=fun a b=>ziw hlm a b
 apply zam
 refine zaz (zb0 (zar rfl rfl (zdx _ _))) (fun _=>?_) (fun _=>zbo ?_)
 ·have hc:=cut (HT.sIx ls.length 0 none) (HT.sIx ls.length ls.length (some (-1)) - HT.sIx ls.length 0 none)
  exact zbx (zb7 (zad rfl (zad (zat (zc6 (g:=lD) (xs:=ls) rfl rfl rfl)) rfl))) (zbs ⟨ss,_,rfl,hsok,by omega,hc.1,by omega⟩)
 walk_at "nrm"
 apply zam
 refine zaz (zb0 (zar rfl rfl (zdx _ _))) (fun _=>?_) (fun _=>zbo ?_)
 ·have hc:=cut (HT.sIx ls.length 0 none) (HT.sIx ls.length ls.length (some t) - HT.sIx ls.length 0 none)
  have hd:=cut (HT.sIx ls.length 0 (some (t + 1))) (HT.sIx ls.length ls.length none - HT.sIx ls.length 0 (some (t + 1)))
  refine zbx (zb7 (zad rfl (zad (zat (zed (zat (zc6 (g:=lD) (xs:=ls) rfl rfl rfl)) (zat (zc6 (g:=lD) (xs:=ls) rfl rfl rfl)) ?_)) rfl))) (zbs ⟨ss,_,by rw [<- List.map_append],hsok,by omega,zgd hc.1 hd.1,by rw [List.length_append]; omega⟩)
  rw [List.length_map,List.length_map]
  omega
 walk_at "nrm"
 apply zam
 refine zaz (zb0 (zar rfl rfl (zdx _ _))) (fun _=>?_) (fun _=>zbo ?_)
 ·have hc:=cut (HT.sIx ls.length 0 none) (HT.sIx ls.length ls.length (some (t + 1)) - HT.sIx ls.length 0 none)
  have hd:=cut (HT.sIx ls.length 0 (some t)) (HT.sIx ls.length ls.length none - HT.sIx ls.length 0 (some t))
  refine zbx (zb7 (zad rfl (zad (zat (zed (zat (zc6 (g:=lD) (xs:=ls) rfl rfl rfl)) (zat (zc6 (g:=lD) (xs:=ls) rfl rfl rfl)) ?_)) rfl))) (zbs ⟨ss,_,by rw [<- List.map_append],hsok,by omega,zgd hc.1 hd.1,by rw [List.length_append]; omega⟩)
  rw [List.length_map,List.length_map]
  omega
 walk_at "nrm"
 apply zam
 refine zaz (zb0 (zar rfl rfl (zdx _ _))) (fun _=>?_) (fun _=>zbo ?_)
 ·have hc:=cut (HT.sIx ls.length 0 (some t)) (HT.sIx ls.length ls.length none - HT.sIx ls.length 0 (some t))
  have hd:=cut (HT.sIx ls.length 0 none) (HT.sIx ls.length ls.length (some t) - HT.sIx ls.length 0 none)
  refine zbx (zb7 (zad rfl (zad (zat (zed (zat (zc6 (g:=lD) (xs:=ls) rfl rfl rfl)) (zat (zc6 (g:=lD) (xs:=ls) rfl rfl rfl)) ?_)) rfl))) (zbs ⟨ss,_,by rw [<- List.map_append],hsok,by omega,zgd hc.1 hd.1,by rw [List.length_append]; omega⟩)
  rw [List.length_map,List.length_map]
  omega
 walk_at "nrm"
 apply zam
 refine zaz (zh2 (zb0 (zar rfl rfl (zdx _ _))) (zb0 (zar rfl (zat rfl) (zjl _ _)))) (fun _=>?_) (fun _=>zbo ?_)
 ·have hc:=ziw hsok (HT.sIx ss.length 0 (some 1)) (HT.sIx ss.length ss.length none - HT.sIx ss.length 0 (some 1))
  exact zbx (zb7 (zad (zat (zc6 (g:=seD) (xs:=ss) rfl rfl rfl)) (zad rfl rfl))) (zbs ⟨_,ls,rfl,hc.1,by omega,hlm,by omega⟩)
 walk_at "nrm"
 apply zam
 refine zaz (zh2 (zb0 (zar rfl rfl (zdx _ _))) (zh2 (zb0 (zar rfl (zat rfl) (zjl _ _))) (zb0 (zar rfl rfl zlc)))) (fun q=>?_) (fun _=>zbo ?_)
 ·rw [Bool.and_eq_true,Bool.and_eq_true] at q
  have hn0 : 0 < n:=by have:=of_decide_eq_true q.2.2; omega
  obtain ⟨u,hu⟩ : ∃ u,a2 % (n : Int) = u:=⟨_,rfl⟩
  have u0 : 0 <= u:=by rw [<- hu]; exact Int.emod_nonneg _ (by omega)
  have u1 : u < (n : Int):=by rw [<- hu]; exact Int.emod_lt_of_pos _ (by omega)
  apply zam
  refine zbr (zar (zak rfl rfl e2) rfl (zdi (by omega))) ?_
  walk_at "nrm"
  rw [hu]
  rcases List.eq_nil_or_concat ss with rfl | ⟨ini,s,rfl⟩
  ·cases q.2.1
  rw [List.concat_eq_append] at *
  obtain ⟨hsk,hsn,hs60⟩:=hs s (by simp)
  have eL : atI ((ini ++ [s]).map seD) (-1) = some (seD s):=by rw [List.map_append]; exact zl8 _ _
  have hfl:=List.length_filter_le (fun x=>!(x == u)) s
  apply zam
  refine zbr (d:=.lst ((s.filter fun x=>!(x == u)).map D.int)) (zat (zd3 s D.int (fun x=>!(x == u)) D.int (zcq (zak rfl rfl eL) rfl) (by omega) fun x _=>zdu rfl (zb0 (zar rfl rfl (zs1 _ _))) fun _=>rfl)) ?_
  walk_at "nrm"
  refine zig (fun ρ'=>∃ g : List Int,ρ' = [.im (.lst ((ini ++ [s]).map seD)),.im (.lst (ls.map lD)),.im (.int c),.im (.int n),.im (.lst (xs.map D.int)),.im (.int (a0 % 14)),.im (.int t),.im (.int u),.im (.lst (g.map D.int))] /\ zd0 n g) ?_ ?_
  ·refine zaz (b:=(s.filter fun x=>!(x == u)) == s) (zb0 (zar rfl (zak rfl rfl eL) (zz9 _ _))) (fun z=>?_) (fun _=>zbo (k_J ⟨_,rfl,fun x hx=>hsk.1 x (List.mem_filter.mp hx).1,by omega⟩))
   have z:=beq_iff_eq.mp z
   have hus:=z3o z
   rw [z]
   have hnd : (s ++ [u]).Nodup:=List.nodup_append.mpr ⟨hsn,List.pairwise_singleton _ _,fun p hp q hq e=>by
    have hq : q = u:=by simpa using hq
    subst hq e
    exact hus hp⟩
   refine zbr (d:=.lst ((zct (s ++ [u])).map D.int)) (zat (z0c (zat ?_) (by rw [List.length_append]; show _ + 1 < 64; omega) hnd)) (k_J ⟨_,rfl,fun x hx=>?_,?_⟩)
   ·refine Eq.trans ?_ (congrArg some (List.map_append (f:=D.int) (l₁:=s) (l₂:=[u])).symm)
    refine zed rfl (zat (zad rfl rfl)) ?_
    rw [List.length_map]
    show _ + 1 <= _
    omega
   ·rcases List.mem_append.mp ((zl9 x _).mp hx) with h | h
    ·exact hsk.1 x h
    ·have : x = u:=by simpa using h
     subst this
     exact ⟨u0,u1⟩
   ·have:=zub (s ++ [u])
    rw [List.length_append] at this
    replace this : (zct (s ++ [u])).length <= s.length + 1:=this
    omega
  ·rintro ρ' ⟨g,rfl,hg⟩
   have hc:=ziw hsok (HT.sIx (ini ++ [s]).length 0 none) (HT.sIx (ini ++ [s]).length (ini ++ [s]).length (some (-1)) - HT.sIx (ini ++ [s]).length 0 none)
   refine zbx (d:=.tup [.lst (((((ini ++ [s]).drop (HT.sIx (ini ++ [s]).length 0 none)).take (HT.sIx (ini ++ [s]).length (ini ++ [s]).length (some (-1)) - HT.sIx (ini ++ [s]).length 0 none)) ++ [g]).map seD),.lst (ls.map lD)]) (zb7 (zad (zat ?_) (zad rfl rfl))) (zbs ⟨_,ls,rfl,zgd hc.1 (zl0 hg),by rw [List.length_append (as:=List.take _ _)]; show _ + 1 <= _; omega,hlm,by omega⟩)
   rw [List.map_append (l₁:=List.take _ _)]
   refine zed (zat (zc6 (g:=seD) (xs:=ini ++ [s]) rfl rfl rfl)) (zat (zad rfl rfl)) ?_
   rw [List.length_map]
   show _ + 1 <= _
   omega
 walk_at "nrm"
 apply zam
 refine zaz (zml (zb0 (zar rfl rfl (zdx _ _))) (zb0 (zar rfl rfl (zdx _ _)))) (fun _=>?_) (fun _=>zbo ?_)
 ·have hc:=cut (HT.sIx ls.length 0 none) (HT.sIx ls.length ls.length (some t) - HT.sIx ls.length 0 none)
  have hd:=cut (HT.sIx ls.length 0 (some (t + 1))) (HT.sIx ls.length ls.length none - HT.sIx ls.length 0 (some (t + 1)))
  obtain ⟨d,eo,l',rfl,hl'⟩:=z7j n lt (hl lt (List.mem_of_getElem? hlt)) a3
  refine zbx (d:=.tup [.lst (ss.map seD),.lst (((((ls.drop (HT.sIx ls.length 0 none)).take (HT.sIx ls.length ls.length (some t) - HT.sIx ls.length 0 none)) ++ [l']) ++ ((ls.drop (HT.sIx ls.length 0 (some (t + 1)))).take (HT.sIx ls.length ls.length none - HT.sIx ls.length 0 (some (t + 1))))).map lD)]) (zb7 (zad rfl (zad (zat ?_) rfl))) (zbs ⟨ss,_,rfl,hsok,by omega,zgd (zgd hc.1 (zl0 hl')) hd.1,by rw [List.length_append,List.length_append]; show (_ + 1) + _ <= _; omega⟩)
  rw [List.map_append,List.map_append]
  refine zed (zat (zed (zat (zc6 (g:=lD) (xs:=ls) rfl rfl rfl)) (zat (zad (zau (zad (zak rfl rfl elt) (zad (zak rfl rfl e3) rfl)) eo) rfl)) ?_)) (zat (zc6 (g:=lD) (xs:=ls) rfl rfl rfl)) ?_
  ·simp only [List.length_map,List.length_cons,List.length_nil]
   omega
  ·simp only [List.length_append,List.length_map,List.length_cons,List.length_nil]
   omega
 walk_at "nrm"
 apply zam
 refine zaz (zb0 (zar rfl rfl (zdx _ _))) (fun _=>?_) (fun _=>zbo ?_)
 ·have m0 : 0 <= a2 % 2:=Int.emod_nonneg _ (by decide)
  have m1 : a2 % 2 < 2:=Int.emod_lt_of_pos _ (by decide)
  obtain ⟨v,l',hv,hvl,hvm⟩ : ∃ (v : Int) (l' : Ln),atI [D.int (-1),.int 0] (a2 % 2) = some (.int v) /\ atI (ls.map lD) v = some (lD l') /\ l' ∈ ls:=by
   rcases (show a2 % 2 = 0 \/ a2 % 2 = 1 by omega) with h | h
   ·rw [h]
    rcases List.eq_nil_or_concat ls with rfl | ⟨ini,l',rfl⟩
    ·cases l0
    ·rw [List.concat_eq_append]
     exact ⟨-1,l',rfl,by rw [List.map_append]; exact zl8 _ _,by simp⟩
   ·rw [h]
    obtain ⟨l',hl',el'⟩:=zb4 (f:=lD) (xs:=ls) (i:=0) (by decide) (by omega)
    exact ⟨0,l',rfl,el',List.mem_of_getElem? hl'⟩
  refine zbx (d:=.tup [.lst (ss.map seD),.lst ((ls ++ [l']).map lD)]) (zb7 (zad rfl (zad (zat ?_) rfl))) (zbs ⟨ss,_,rfl,hsok,by omega,zgd hlm (zl0 (hlm l' hvm)),by rw [List.length_append]; show _ + 1 <= _; omega⟩)
  rw [List.map_append]
  refine zed rfl (zat (zad (zak rfl (zak (zad rfl (zad rfl rfl)) (zar (zak rfl rfl e2) rfl (zdi (by decide))) hv) hvl) rfl)) ?_
  rw [List.length_map]
  show _ + 1 <= _
  omega
 walk_at "nrm"
 apply zam
 refine zaz (zb0 (zar rfl rfl (zdx _ _))) (fun _=>?_) (fun _=>zbo ?_)
 ·have hc:=cut (HT.sIx ls.length 0 none) (HT.sIx ls.length ls.length (some 0) - HT.sIx ls.length 0 none)
  exact zbx (zb7 (zad rfl (zad (zat (zc6 (g:=lD) (xs:=ls) rfl rfl rfl)) rfl))) (zbs ⟨ss,_,rfl,hsok,by omega,hc.1,by omega⟩)
 walk_at "nrm"
 exact zbx (zb7 (zad rfl (zad rfl rfl))) (zbs ⟨ss,ls,rfl,hsok,by omega,hlm,by omega⟩)
theorem zto : ∀ n : Nat,cnt (List.replicate n none) = n
 | 0=>rfl
 | n + 1=>by
  have:=zto n
  unfold cnt at this ⊢
  rw [List.replicate_succ]
  show ((none : Option Bool) :: _).length = _
  rw [List.length_cons,this]
theorem z6s (ns : List Int) (hns : ns.length <= 63) : m_2 [.kl (ns.map D.int)] = some (.bl true):=by
 apply zec
 unfold b_2
 show wp _ [.im (.kl (ns.map D.int)),.no,.no,.no,.no,.no,.no,.no,.no] _
 obtain ⟨c0,k0⟩:=zs7 ns 0 (by decide)
 obtain ⟨c1,k1⟩:=zs7 ns 1 (by decide)
 obtain ⟨d,em,hs,rfl,hl,hx⟩:=zl7 c0 6 (by decide) (by decide)
 obtain ⟨a0,h0,e0⟩:=zb4 (f:=D.int) (xs:=hs) (i:=0) (by decide) (by omega)
 obtain ⟨a1,h1,e1⟩:=zb4 (f:=D.int) (xs:=hs) (i:=1) (by decide) (by omega)
 obtain ⟨a2,h2,e2⟩:=zb4 (f:=D.int) (xs:=hs) (i:=2) (by decide) (by omega)
 obtain ⟨a3,h3,e3⟩:=zb4 (f:=D.int) (xs:=hs) (i:=3) (by decide) (by omega)
 obtain ⟨a4,h4,e4⟩:=zb4 (f:=D.int) (xs:=hs) (i:=4) (by decide) (by omega)
 apply zam
 refine zbr (zau (zad (zau (zad rfl (zad rfl rfl)) k0) (zad rfl rfl)) em) ?_
 walk_at "nrm"
 apply zam
 refine zbr (zar (zar (zar (zak rfl rfl e0) rfl (zdi (by decide))) rfl zhu) rfl (znb ⟨by decide,by decide⟩)) ?_
 walk_at "nrm"
 have b0 : 0 <= a0 % 10:=Int.emod_nonneg _ (by decide)
 have b1 : a0 % 10 < 10:=Int.emod_lt_of_pos _ (by decide)
 obtain ⟨n,hn⟩ : ∃ n : Nat,(a0 % 10 + 2) / 3 = (n : Int):=⟨((a0 % 10 + 2) / 3).toNat,by omega⟩
 rw [hn]
 have n7 : n <= 7:=by omega
 clear hn
 obtain ⟨rs0,er0,hr0,hl0⟩:=zw9 (a1 % 5) (n : Int) (Int.emod_nonneg _ (by decide)) (Int.emod_lt_of_pos _ (by decide)) (by omega) (by omega)
 apply zam
 refine zes (zvm (zad (zar (zak rfl rfl e1) rfl (zdi (by decide))) (zad rfl rfl)) er0) ?_
 walk_at "nrm"
 have hcl:=List.length_take_le' (HT.sIx ns.length ns.length (some 12) - HT.sIx ns.length 0 (some 2)) (ns.drop (HT.sIx ns.length 0 (some 2)))
 rw [List.length_drop] at hcl
 generalize hcs : (ns.drop (HT.sIx ns.length 0 (some 2))).take (HT.sIx ns.length ns.length (some 12) - HT.sIx ns.length 0 (some 2)) = cs at hcl
 apply zam
 refine zd7 cs D.int (fun pre ρ=>∃ (rs : List Rul) (v4 : Sl),ρ = [.im (.kl (ns.map D.int)),.im (.lst (hs.map D.int)),.im (.int n),.own (rs.map Rul.toD),v4,.no,.no,.no,.no] /\ (∀ r ∈ rs,r.Ok n /\ r.ps.length <= 3) /\ rs.length <= 60 + pre.length) (by rw [<- hcs]; exact zcq (zat (zor rfl rfl rfl)) rfl) ⟨rs0,.no,rfl,hr0,by show rs0.length <= 60 + 0; omega⟩ ?_ ?_
 ·rintro pre c post ρ ex ⟨rs,v4,rfl,hrs,hlr⟩
  have hpl : pre.length < cs.length:=by rw [ex]; simp
  obtain ⟨d,er,r,rfl,hr,hr3⟩:=z00 (a2 % 2 == 0) c (n : Int) (by omega) (by omega)
  refine ⟨_,rfl,?_⟩
  walk_at "nrm"
  refine zhy (zau (zad rfl (zad rfl (zad (zar (zar (zak rfl rfl e2) rfl (zdi (by decide))) rfl (zdx _ _)) rfl))) er) rfl (by rw [List.length_map]; omega) ?_
  refine ⟨rs ++ [r],.im (.int c),by rw [List.map_append]; rfl,fun q hq=>?_,by rw [List.length_append,List.length_append]; show _ + 1 <= 60 + (_ + 1); omega⟩
  rcases List.mem_append.mp hq with h | h
  ·exact hrs q h
  ·have : q = r:=by simpa using h
   subst this
   exact ⟨hr,hr3⟩
 rintro ρ ⟨rs,v4,rfl,hrs,hlr⟩
 walk_at "nrm"
 have hok : ∀ r ∈ rs,r.Ok n:=fun r hr=>(hrs r hr).1
 have hp : ∀ r ∈ rs,r.ps.length <= 1000:=fun r hr=>by have:=(hrs r hr).2; omega
 have hrsl : rs.length <= 1000:=by omega
 obtain ⟨d,est,ss0,rfl,hss0,hsl0⟩:=z2n rs n n7 hok hrsl
 apply zam
 refine zhc rfl ?_
 refine zbr (zau (zad rfl (zad rfl rfl)) est) ?_
 walk_at "nrm"
 refine zig (fun ρ'=>∃ ss : List (List Int),ρ' = [.im (.kl (ns.map D.int)),.im (.lst (hs.map D.int)),.im (.int n),.im (.lst (rs.map Rul.toD)),v4,.im (.lst (ss.map seD)),.no,.no,.no] /\ (∀ s ∈ ss,SeN n s) /\ ss.length <= 200) ?_ ?_
 ·refine zaz (zb0 (zar (zar (zak rfl rfl e3) rfl (zdi (by decide))) rfl (zdx _ _))) (fun _=>?_) (fun _=>zbo (k_J ⟨ss0,rfl,hss0,hsl0⟩))
  have hc:=ziw hss0 (HT.sIx ss0.length 0 (some 1)) (HT.sIx ss0.length ss0.length none - HT.sIx ss0.length 0 (some 1))
  exact zbr (zat (zc6 (g:=seD) (xs:=ss0) rfl rfl rfl)) (k_J ⟨_,rfl,hc.1,by omega⟩)
 rintro ρ' ⟨ss1,rfl,hss1,hsl1⟩
 refine zig (fun ρ'=>∃ ss : List (List Int),ρ' = [.im (.kl (ns.map D.int)),.im (.lst (hs.map D.int)),.im (.int n),.im (.lst (rs.map Rul.toD)),v4,.im (.lst (ss.map seD)),.no,.no,.no] /\ (∀ s ∈ ss,SeN n s) /\ ss.length <= 300) ?_ ?_
 ·refine zaz (zb0 (zar (zar (zak rfl rfl e3) rfl (zdi (by decide))) rfl (zdx _ _))) (fun _=>?_) (fun _=>zbo (k_J ⟨ss1,rfl,hss1,by omega⟩))
  refine zbr (d:=.lst ((ss1 ++ [((List.range n).filter fun (i : Nat)=>a4 / ((i : Int) + 1) % 2 == 0).map fun (i : Nat)=>(i : Int)]).map seD)) (zat ?_) (k_J ⟨_,rfl,zgd hss1 (zl0 (zte n n (Nat.le_refl n) (by omega) _)),by rw [List.length_append]; show _ + 1 <= _; omega⟩)
  rw [List.map_append]
  refine zed rfl (zat (zad (zat ?_) rfl)) ?_
  ·refine Eq.trans ?_ (congrArg some List.map_map.symm)
   refine zd3 (List.range n) (fun (i : Nat)=>D.int i) (fun (i : Nat)=>a4 / ((i : Int) + 1) % 2 == 0) (fun (i : Nat)=>D.int i) (ze0 (n:=(n : Int)) (zad rfl rfl) (by omega) (by omega)) (by rw [List.length_range]; omega) fun i hi=>zdu rfl (zb0 (zar (zar (zar (zak rfl rfl e4) (zar rfl rfl zhu) (znb ?_)) rfl (zdi (by decide))) rfl (zdx _ _))) fun _=>rfl
   have:=List.mem_range.mp hi
   exact ⟨by omega,by omega⟩
  ·rw [List.length_map]
   show _ + 1 <= _
   omega
 rintro ρ' ⟨ss,rfl,hss,hsl⟩
 have hsok : ∀ s ∈ ss,zd0 n s:=fun s h=>(hss s h).1
 apply zam
 refine zes rfl ?_
 walk_at "nrm"
 obtain ⟨new,hbo,hnew,hn0,hn9⟩:=zo4 (rs:=rs) (ss:=ss) n (by omega) hok hrsl hsok (by omega) 9 (List.replicate n none) [] [] c1 List.length_replicate (by rw [zto]; omega) List.nodup_nil (fun z hz=>(by cases hz)) (by show 0 + 9 <= 50; decide) (fun l hl=>(by cases hl)) (by show 0 + 2 ^ 9 <= 900; decide)
 apply zam
 refine zhc rfl ?_
 refine zqb (z8g rfl (zeq rfl (zeq rfl (zeq (d:=.lst ((List.replicate n none).map shD)) (zat ?_) (zeq (d:=baD []) (zat rfl) (zmv (zad (zau (zad rfl (zad rfl rfl)) k1) rfl)))))) (ys:=new.map lD) (d:=.non) fun l=>hbo l) ?_
 ·rw [<- zo9]
  exact zcs (List.range n) (fun (i : Nat)=>D.int i) (fun _=>D.non) (ze0 (n:=(n : Int)) (zad rfl rfl) (by omega) (by omega)) (by rw [List.length_range]; omega) fun i _=>zcp rfl rfl rfl
 walk_at "nrm"
 have hcl2:=List.length_take_le' (HT.sIx ns.length ns.length (some 42) - HT.sIx ns.length 0 (some 2)) (ns.drop (HT.sIx ns.length 0 (some 2)))
 rw [List.length_drop] at hcl2
 generalize hcs2 : (ns.drop (HT.sIx ns.length 0 (some 2))).take (HT.sIx ns.length ns.length (some 42) - HT.sIx ns.length 0 (some 2)) = cs2 at hcl2
 have h29 : 2 ^ 9 = 512:=by decide
 apply zam
 refine zd7 (c0 :: cs2) D.int (fun _ ρ=>∃ (v4 v6 v7 v8 : Sl),ρ = [.im (.kl (ns.map D.int)),.im (.lst (hs.map D.int)),.im (.int n),.im (.lst (rs.map Rul.toD)),v4,.im (.lst (ss.map seD)),v6,v7,v8] /\ (v6 = .own (new.map lD) \/ v6 = .im (.lst (new.map lD)))) ?_ ⟨_,_,_,_,rfl,.inl rfl⟩ ?_ ?_
 ·refine zcq (d:=.lst ((c0 :: cs2).map D.int)) (zat ?_) rfl
  show zcx _ _ _ = some ([D.int c0] ++ cs2.map D.int)
  refine zed ?_ (zat ?_) ?_
  ·exact zat (zad (zau (zad rfl (zad rfl rfl)) k0) rfl)
  ·rw [<- hcs2]
   exact zor rfl rfl rfl
  ·rw [List.length_map]
   show 1 + cs2.length <= _
   omega
 ·rintro pre c post ρ ex ⟨v4,v6,v7,v8,rfl,hv6⟩
  obtain ⟨d,es,ss',ls',rfl,hss',hsl',hls',hll'⟩:=zwo n (by omega) ss hss hsl new hnew hn0 (by omega) c
  have ea:=z74 (rs:=rs) (ss:=ss') n (by omega) hok hrsl hp hss' hsl' ls' hls' hll'
  refine ⟨_,rfl,?_⟩
  walk_at "nrm"
  have hf6 : zm5 6 [.im (.kl (ns.map D.int)),.im (.lst (hs.map D.int)),.im (.int n),.im (.lst (rs.map Rul.toD)),.im (.int c),.im (.lst (ss.map seD)),v6,v7,v8] = [.im (.kl (ns.map D.int)),.im (.lst (hs.map D.int)),.im (.int n),.im (.lst (rs.map Rul.toD)),.im (.int c),.im (.lst (ss.map seD)),.im (.lst (new.map lD)),v7,v8]:=by
   rcases hv6 with rfl | rfl <;> rfl
  apply zam
  refine zhc hf6 ?_
  refine zhj (zau (zad rfl (zad rfl (zad rfl (zad rfl rfl)))) es) rfl ?_
  walk_at "nrm"
  refine zhc rfl ?_
  refine zaz (b:=false) (zfl (b:=true) (zdc (zau (zad rfl (zad rfl (zad rfl (zad rfl rfl)))) ea) rfl)) (fun z=>by cases z) (fun _=>zbo ?_)
  exact ⟨_,_,_,_,rfl,.inr rfl⟩
 ·rintro ρ ⟨v4,v6,v7,v8,rfl,_⟩
  exact zbx rfl (zbs rfl)
section
variable {P : Program} {w : World} {K : PySem.W.Frag} {mg : Str -> Option Value} {base : Heap}
noncomputable def sp_law (K : PySem.W.Frag) : Sp:=fun vs H Q _=>∃ (a : Addr) (ns : List Int),vs = [.ref a] /\ SqL K H a (ns.map V.int) /\ ns.length <= 63 /\ ∀ H',Q (.bl true) H'
theorem sp_law_of {K : PySem.W.Frag} {H : Hp} {a : Addr} {ns : List Int} {E : XK} (hl : ns.length <= 63) (hS : SqL K H a (ns.map V.int)) : sp_law K [.ref a] H (fun v _=>v = .bl true) E:=⟨a,ns,rfl,hS,hl,fun _=>rfl⟩
theorem law_ok {a : Wa} (W : Wd K mg a) : zax P w K mg base CX0 15 a.f_2 a.fd_2 ["_law_script"] (sp_law K):=(zzd W).imp fun vs H Q E ⟨a,ns,ev,hS,hl,k⟩ =>
 ⟨H,[.kl (ns.map D.int)],.bl true,za7.refl _,⟨.ref a,[],ev,⟨a,_,rfl,hS,zas.ints ns⟩,rfl⟩,rfl,z6s ns hl,fun v Hf' H' x r=>by rw [show v = V.bl true from r]; exact k H'⟩
end
section
variable {K : PySem.W.Frag} {mg : Str -> Option Value}
theorem zkb {P : List Value -> Prop} (h : P []) : ∀ us : List Value,us.length = 0 -> P us:=fun us e=>by
 rw [List.eq_nil_of_length_eq_zero e]
 exact h
theorem zdh {n : Nat} {P : List Value -> Prop} (h : ∀ a (us : List Value),us.length = n -> P (a :: us)) : ∀ us : List Value,us.length = n + 1 -> P us:=fun us e=>by
 cases us with
 | nil=>cases e
 | cons a us=>exact h a us (Nat.succ.inj e)
theorem zkp {P : List Value -> Prop} (h : ∀ a0 : Value,P [a0]) : ∀ us : List Value,us.length = 1 -> P us:=zdh (P:=fun us=>P (us)) fun a0=>zkb (h a0)
theorem zcv {P : List Value -> Prop} (h : ∀ a0 a1 : Value,P [a0,a1]) : ∀ us : List Value,us.length = 2 -> P us:=zdh (P:=fun us=>P (us)) fun a0=>zdh (P:=fun us=>P (a0 :: us)) fun a1=>zkb (h a0 a1)
theorem zeg {P : List Value -> Prop} (h : ∀ a0 a1 a2 : Value,P [a0,a1,a2]) : ∀ us : List Value,us.length = 3 -> P us:=zdh (P:=fun us=>P (us)) fun a0=>zdh (P:=fun us=>P (a0 :: us)) fun a1=>zdh (P:=fun us=>P (a0 :: a1 :: us)) fun a2=>zkb (h a0 a1 a2)
theorem zmj {P : List Value -> Prop} (h : ∀ a0 a1 a2 a3 : Value,P [a0,a1,a2,a3]) : ∀ us : List Value,us.length = 4 -> P us:=zdh (P:=fun us=>P (us)) fun a0=>zdh (P:=fun us=>P (a0 :: us)) fun a1=>zdh (P:=fun us=>P (a0 :: a1 :: us)) fun a2=>zdh (P:=fun us=>P (a0 :: a1 :: a2 :: us)) fun a3=>zkb (h a0 a1 a2 a3)
theorem zjo {P : List Value -> Prop} (h : ∀ a0 a1 a2 a3 a4 : Value,P [a0,a1,a2,a3,a4]) : ∀ us : List Value,us.length = 5 -> P us:=zdh (P:=fun us=>P (us)) fun a0=>zdh (P:=fun us=>P (a0 :: us)) fun a1=>zdh (P:=fun us=>P (a0 :: a1 :: us)) fun a2=>zdh (P:=fun us=>P (a0 :: a1 :: a2 :: us)) fun a3=>zdh (P:=fun us=>P (a0 :: a1 :: a2 :: a3 :: us)) fun a4=>zkb (h a0 a1 a2 a3 a4)
theorem z46 {P : List Value -> Prop} (h : ∀ a0 a1 a2 a3 a4 a5 : Value,P [a0,a1,a2,a3,a4,a5]) : ∀ us : List Value,us.length = 6 -> P us:=zdh (P:=fun us=>P (us)) fun a0=>zdh (P:=fun us=>P (a0 :: us)) fun a1=>zdh (P:=fun us=>P (a0 :: a1 :: us)) fun a2=>zdh (P:=fun us=>P (a0 :: a1 :: a2 :: us)) fun a3=>zdh (P:=fun us=>P (a0 :: a1 :: a2 :: a3 :: us)) fun a4=>zdh (P:=fun us=>P (a0 :: a1 :: a2 :: a3 :: a4 :: us)) fun a5=>zkb (h a0 a1 a2 a3 a4 a5)
theorem all_mk {l : PySem.W.OpenLaw} {w : World} {h : Heap} {C_In : Addr} {C_Out : Addr} {C_Least : Addr} {C_Most : Addr} {f_8 : Addr} {od_8 an_8 : Option Addr} {sl_8 : Array (Option Value)} {oc_8 kV_8 dc_8 pm_8 cd_8 ct_8 : Value} {f_48 : Addr} {od_48 an_48 : Option Addr} {sl_48 : Array (Option Value)} {oc_48 kV_48 dc_48 pm_48 cd_48 ct_48 : Value} {f_30 : Addr} {od_30 an_30 : Option Addr} {sl_30 : Array (Option Value)} {oc_30 kV_30 dc_30 pm_30 cd_30 ct_30 : Value} {f_20 : Addr} {od_20 an_20 : Option Addr} {sl_20 : Array (Option Value)} {oc_20 kV_20 dc_20 pm_20 cd_20 ct_20 : Value} {f_51 : Addr} {od_51 an_51 : Option Addr} {sl_51 : Array (Option Value)} {oc_51 kV_51 dc_51 pm_51 cd_51 ct_51 : Value} {f_31 : Addr} {od_31 an_31 : Option Addr} {sl_31 : Array (Option Value)} {oc_31 kV_31 dc_31 pm_31 cd_31 ct_31 : Value} {f_52 : Addr} {od_52 an_52 : Option Addr} {sl_52 : Array (Option Value)} {oc_52 kV_52 dc_52 pm_52 cd_52 ct_52 : Value} {f_53 : Addr} {od_53 an_53 : Option Addr} {sl_53 : Array (Option Value)} {oc_53 kV_53 dc_53 pm_53 cd_53 ct_53 : Value} {f_54 : Addr} {od_54 an_54 : Option Addr} {sl_54 : Array (Option Value)} {oc_54 kV_54 dc_54 pm_54 cd_54 ct_54 : Value} {f_44 : Addr} {od_44 an_44 : Option Addr} {sl_44 : Array (Option Value)} {oc_44 kV_44 dc_44 pm_44 cd_44 ct_44 : Value} {f_45 : Addr} {od_45 an_45 : Option Addr} {sl_45 : Array (Option Value)} {oc_45 kV_45 dc_45 pm_45 cd_45 ct_45 : Value} {f_55 : Addr} {od_55 an_55 : Option Addr} {sl_55 : Array (Option Value)} {oc_55 kV_55 dc_55 pm_55 cd_55 ct_55 : Value} {f_13 : Addr} {od_13 an_13 : Option Addr} {sl_13 : Array (Option Value)} {oc_13 kV_13 dc_13 pm_13 cd_13 ct_13 : Value} {f_4 : Addr} {od_4 an_4 : Option Addr} {sl_4 : Array (Option Value)} {oc_4 kV_4 dc_4 pm_4 cd_4 ct_4 : Value} {f_46 : Addr} {od_46 an_46 : Option Addr} {sl_46 : Array (Option Value)} {oc_46 kV_46 dc_46 pm_46 cd_46 ct_46 : Value} {f_56 : Addr} {od_56 an_56 : Option Addr} {sl_56 : Array (Option Value)} {oc_56 kV_56 dc_56 pm_56 cd_56 ct_56 : Value} {f_47 : Addr} {od_47 an_47 : Option Addr} {sl_47 : Array (Option Value)} {oc_47 kV_47 dc_47 pm_47 cd_47 ct_47 : Value} {f_40 : Addr} {od_40 an_40 : Option Addr} {sl_40 : Array (Option Value)} {oc_40 kV_40 dc_40 pm_40 cd_40 ct_40 : Value} {f_32 : Addr} {od_32 an_32 : Option Addr} {sl_32 : Array (Option Value)} {oc_32 kV_32 dc_32 pm_32 cd_32 ct_32 : Value} {f_33 : Addr} {od_33 an_33 : Option Addr} {sl_33 : Array (Option Value)} {oc_33 kV_33 dc_33 pm_33 cd_33 ct_33 : Value} {f_41 : Addr} {od_41 an_41 : Option Addr} {sl_41 : Array (Option Value)} {oc_41 kV_41 dc_41 pm_41 cd_41 ct_41 : Value} {f_5 : Addr} {od_5 an_5 : Option Addr} {sl_5 : Array (Option Value)} {oc_5 kV_5 dc_5 pm_5 cd_5 ct_5 : Value} {f_0 : Addr} {od_0 an_0 : Option Addr} {sl_0 : Array (Option Value)} {oc_0 kV_0 dc_0 pm_0 cd_0 ct_0 : Value} {f_42 : Addr} {od_42 an_42 : Option Addr} {sl_42 : Array (Option Value)} {oc_42 kV_42 dc_42 pm_42 cd_42 ct_42 : Value} {f_34 : Addr} {od_34 an_34 : Option Addr} {sl_34 : Array (Option Value)} {oc_34 kV_34 dc_34 pm_34 cd_34 ct_34 : Value} {f_43 : Addr} {od_43 an_43 : Option Addr} {sl_43 : Array (Option Value)} {oc_43 kV_43 dc_43 pm_43 cd_43 ct_43 : Value} {f_21 : Addr} {od_21 an_21 : Option Addr} {sl_21 : Array (Option Value)} {oc_21 kV_21 dc_21 pm_21 cd_21 ct_21 : Value} {f_9 : Addr} {od_9 an_9 : Option Addr} {sl_9 : Array (Option Value)} {oc_9 kV_9 dc_9 pm_9 cd_9 ct_9 : Value} {f_49 : Addr} {od_49 an_49 : Option Addr} {sl_49 : Array (Option Value)} {oc_49 kV_49 dc_49 pm_49 cd_49 ct_49 : Value} {f_6 : Addr} {od_6 an_6 : Option Addr} {sl_6 : Array (Option Value)} {oc_6 kV_6 dc_6 pm_6 cd_6 ct_6 : Value} {f_50 : Addr} {od_50 an_50 : Option Addr} {sl_50 : Array (Option Value)} {oc_50 kV_50 dc_50 pm_50 cd_50 ct_50 : Value} {f_22 : Addr} {od_22 an_22 : Option Addr} {sl_22 : Array (Option Value)} {oc_22 kV_22 dc_22 pm_22 cd_22 ct_22 : Value} {f_14 : Addr} {od_14 an_14 : Option Addr} {sl_14 : Array (Option Value)} {oc_14 kV_14 dc_14 pm_14 cd_14 ct_14 : Value} {f_35 : Addr} {od_35 an_35 : Option Addr} {sl_35 : Array (Option Value)} {oc_35 kV_35 dc_35 pm_35 cd_35 ct_35 : Value} {f_3 : Addr} {od_3 an_3 : Option Addr} {sl_3 : Array (Option Value)} {oc_3 kV_3 dc_3 pm_3 cd_3 ct_3 : Value} {f_7 : Addr} {od_7 an_7 : Option Addr} {sl_7 : Array (Option Value)} {oc_7 kV_7 dc_7 pm_7 cd_7 ct_7 : Value} {f_23 : Addr} {od_23 an_23 : Option Addr} {sl_23 : Array (Option Value)} {oc_23 kV_23 dc_23 pm_23 cd_23 ct_23 : Value} {f_10 : Addr} {od_10 an_10 : Option Addr} {sl_10 : Array (Option Value)} {oc_10 kV_10 dc_10 pm_10 cd_10 ct_10 : Value} {f_1 : Addr} {od_1 an_1 : Option Addr} {sl_1 : Array (Option Value)} {oc_1 kV_1 dc_1 pm_1 cd_1 ct_1 : Value} {f_57 : Addr} {od_57 an_57 : Option Addr} {sl_57 : Array (Option Value)} {oc_57 kV_57 dc_57 pm_57 cd_57 ct_57 : Value} {f_11 : Addr} {od_11 an_11 : Option Addr} {sl_11 : Array (Option Value)} {oc_11 kV_11 dc_11 pm_11 cd_11 ct_11 : Value} {f_36 : Addr} {od_36 an_36 : Option Addr} {sl_36 : Array (Option Value)} {oc_36 kV_36 dc_36 pm_36 cd_36 ct_36 : Value} {f_37 : Addr} {od_37 an_37 : Option Addr} {sl_37 : Array (Option Value)} {oc_37 kV_37 dc_37 pm_37 cd_37 ct_37 : Value} {f_24 : Addr} {od_24 an_24 : Option Addr} {sl_24 : Array (Option Value)} {oc_24 kV_24 dc_24 pm_24 cd_24 ct_24 : Value} {f_25 : Addr} {od_25 an_25 : Option Addr} {sl_25 : Array (Option Value)} {oc_25 kV_25 dc_25 pm_25 cd_25 ct_25 : Value} {f_38 : Addr} {od_38 an_38 : Option Addr} {sl_38 : Array (Option Value)} {oc_38 kV_38 dc_38 pm_38 cd_38 ct_38 : Value} {f_12 : Addr} {od_12 an_12 : Option Addr} {sl_12 : Array (Option Value)} {oc_12 kV_12 dc_12 pm_12 cd_12 ct_12 : Value} {f_15 : Addr} {od_15 an_15 : Option Addr} {sl_15 : Array (Option Value)} {oc_15 kV_15 dc_15 pm_15 cd_15 ct_15 : Value} {f_39 : Addr} {od_39 an_39 : Option Addr} {sl_39 : Array (Option Value)} {oc_39 kV_39 dc_39 pm_39 cd_39 ct_39 : Value} {f_2 : Addr} {od_2 an_2 : Option Addr} {sl_2 : Array (Option Value)} {oc_2 kV_2 dc_2 pm_2 cd_2 ct_2 : Value} {f_58 : Addr} {od_58 an_58 : Option Addr} {sl_58 : Array (Option Value)} {oc_58 kV_58 dc_58 pm_58 cd_58 ct_58 : Value} {f_26 : Addr} {od_26 an_26 : Option Addr} {sl_26 : Array (Option Value)} {oc_26 kV_26 dc_26 pm_26 cd_26 ct_26 : Value} {f_16 : Addr} {od_16 an_16 : Option Addr} {sl_16 : Array (Option Value)} {oc_16 kV_16 dc_16 pm_16 cd_16 ct_16 : Value} {f_59 : Addr} {od_59 an_59 : Option Addr} {sl_59 : Array (Option Value)} {oc_59 kV_59 dc_59 pm_59 cd_59 ct_59 : Value} {f_27 : Addr} {od_27 an_27 : Option Addr} {sl_27 : Array (Option Value)} {oc_27 kV_27 dc_27 pm_27 cd_27 ct_27 : Value} {f_17 : Addr} {od_17 an_17 : Option Addr} {sl_17 : Array (Option Value)} {oc_17 kV_17 dc_17 pm_17 cd_17 ct_17 : Value} {f_60 : Addr} {od_60 an_60 : Option Addr} {sl_60 : Array (Option Value)} {oc_60 kV_60 dc_60 pm_60 cd_60 ct_60 : Value} {f_28 : Addr} {od_28 an_28 : Option Addr} {sl_28 : Array (Option Value)} {oc_28 kV_28 dc_28 pm_28 cd_28 ct_28 : Value} {f_18 : Addr} {od_18 an_18 : Option Addr} {sl_18 : Array (Option Value)} {oc_18 kV_18 dc_18 pm_18 cd_18 ct_18 : Value} {f_61 : Addr} {od_61 an_61 : Option Addr} {sl_61 : Array (Option Value)} {oc_61 kV_61 dc_61 pm_61 cd_61 ct_61 : Value} {f_29 : Addr} {od_29 an_29 : Option Addr} {sl_29 : Array (Option Value)} {oc_29 kV_29 dc_29 pm_29 cd_29 ct_29 : Value} {f_19 : Addr} {od_19 an_19 : Option Addr} {sl_19 : Array (Option Value)} {oc_19 kV_19 dc_19 pm_19 cd_19 ct_19 : Value} {fa : Addr} (X : K.In h) (G : h.Ns mainGlobals mg) (hfa : mg "law" = some (.ref fa))
  (aC_In : PySem.W.nsIn K mainGlobals "In" = some (some (.ref C_In)))
  (aC_Out : PySem.W.nsIn K mainGlobals "Out" = some (some (.ref C_Out)))
  (aC_Least : PySem.W.nsIn K mainGlobals "Least" = some (some (.ref C_Least)))
  (aC_Most : PySem.W.nsIn K mainGlobals "Most" = some (some (.ref C_Most)))
  (a_8 : PySem.W.nsIn K mainGlobals "marks" = some (some (.ref f_8)))
  (l_8 : K.lookup f_8 = some ⟨oc_8,od_8,.func (PySem.W.fnOf "marks" "marks" (zbd s_8) (za9 s_8) (zao s_8) .none kV_8 dc_8 pm_8 an_8 cd_8 ct_8),sl_8⟩)
  (c_8 : PySem.W.codeIn K cd_8 "marks" = true)
  (k_8 : PySem.W.keepIn K (.ref f_8) = true)
  (a_48 : PySem.W.nsIn K mainGlobals "part_of" = some (some (.ref f_48)))
  (l_48 : K.lookup f_48 = some ⟨oc_48,od_48,.func (PySem.W.fnOf "part_of" "part_of" (zbd zjh) (za9 zjh) (zao zjh) .none kV_48 dc_48 pm_48 an_48 cd_48 ct_48),sl_48⟩)
  (c_48 : PySem.W.codeIn K cd_48 "part_of" = true)
  (k_48 : PySem.W.keepIn K (.ref f_48) = true)
  (a_30 : PySem.W.nsIn K mainGlobals "worth_in" = some (some (.ref f_30)))
  (l_30 : K.lookup f_30 = some ⟨oc_30,od_30,.func (PySem.W.fnOf "worth_in" "worth_in" (zbd zjf) (za9 zjf) (zao zjf) .none kV_30 dc_30 pm_30 an_30 cd_30 ct_30),sl_30⟩)
  (c_30 : PySem.W.codeIn K cd_30 "worth_in" = true)
  (k_30 : PySem.W.keepIn K (.ref f_30) = true)
  (a_20 : PySem.W.nsIn K mainGlobals "worth_not_out" = some (some (.ref f_20)))
  (l_20 : K.lookup f_20 = some ⟨oc_20,od_20,.func (PySem.W.fnOf "worth_not_out" "worth_not_out" (zbd zjc) (za9 zjc) (zao zjc) .none kV_20 dc_20 pm_20 an_20 cd_20 ct_20),sl_20⟩)
  (c_20 : PySem.W.codeIn K cd_20 "worth_not_out" = true)
  (k_20 : PySem.W.keepIn K (.ref f_20) = true)
  (a_51 : PySem.W.nsIn K mainGlobals "outside" = some (some (.ref f_51)))
  (l_51 : K.lookup f_51 = some ⟨oc_51,od_51,.func (PySem.W.fnOf "outside" "outside" (zbd zke) (za9 zke) (zao zke) .none kV_51 dc_51 pm_51 an_51 cd_51 ct_51),sl_51⟩)
  (c_51 : PySem.W.codeIn K cd_51 "outside" = true)
  (k_51 : PySem.W.keepIn K (.ref f_51) = true)
  (a_31 : PySem.W.nsIn K mainGlobals "body_of" = some (some (.ref f_31)))
  (l_31 : K.lookup f_31 = some ⟨oc_31,od_31,.func (PySem.W.fnOf "body_of" "body_of" (zbd zkn) (za9 zkn) (zao zkn) .none kV_31 dc_31 pm_31 an_31 cd_31 ct_31),sl_31⟩)
  (c_31 : PySem.W.codeIn K cd_31 "body_of" = true)
  (k_31 : PySem.W.keepIn K (.ref f_31) = true)
  (a_52 : PySem.W.nsIn K mainGlobals "body_sure" = some (some (.ref f_52)))
  (l_52 : K.lookup f_52 = some ⟨oc_52,od_52,.func (PySem.W.fnOf "body_sure" "body_sure" (zbd zk3) (za9 zk3) (zao zk3) .none kV_52 dc_52 pm_52 an_52 cd_52 ct_52),sl_52⟩)
  (c_52 : PySem.W.codeIn K cd_52 "body_sure" = true)
  (k_52 : PySem.W.keepIn K (.ref f_52) = true)
  (a_53 : PySem.W.nsIn K mainGlobals "body_lost" = some (some (.ref f_53)))
  (l_53 : K.lookup f_53 = some ⟨oc_53,od_53,.func (PySem.W.fnOf "body_lost" "body_lost" (zbd zjj) (za9 zjj) (zao zjj) .none kV_53 dc_53 pm_53 an_53 cd_53 ct_53),sl_53⟩)
  (c_53 : PySem.W.codeIn K cd_53 "body_lost" = true)
  (k_53 : PySem.W.keepIn K (.ref f_53) = true)
  (a_54 : PySem.W.nsIn K mainGlobals "surely_broken" = some (some (.ref f_54)))
  (l_54 : K.lookup f_54 = some ⟨oc_54,od_54,.func (PySem.W.fnOf "surely_broken" "surely_broken" (zbd zkv) (za9 zkv) (zao zkv) .none kV_54 dc_54 pm_54 an_54 cd_54 ct_54),sl_54⟩)
  (c_54 : PySem.W.codeIn K cd_54 "surely_broken" = true)
  (k_54 : PySem.W.keepIn K (.ref f_54) = true)
  (a_44 : PySem.W.nsIn K mainGlobals "put_to" = some (some (.ref f_44)))
  (l_44 : K.lookup f_44 = some ⟨oc_44,od_44,.func (PySem.W.fnOf "put_to" "put_to" (zbd zjd) (za9 zjd) (zao zjd) .none kV_44 dc_44 pm_44 an_44 cd_44 ct_44),sl_44⟩)
  (c_44 : PySem.W.codeIn K cd_44 "put_to" = true)
  (k_44 : PySem.W.keepIn K (.ref f_44) = true)
  (a_45 : PySem.W.nsIn K mainGlobals "rests_outside" = some (some (.ref f_45)))
  (l_45 : K.lookup f_45 = some ⟨oc_45,od_45,.func (PySem.W.fnOf "rests_outside" "rests_outside" (zbd zku) (za9 zku) (zao zku) .none kV_45 dc_45 pm_45 an_45 cd_45 ct_45),sl_45⟩)
  (c_45 : PySem.W.codeIn K cd_45 "rests_outside" = true)
  (k_45 : PySem.W.keepIn K (.ref f_45) = true)
  (a_55 : PySem.W.nsIn K mainGlobals "fits" = some (some (.ref f_55)))
  (l_55 : K.lookup f_55 = some ⟨oc_55,od_55,.func (PySem.W.fnOf "fits" "fits" (zbd zjx) (za9 zjx) (zao zjx) .none kV_55 dc_55 pm_55 an_55 cd_55 ct_55),sl_55⟩)
  (c_55 : PySem.W.codeIn K cd_55 "fits" = true)
  (k_55 : PySem.W.keepIn K (.ref f_55) = true)
  (a_13 : PySem.W.nsIn K mainGlobals "right_why" = some (some (.ref f_13)))
  (l_13 : K.lookup f_13 = some ⟨oc_13,od_13,.func (PySem.W.fnOf "right_why" "right_why" (zbd zk0) (za9 zk0) (zao zk0) .none kV_13 dc_13 pm_13 an_13 cd_13 ct_13),sl_13⟩)
  (c_13 : PySem.W.codeIn K cd_13 "right_why" = true)
  (k_13 : PySem.W.keepIn K (.ref f_13) = true)
  (a_4 : PySem.W.nsIn K mainGlobals "has_number" = some (some (.ref f_4)))
  (l_4 : K.lookup f_4 = some ⟨oc_4,od_4,.func (PySem.W.fnOf "has_number" "has_number" (zbd s_4) (za9 s_4) (zao s_4) .none kV_4 dc_4 pm_4 an_4 cd_4 ct_4),sl_4⟩)
  (c_4 : PySem.W.codeIn K cd_4 "has_number" = true)
  (k_4 : PySem.W.keepIn K (.ref f_4) = true)
  (a_46 : PySem.W.nsIn K mainGlobals "right_group" = some (some (.ref f_46)))
  (l_46 : K.lookup f_46 = some ⟨oc_46,od_46,.func (PySem.W.fnOf "right_group" "right_group" (zbd zk2) (za9 zk2) (zao zk2) .none kV_46 dc_46 pm_46 an_46 cd_46 ct_46),sl_46⟩)
  (c_46 : PySem.W.codeIn K cd_46 "right_group" = true)
  (k_46 : PySem.W.keepIn K (.ref f_46) = true)
  (a_56 : PySem.W.nsIn K mainGlobals "has_in" = some (some (.ref f_56)))
  (l_56 : K.lookup f_56 = some ⟨oc_56,od_56,.func (PySem.W.fnOf "has_in" "has_in" (zbd zkt) (za9 zkt) (zao zkt) .none kV_56 dc_56 pm_56 an_56 cd_56 ct_56),sl_56⟩)
  (c_56 : PySem.W.codeIn K cd_56 "has_in" = true)
  (k_56 : PySem.W.keepIn K (.ref f_56) = true)
  (a_47 : PySem.W.nsIn K mainGlobals "right_step" = some (some (.ref f_47)))
  (l_47 : K.lookup f_47 = some ⟨oc_47,od_47,.func (PySem.W.fnOf "right_step" "right_step" (zbd zjn) (za9 zjn) (zao zjn) .none kV_47 dc_47 pm_47 an_47 cd_47 ct_47),sl_47⟩)
  (c_47 : PySem.W.codeIn K cd_47 "right_step" = true)
  (k_47 : PySem.W.keepIn K (.ref f_47) = true)
  (a_40 : PySem.W.nsIn K mainGlobals "right_line" = some (some (.ref f_40)))
  (l_40 : K.lookup f_40 = some ⟨oc_40,od_40,.func (PySem.W.fnOf "right_line" "right_line" (zbd zi1) (za9 zi1) (zao zi1) .none kV_40 dc_40 pm_40 an_40 cd_40 ct_40),sl_40⟩)
  (c_40 : PySem.W.codeIn K cd_40 "right_line" = true)
  (k_40 : PySem.W.keepIn K (.ref f_40) = true)
  (a_32 : PySem.W.nsIn K mainGlobals "begun" = some (some (.ref f_32)))
  (l_32 : K.lookup f_32 = some ⟨oc_32,od_32,.func (PySem.W.fnOf "begun" "begun" (zbd zk6) (za9 zk6) (zao zk6) .none kV_32 dc_32 pm_32 an_32 cd_32 ct_32),sl_32⟩)
  (c_32 : PySem.W.codeIn K cd_32 "begun" = true)
  (k_32 : PySem.W.keepIn K (.ref f_32) = true)
  (a_33 : PySem.W.nsIn K mainGlobals "right_steps" = some (some (.ref f_33)))
  (l_33 : K.lookup f_33 = some ⟨oc_33,od_33,.func (PySem.W.fnOf "right_steps" "right_steps" (zbd zji) (za9 zji) (zao zji) .none kV_33 dc_33 pm_33 an_33 cd_33 ct_33),sl_33⟩)
  (c_33 : PySem.W.codeIn K cd_33 "right_steps" = true)
  (k_33 : PySem.W.keepIn K (.ref f_33) = true)
  (a_41 : PySem.W.nsIn K mainGlobals "right_paper" = some (some (.ref f_41)))
  (l_41 : K.lookup f_41 = some ⟨oc_41,od_41,.func (PySem.W.fnOf "right_paper" "right_paper" (zbd zi5) (za9 zi5) (zao zi5) .none kV_41 dc_41 pm_41 an_41 cd_41 ct_41),sl_41⟩)
  (c_41 : PySem.W.codeIn K cd_41 "right_paper" = true)
  (k_41 : PySem.W.keepIn K (.ref f_41) = true)
  (a_5 : PySem.W.nsIn K mainGlobals "_law_cell_at" = some (some (.ref f_5)))
  (l_5 : K.lookup f_5 = some ⟨oc_5,od_5,.func (PySem.W.fnOf "_law_cell_at" "_law_cell_at" (zbd s_5) (za9 s_5) (zao s_5) .none kV_5 dc_5 pm_5 an_5 cd_5 ct_5),sl_5⟩)
  (c_5 : PySem.W.codeIn K cd_5 "_law_cell_at" = true)
  (k_5 : PySem.W.keepIn K (.ref f_5) = true)
  (a_0 : PySem.W.nsIn K mainGlobals "_law_mixed" = some (some (.ref f_0)))
  (l_0 : K.lookup f_0 = some ⟨oc_0,od_0,.func (PySem.W.fnOf "_law_mixed" "_law_mixed" (zbd s_0) (za9 s_0) (zao s_0) .none kV_0 dc_0 pm_0 an_0 cd_0 ct_0),sl_0⟩)
  (c_0 : PySem.W.codeIn K cd_0 "_law_mixed" = true)
  (k_0 : PySem.W.keepIn K (.ref f_0) = true)
  (a_42 : PySem.W.nsIn K mainGlobals "_law_worth" = some (some (.ref f_42)))
  (l_42 : K.lookup f_42 = some ⟨oc_42,od_42,.func (PySem.W.fnOf "_law_worth" "_law_worth" (zbd zkh) (za9 zkh) (zao zkh) .none kV_42 dc_42 pm_42 an_42 cd_42 ct_42),sl_42⟩)
  (c_42 : PySem.W.codeIn K cd_42 "_law_worth" = true)
  (k_42 : PySem.W.keepIn K (.ref f_42) = true)
  (a_34 : PySem.W.nsIn K mainGlobals "_law_part" = some (some (.ref f_34)))
  (l_34 : K.lookup f_34 = some ⟨oc_34,od_34,.func (PySem.W.fnOf "_law_part" "_law_part" (zbd zi9) (za9 zi9) (zao zi9) .none kV_34 dc_34 pm_34 an_34 cd_34 ct_34),sl_34⟩)
  (c_34 : PySem.W.codeIn K cd_34 "_law_part" = true)
  (k_34 : PySem.W.keepIn K (.ref f_34) = true)
  (a_43 : PySem.W.nsIn K mainGlobals "_law_rule" = some (some (.ref f_43)))
  (l_43 : K.lookup f_43 = some ⟨oc_43,od_43,.func (PySem.W.fnOf "_law_rule" "_law_rule" (zbd zk4) (za9 zk4) (zao zk4) .none kV_43 dc_43 pm_43 an_43 cd_43 ct_43),sl_43⟩)
  (c_43 : PySem.W.codeIn K cd_43 "_law_rule" = true)
  (k_43 : PySem.W.keepIn K (.ref f_43) = true)
  (a_21 : PySem.W.nsIn K mainGlobals "_law_ring" = some (some (.ref f_21)))
  (l_21 : K.lookup f_21 = some ⟨oc_21,od_21,.func (PySem.W.fnOf "_law_ring" "_law_ring" (zbd zki) (za9 zki) (zao zki) .none kV_21 dc_21 pm_21 an_21 cd_21 ct_21),sl_21⟩)
  (c_21 : PySem.W.codeIn K cd_21 "_law_ring" = true)
  (k_21 : PySem.W.keepIn K (.ref f_21) = true)
  (a_9 : PySem.W.nsIn K mainGlobals "_law_copy" = some (some (.ref f_9)))
  (l_9 : K.lookup f_9 = some ⟨oc_9,od_9,.func (PySem.W.fnOf "_law_copy" "_law_copy" (zbd s_9) (za9 s_9) (zao s_9) .none kV_9 dc_9 pm_9 an_9 cd_9 ct_9),sl_9⟩)
  (c_9 : PySem.W.codeIn K cd_9 "_law_copy" = true)
  (k_9 : PySem.W.keepIn K (.ref f_9) = true)
  (a_49 : PySem.W.nsIn K mainGlobals "_law_part_sure" = some (some (.ref f_49)))
  (l_49 : K.lookup f_49 = some ⟨oc_49,od_49,.func (PySem.W.fnOf "_law_part_sure" "_law_part_sure" (zbd zk9) (za9 zk9) (zao zk9) .none kV_49 dc_49 pm_49 an_49 cd_49 ct_49),sl_49⟩)
  (c_49 : PySem.W.codeIn K cd_49 "_law_part_sure" = true)
  (k_49 : PySem.W.keepIn K (.ref f_49) = true)
  (a_6 : PySem.W.nsIn K mainGlobals "_law_broken" = some (some (.ref f_6)))
  (l_6 : K.lookup f_6 = some ⟨oc_6,od_6,.func (PySem.W.fnOf "_law_broken" "_law_broken" (zbd s_6) (za9 s_6) (zao s_6) .none kV_6 dc_6 pm_6 an_6 cd_6 ct_6),sl_6⟩)
  (c_6 : PySem.W.codeIn K cd_6 "_law_broken" = true)
  (k_6 : PySem.W.keepIn K (.ref f_6) = true)
  (a_50 : PySem.W.nsIn K mainGlobals "_law_part_lost" = some (some (.ref f_50)))
  (l_50 : K.lookup f_50 = some ⟨oc_50,od_50,.func (PySem.W.fnOf "_law_part_lost" "_law_part_lost" (zbd zjz) (za9 zjz) (zao zjz) .none kV_50 dc_50 pm_50 an_50 cd_50 ct_50),sl_50⟩)
  (c_50 : PySem.W.codeIn K cd_50 "_law_part_lost" = true)
  (k_50 : PySem.W.keepIn K (.ref f_50) = true)
  (a_22 : PySem.W.nsIn K mainGlobals "_law_holds_up" = some (some (.ref f_22)))
  (l_22 : K.lookup f_22 = some ⟨oc_22,od_22,.func (PySem.W.fnOf "_law_holds_up" "_law_holds_up" (zbd zkx) (za9 zkx) (zao zkx) .none kV_22 dc_22 pm_22 an_22 cd_22 ct_22),sl_22⟩)
  (c_22 : PySem.W.codeIn K cd_22 "_law_holds_up" = true)
  (k_22 : PySem.W.keepIn K (.ref f_22) = true)
  (a_14 : PySem.W.nsIn K mainGlobals "_law_loose" = some (some (.ref f_14)))
  (l_14 : K.lookup f_14 = some ⟨oc_14,od_14,.func (PySem.W.fnOf "_law_loose" "_law_loose" (zbd zkw) (za9 zkw) (zao zkw) .none kV_14 dc_14 pm_14 an_14 cd_14 ct_14),sl_14⟩)
  (c_14 : PySem.W.codeIn K cd_14 "_law_loose" = true)
  (k_14 : PySem.W.keepIn K (.ref f_14) = true)
  (a_35 : PySem.W.nsIn K mainGlobals "_law_fits" = some (some (.ref f_35)))
  (l_35 : K.lookup f_35 = some ⟨oc_35,od_35,.func (PySem.W.fnOf "_law_fits" "_law_fits" (zbd zjb) (za9 zjb) (zao zjb) .none kV_35 dc_35 pm_35 an_35 cd_35 ct_35),sl_35⟩)
  (c_35 : PySem.W.codeIn K cd_35 "_law_fits" = true)
  (k_35 : PySem.W.keepIn K (.ref f_35) = true)
  (a_3 : PySem.W.nsIn K mainGlobals "_law_right" = some (some (.ref f_3)))
  (l_3 : K.lookup f_3 = some ⟨oc_3,od_3,.func (PySem.W.fnOf "_law_right" "_law_right" (zbd s_3) (za9 s_3) (zao s_3) .none kV_3 dc_3 pm_3 an_3 cd_3 ct_3),sl_3⟩)
  (c_3 : PySem.W.codeIn K cd_3 "_law_right" = true)
  (k_3 : PySem.W.keepIn K (.ref f_3) = true)
  (a_7 : PySem.W.nsIn K mainGlobals "_law_with" = some (some (.ref f_7)))
  (l_7 : K.lookup f_7 = some ⟨oc_7,od_7,.func (PySem.W.fnOf "_law_with" "_law_with" (zbd s_7) (za9 s_7) (zao s_7) .none kV_7 dc_7 pm_7 an_7 cd_7 ct_7),sl_7⟩)
  (c_7 : PySem.W.codeIn K cd_7 "_law_with" = true)
  (k_7 : PySem.W.keepIn K (.ref f_7) = true)
  (a_23 : PySem.W.nsIn K mainGlobals "_law_whys" = some (some (.ref f_23)))
  (l_23 : K.lookup f_23 = some ⟨oc_23,od_23,.func (PySem.W.fnOf "_law_whys" "_law_whys" (zbd zj2) (za9 zj2) (zao zj2) .none kV_23 dc_23 pm_23 an_23 cd_23 ct_23),sl_23⟩)
  (c_23 : PySem.W.codeIn K cd_23 "_law_whys" = true)
  (k_23 : PySem.W.keepIn K (.ref f_23) = true)
  (a_10 : PySem.W.nsIn K mainGlobals "_law_lie" = some (some (.ref f_10)))
  (l_10 : K.lookup f_10 = some ⟨oc_10,od_10,.func (PySem.W.fnOf "_law_lie" "_law_lie" (zbd zj8) (za9 zj8) (zao zj8) .none kV_10 dc_10 pm_10 an_10 cd_10 ct_10),sl_10⟩)
  (c_10 : PySem.W.codeIn K cd_10 "_law_lie" = true)
  (k_10 : PySem.W.keepIn K (.ref f_10) = true)
  (a_1 : PySem.W.nsIn K mainGlobals "_law_bar_out" = some (some (.ref f_1)))
  (l_1 : K.lookup f_1 = some ⟨oc_1,od_1,.func (PySem.W.fnOf "_law_bar_out" "_law_bar_out" (zbd s_1) (za9 s_1) (zao s_1) .none kV_1 dc_1 pm_1 an_1 cd_1 ct_1),sl_1⟩)
  (c_1 : PySem.W.codeIn K cd_1 "_law_bar_out" = true)
  (k_1 : PySem.W.keepIn K (.ref f_1) = true)
  (a_57 : PySem.W.nsIn K mainGlobals "_law_holds" = some (some (.ref f_57)))
  (l_57 : K.lookup f_57 = some ⟨oc_57,od_57,.func (PySem.W.fnOf "_law_holds" "_law_holds" (zbd zj0) (za9 zj0) (zao zj0) .none kV_57 dc_57 pm_57 an_57 cd_57 ct_57),sl_57⟩)
  (c_57 : PySem.W.codeIn K cd_57 "_law_holds" = true)
  (k_57 : PySem.W.keepIn K (.ref f_57) = true)
  (a_11 : PySem.W.nsIn K mainGlobals "_law_stands" = some (some (.ref f_11)))
  (l_11 : K.lookup f_11 = some ⟨oc_11,od_11,.func (PySem.W.fnOf "_law_stands" "_law_stands" (zbd zjs) (za9 zjs) (zao zjs) .none kV_11 dc_11 pm_11 an_11 cd_11 ct_11),sl_11⟩)
  (c_11 : PySem.W.codeIn K cd_11 "_law_stands" = true)
  (k_11 : PySem.W.keepIn K (.ref f_11) = true)
  (a_36 : PySem.W.nsIn K mainGlobals "_law_standing" = some (some (.ref f_36)))
  (l_36 : K.lookup f_36 = some ⟨oc_36,od_36,.func (PySem.W.fnOf "_law_standing" "_law_standing" (zbd zi7) (za9 zi7) (zao zi7) .none kV_36 dc_36 pm_36 an_36 cd_36 ct_36),sl_36⟩)
  (c_36 : PySem.W.codeIn K cd_36 "_law_standing" = true)
  (k_36 : PySem.W.keepIn K (.ref f_36) = true)
  (a_37 : PySem.W.nsIn K mainGlobals "_law_again" = some (some (.ref f_37)))
  (l_37 : K.lookup f_37 = some ⟨oc_37,od_37,.func (PySem.W.fnOf "_law_again" "_law_again" (zbd zkr) (za9 zkr) (zao zkr) .none kV_37 dc_37 pm_37 an_37 cd_37 ct_37),sl_37⟩)
  (c_37 : PySem.W.codeIn K cd_37 "_law_again" = true)
  (k_37 : PySem.W.keepIn K (.ref f_37) = true)
  (a_24 : PySem.W.nsIn K mainGlobals "_law_begun" = some (some (.ref f_24)))
  (l_24 : K.lookup f_24 = some ⟨oc_24,od_24,.func (PySem.W.fnOf "_law_begun" "_law_begun" (zbd zkf) (za9 zkf) (zao zkf) .none kV_24 dc_24 pm_24 an_24 cd_24 ct_24),sl_24⟩)
  (c_24 : PySem.W.codeIn K cd_24 "_law_begun" = true)
  (k_24 : PySem.W.keepIn K (.ref f_24) = true)
  (a_25 : PySem.W.nsIn K mainGlobals "_law_line_right" = some (some (.ref f_25)))
  (l_25 : K.lookup f_25 = some ⟨oc_25,od_25,.func (PySem.W.fnOf "_law_line_right" "_law_line_right" (zbd zjv) (za9 zjv) (zao zjv) .none kV_25 dc_25 pm_25 an_25 cd_25 ct_25),sl_25⟩)
  (c_25 : PySem.W.codeIn K cd_25 "_law_line_right" = true)
  (k_25 : PySem.W.keepIn K (.ref f_25) = true)
  (a_38 : PySem.W.nsIn K mainGlobals "_law_paper_right" = some (some (.ref f_38)))
  (l_38 : K.lookup f_38 = some ⟨oc_38,od_38,.func (PySem.W.fnOf "_law_paper_right" "_law_paper_right" (zbd zj3) (za9 zj3) (zao zj3) .none kV_38 dc_38 pm_38 an_38 cd_38 ct_38),sl_38⟩)
  (c_38 : PySem.W.codeIn K cd_38 "_law_paper_right" = true)
  (k_38 : PySem.W.keepIn K (.ref f_38) = true)
  (a_12 : PySem.W.nsIn K mainGlobals "_law_other_line" = some (some (.ref f_12)))
  (l_12 : K.lookup f_12 = some ⟨oc_12,od_12,.func (PySem.W.fnOf "_law_other_line" "_law_other_line" (zbd zkq) (za9 zkq) (zao zkq) .none kV_12 dc_12 pm_12 an_12 cd_12 ct_12),sl_12⟩)
  (c_12 : PySem.W.codeIn K cd_12 "_law_other_line" = true)
  (k_12 : PySem.W.keepIn K (.ref f_12) = true)
  (a_15 : PySem.W.nsIn K mainGlobals "_law_spoiled" = some (some (.ref f_15)))
  (l_15 : K.lookup f_15 = some ⟨oc_15,od_15,.func (PySem.W.fnOf "_law_spoiled" "_law_spoiled" (zbd zje) (za9 zje) (zao zje) .none kV_15 dc_15 pm_15 an_15 cd_15 ct_15),sl_15⟩)
  (c_15 : PySem.W.codeIn K cd_15 "_law_spoiled" = true)
  (k_15 : PySem.W.keepIn K (.ref f_15) = true)
  (a_39 : PySem.W.nsIn K mainGlobals "_law_asked" = some (some (.ref f_39)))
  (l_39 : K.lookup f_39 = some ⟨oc_39,od_39,.func (PySem.W.fnOf "_law_asked" "_law_asked" (zbd zj7) (za9 zj7) (zao zj7) .none kV_39 dc_39 pm_39 an_39 cd_39 ct_39),sl_39⟩)
  (c_39 : PySem.W.codeIn K cd_39 "_law_asked" = true)
  (k_39 : PySem.W.keepIn K (.ref f_39) = true)
  (a_2 : PySem.W.nsIn K mainGlobals "law" = some (some (.ref f_2)))
  (l_2 : K.lookup f_2 = some ⟨oc_2,od_2,.func (PySem.W.fnOf "law" "law" (zbd s_2) (za9 s_2) (zao s_2) .none kV_2 dc_2 pm_2 an_2 cd_2 ct_2),sl_2⟩)
  (c_2 : PySem.W.codeIn K cd_2 "law" = true)
  (k_2 : PySem.W.keepIn K (.ref f_2) = true)
  (a_58 : PySem.W.findIn K (.ref C_In) "__init__" = some (some (.ref f_58)))
  (i_58 : PySem.W.isFn K (.ref f_58) = true)
  (l_58 : K.lookup f_58 = some ⟨oc_58,od_58,.func (PySem.W.fnOf "__init__" "In.__init__" (zbd zjp) (za9 zjp) (zao zjp) .none kV_58 dc_58 pm_58 an_58 cd_58 ct_58),sl_58⟩)
  (c_58 : PySem.W.codeIn K cd_58 "In.__init__" = true)
  (k_58 : PySem.W.keepIn K (.ref f_58) = true)
  (a_26 : PySem.W.findIn K (.ref C_In) "sure" = some (some (.ref f_26)))
  (i_26 : PySem.W.isFn K (.ref f_26) = true)
  (l_26 : K.lookup f_26 = some ⟨oc_26,od_26,.func (PySem.W.fnOf "sure" "In.sure" (zbd zko) (za9 zko) (zao zko) .none kV_26 dc_26 pm_26 an_26 cd_26 ct_26),sl_26⟩)
  (c_26 : PySem.W.codeIn K cd_26 "In.sure" = true)
  (k_26 : PySem.W.keepIn K (.ref f_26) = true)
  (a_16 : PySem.W.findIn K (.ref C_In) "lost" = some (some (.ref f_16)))
  (i_16 : PySem.W.isFn K (.ref f_16) = true)
  (l_16 : K.lookup f_16 = some ⟨oc_16,od_16,.func (PySem.W.fnOf "lost" "In.lost" (zbd zi2) (za9 zi2) (zao zi2) .none kV_16 dc_16 pm_16 an_16 cd_16 ct_16),sl_16⟩)
  (c_16 : PySem.W.codeIn K cd_16 "In.lost" = true)
  (k_16 : PySem.W.keepIn K (.ref f_16) = true)
  (a_59 : PySem.W.findIn K (.ref C_Out) "__init__" = some (some (.ref f_59)))
  (i_59 : PySem.W.isFn K (.ref f_59) = true)
  (l_59 : K.lookup f_59 = some ⟨oc_59,od_59,.func (PySem.W.fnOf "__init__" "Out.__init__" (zbd zi3) (za9 zi3) (zao zi3) .none kV_59 dc_59 pm_59 an_59 cd_59 ct_59),sl_59⟩)
  (c_59 : PySem.W.codeIn K cd_59 "Out.__init__" = true)
  (k_59 : PySem.W.keepIn K (.ref f_59) = true)
  (a_27 : PySem.W.findIn K (.ref C_Out) "sure" = some (some (.ref f_27)))
  (i_27 : PySem.W.isFn K (.ref f_27) = true)
  (l_27 : K.lookup f_27 = some ⟨oc_27,od_27,.func (PySem.W.fnOf "sure" "Out.sure" (zbd ziz) (za9 ziz) (zao ziz) .none kV_27 dc_27 pm_27 an_27 cd_27 ct_27),sl_27⟩)
  (c_27 : PySem.W.codeIn K cd_27 "Out.sure" = true)
  (k_27 : PySem.W.keepIn K (.ref f_27) = true)
  (a_17 : PySem.W.findIn K (.ref C_Out) "lost" = some (some (.ref f_17)))
  (i_17 : PySem.W.isFn K (.ref f_17) = true)
  (l_17 : K.lookup f_17 = some ⟨oc_17,od_17,.func (PySem.W.fnOf "lost" "Out.lost" (zbd zi4) (za9 zi4) (zao zi4) .none kV_17 dc_17 pm_17 an_17 cd_17 ct_17),sl_17⟩)
  (c_17 : PySem.W.codeIn K cd_17 "Out.lost" = true)
  (k_17 : PySem.W.keepIn K (.ref f_17) = true)
  (a_60 : PySem.W.findIn K (.ref C_Least) "__init__" = some (some (.ref f_60)))
  (i_60 : PySem.W.isFn K (.ref f_60) = true)
  (l_60 : K.lookup f_60 = some ⟨oc_60,od_60,.func (PySem.W.fnOf "__init__" "Least.__init__" (zbd zky) (za9 zky) (zao zky) .none kV_60 dc_60 pm_60 an_60 cd_60 ct_60),sl_60⟩)
  (c_60 : PySem.W.codeIn K cd_60 "Least.__init__" = true)
  (k_60 : PySem.W.keepIn K (.ref f_60) = true)
  (a_28 : PySem.W.findIn K (.ref C_Least) "sure" = some (some (.ref f_28)))
  (i_28 : PySem.W.isFn K (.ref f_28) = true)
  (l_28 : K.lookup f_28 = some ⟨oc_28,od_28,.func (PySem.W.fnOf "sure" "Least.sure" (zbd zkl) (za9 zkl) (zao zkl) .none kV_28 dc_28 pm_28 an_28 cd_28 ct_28),sl_28⟩)
  (c_28 : PySem.W.codeIn K cd_28 "Least.sure" = true)
  (k_28 : PySem.W.keepIn K (.ref f_28) = true)
  (a_18 : PySem.W.findIn K (.ref C_Least) "lost" = some (some (.ref f_18)))
  (i_18 : PySem.W.isFn K (.ref f_18) = true)
  (l_18 : K.lookup f_18 = some ⟨oc_18,od_18,.func (PySem.W.fnOf "lost" "Least.lost" (zbd zka) (za9 zka) (zao zka) .none kV_18 dc_18 pm_18 an_18 cd_18 ct_18),sl_18⟩)
  (c_18 : PySem.W.codeIn K cd_18 "Least.lost" = true)
  (k_18 : PySem.W.keepIn K (.ref f_18) = true)
  (a_61 : PySem.W.findIn K (.ref C_Most) "__init__" = some (some (.ref f_61)))
  (i_61 : PySem.W.isFn K (.ref f_61) = true)
  (l_61 : K.lookup f_61 = some ⟨oc_61,od_61,.func (PySem.W.fnOf "__init__" "Most.__init__" (zbd zj1) (za9 zj1) (zao zj1) .none kV_61 dc_61 pm_61 an_61 cd_61 ct_61),sl_61⟩)
  (c_61 : PySem.W.codeIn K cd_61 "Most.__init__" = true)
  (k_61 : PySem.W.keepIn K (.ref f_61) = true)
  (a_29 : PySem.W.findIn K (.ref C_Most) "sure" = some (some (.ref f_29)))
  (i_29 : PySem.W.isFn K (.ref f_29) = true)
  (l_29 : K.lookup f_29 = some ⟨oc_29,od_29,.func (PySem.W.fnOf "sure" "Most.sure" (zbd zj9) (za9 zj9) (zao zj9) .none kV_29 dc_29 pm_29 an_29 cd_29 ct_29),sl_29⟩)
  (c_29 : PySem.W.codeIn K cd_29 "Most.sure" = true)
  (k_29 : PySem.W.keepIn K (.ref f_29) = true)
  (a_19 : PySem.W.findIn K (.ref C_Most) "lost" = some (some (.ref f_19)))
  (i_19 : PySem.W.isFn K (.ref f_19) = true)
  (l_19 : K.lookup f_19 = some ⟨oc_19,od_19,.func (PySem.W.fnOf "lost" "Most.lost" (zbd zkk) (za9 zkk) (zao zkk) .none kV_19 dc_19 pm_19 an_19 cd_19 ct_19),sl_19⟩)
  (c_19 : PySem.W.codeIn K cd_19 "Most.lost" = true)
  (k_19 : PySem.W.keepIn K (.ref f_19) = true)
  (pg_In : PySem.W.plainGet K C_In Str.empty = true)
  (hd_In : PySem.W.hasDictIn K C_In = true)
  (po_In : PySem.W.plainOver K C_In = true)
  (sa_In : PySem.W.findIn K (.ref C_In) "__setattr__" = some (some (.builtin "object.__setattr__")))
  (mk_In : PySem.W.makesIn K C_In = true)
  (kc_In : PySem.W.keepIn K (.ref C_In) = true)
  (na_In_thing : PySem.W.findIn K (.ref C_In) "thing" = some none)
  (pg_Out : PySem.W.plainGet K C_Out Str.empty = true)
  (hd_Out : PySem.W.hasDictIn K C_Out = true)
  (po_Out : PySem.W.plainOver K C_Out = true)
  (sa_Out : PySem.W.findIn K (.ref C_Out) "__setattr__" = some (some (.builtin "object.__setattr__")))
  (mk_Out : PySem.W.makesIn K C_Out = true)
  (kc_Out : PySem.W.keepIn K (.ref C_Out) = true)
  (na_Out_thing : PySem.W.findIn K (.ref C_Out) "thing" = some none)
  (pg_Least : PySem.W.plainGet K C_Least Str.empty = true)
  (hd_Least : PySem.W.hasDictIn K C_Least = true)
  (po_Least : PySem.W.plainOver K C_Least = true)
  (sa_Least : PySem.W.findIn K (.ref C_Least) "__setattr__" = some (some (.builtin "object.__setattr__")))
  (mk_Least : PySem.W.makesIn K C_Least = true)
  (kc_Least : PySem.W.keepIn K (.ref C_Least) = true)
  (na_Least_bound : PySem.W.findIn K (.ref C_Least) "bound" = some none)
  (na_Least_pieces : PySem.W.findIn K (.ref C_Least) "pieces" = some none)
  (pg_Most : PySem.W.plainGet K C_Most Str.empty = true)
  (hd_Most : PySem.W.hasDictIn K C_Most = true)
  (po_Most : PySem.W.plainOver K C_Most = true)
  (sa_Most : PySem.W.findIn K (.ref C_Most) "__setattr__" = some (some (.builtin "object.__setattr__")))
  (mk_Most : PySem.W.makesIn K C_Most = true)
  (kc_Most : PySem.W.keepIn K (.ref C_Most) = true)
  (na_Most_bound : PySem.W.findIn K (.ref C_Most) "bound" = some none)
  (na_Most_pieces : PySem.W.findIn K (.ref C_Most) "pieces" = some none)
  (kt_NoneType_bool : PySem.W.kitOne K (.type "NoneType") (.type "bool") = some false)
  (kt_bool_bool : PySem.W.kitOne K (.type "bool") (.type "bool") = some true)
  (kt_int_bool : PySem.W.kitOne K (.type "int") (.type "bool") = some false)
  (kt_str_bool : PySem.W.kitOne K (.type "str") (.type "bool") = some false)
  (kt_list_bool : PySem.W.kitOne K (.type "list") (.type "bool") = some false)
  (kt_tuple_bool : PySem.W.kitOne K (.type "tuple") (.type "bool") = some false)
  (kt_dict_bool : PySem.W.kitOne K (.type "dict") (.type "bool") = some false)
  (z_all : PySem.W.nsIn K mainGlobals "all" = some none)
  (z_any : PySem.W.nsIn K mainGlobals "any" = some none)
  (z_bool : PySem.W.nsIn K mainGlobals "bool" = some none)
  (z_enumerate : PySem.W.nsIn K mainGlobals "enumerate" = some none)
  (z_isinstance : PySem.W.nsIn K mainGlobals "isinstance" = some none)
  (z_len : PySem.W.nsIn K mainGlobals "len" = some none)
  (z_list : PySem.W.nsIn K mainGlobals "list" = some none)
  (z_range : PySem.W.nsIn K mainGlobals "range" = some none)
  (z_set : PySem.W.nsIn K mainGlobals "set" = some none)
  (z_sorted : PySem.W.nsIn K mainGlobals "sorted" = some none)
  (z_sum : PySem.W.nsIn K mainGlobals "sum" = some none)
  : ∃ fd : FuncData,(∀ (s : Shared) (v : Value),BindsTo s fd ⟨[v],[]⟩ [("_law_script",v)]) /\ ∃ a : Wa,∃ W : Wd K mg a,a.f_2 = fa /\ a.fd_2 = fd:=by
 have e:=hfa.symm.trans (PySem.W.mg_of X G a_2)
 cases e
 have F_8:=zbm (st:=s_8) l_8 c_8 k_8
 have F_48:=zbm (st:=zjh) l_48 c_48 k_48
 have F_30:=zbm (st:=zjf) l_30 c_30 k_30
 have F_20:=zbm (st:=zjc) l_20 c_20 k_20
 have F_51:=zbm (st:=zke) l_51 c_51 k_51
 have F_31:=zbm (st:=zkn) l_31 c_31 k_31
 have F_52:=zbm (st:=zk3) l_52 c_52 k_52
 have F_53:=zbm (st:=zjj) l_53 c_53 k_53
 have F_54:=zbm (st:=zkv) l_54 c_54 k_54
 have F_44:=zbm (st:=zjd) l_44 c_44 k_44
 have F_45:=zbm (st:=zku) l_45 c_45 k_45
 have F_55:=zbm (st:=zjx) l_55 c_55 k_55
 have F_13:=zbm (st:=zk0) l_13 c_13 k_13
 have F_4:=zbm (st:=s_4) l_4 c_4 k_4
 have F_46:=zbm (st:=zk2) l_46 c_46 k_46
 have F_56:=zbm (st:=zkt) l_56 c_56 k_56
 have F_47:=zbm (st:=zjn) l_47 c_47 k_47
 have F_40:=zbm (st:=zi1) l_40 c_40 k_40
 have F_32:=zbm (st:=zk6) l_32 c_32 k_32
 have F_33:=zbm (st:=zji) l_33 c_33 k_33
 have F_41:=zbm (st:=zi5) l_41 c_41 k_41
 have F_5:=zbm (st:=s_5) l_5 c_5 k_5
 have F_0:=zbm (st:=s_0) l_0 c_0 k_0
 have F_42:=zbm (st:=zkh) l_42 c_42 k_42
 have F_34:=zbm (st:=zi9) l_34 c_34 k_34
 have F_43:=zbm (st:=zk4) l_43 c_43 k_43
 have F_21:=zbm (st:=zki) l_21 c_21 k_21
 have F_9:=zbm (st:=s_9) l_9 c_9 k_9
 have F_49:=zbm (st:=zk9) l_49 c_49 k_49
 have F_6:=zbm (st:=s_6) l_6 c_6 k_6
 have F_50:=zbm (st:=zjz) l_50 c_50 k_50
 have F_22:=zbm (st:=zkx) l_22 c_22 k_22
 have F_14:=zbm (st:=zkw) l_14 c_14 k_14
 have F_35:=zbm (st:=zjb) l_35 c_35 k_35
 have F_3:=zbm (st:=s_3) l_3 c_3 k_3
 have F_7:=zbm (st:=s_7) l_7 c_7 k_7
 have F_23:=zbm (st:=zj2) l_23 c_23 k_23
 have F_10:=zbm (st:=zj8) l_10 c_10 k_10
 have F_1:=zbm (st:=s_1) l_1 c_1 k_1
 have F_57:=zbm (st:=zj0) l_57 c_57 k_57
 have F_11:=zbm (st:=zjs) l_11 c_11 k_11
 have F_36:=zbm (st:=zi7) l_36 c_36 k_36
 have F_37:=zbm (st:=zkr) l_37 c_37 k_37
 have F_24:=zbm (st:=zkf) l_24 c_24 k_24
 have F_25:=zbm (st:=zjv) l_25 c_25 k_25
 have F_38:=zbm (st:=zj3) l_38 c_38 k_38
 have F_12:=zbm (st:=zkq) l_12 c_12 k_12
 have F_15:=zbm (st:=zje) l_15 c_15 k_15
 have F_39:=zbm (st:=zj7) l_39 c_39 k_39
 have F_2:=zbm (st:=s_2) l_2 c_2 k_2
 have F_58:=zbm (st:=zjp) l_58 c_58 k_58
 have F_26:=zbm (st:=zko) l_26 c_26 k_26
 have F_16:=zbm (st:=zi2) l_16 c_16 k_16
 have F_59:=zbm (st:=zi3) l_59 c_59 k_59
 have F_27:=zbm (st:=ziz) l_27 c_27 k_27
 have F_17:=zbm (st:=zi4) l_17 c_17 k_17
 have F_60:=zbm (st:=zky) l_60 c_60 k_60
 have F_28:=zbm (st:=zkl) l_28 c_28 k_28
 have F_18:=zbm (st:=zka) l_18 c_18 k_18
 have F_61:=zbm (st:=zj1) l_61 c_61 k_61
 have F_29:=zbm (st:=zj9) l_29 c_29 k_29
 have F_19:=zbm (st:=zkk) l_19 c_19 k_19
 exact ⟨PySem.W.fnOf "law" "law" (zbd s_2) (za9 s_2) (zao s_2) .none kV_2 dc_2 pm_2 an_2 cd_2 ct_2,fun s v=>.of_eq rfl,{
  f_8:=f_8,
  fd_8:=_,
  f_48:=f_48,
  fd_48:=_,
  f_30:=f_30,
  fd_30:=_,
  f_20:=f_20,
  fd_20:=_,
  f_51:=f_51,
  fd_51:=_,
  f_31:=f_31,
  fd_31:=_,
  f_52:=f_52,
  fd_52:=_,
  f_53:=f_53,
  fd_53:=_,
  f_54:=f_54,
  fd_54:=_,
  f_44:=f_44,
  fd_44:=_,
  f_45:=f_45,
  fd_45:=_,
  f_55:=f_55,
  fd_55:=_,
  f_13:=f_13,
  fd_13:=_,
  f_4:=f_4,
  fd_4:=_,
  f_46:=f_46,
  fd_46:=_,
  f_56:=f_56,
  fd_56:=_,
  f_47:=f_47,
  fd_47:=_,
  f_40:=f_40,
  fd_40:=_,
  f_32:=f_32,
  fd_32:=_,
  f_33:=f_33,
  fd_33:=_,
  f_41:=f_41,
  fd_41:=_,
  f_5:=f_5,
  fd_5:=_,
  f_0:=f_0,
  fd_0:=_,
  f_42:=f_42,
  fd_42:=_,
  f_34:=f_34,
  fd_34:=_,
  f_43:=f_43,
  fd_43:=_,
  f_21:=f_21,
  fd_21:=_,
  f_9:=f_9,
  fd_9:=_,
  f_49:=f_49,
  fd_49:=_,
  f_6:=f_6,
  fd_6:=_,
  f_50:=f_50,
  fd_50:=_,
  f_22:=f_22,
  fd_22:=_,
  f_14:=f_14,
  fd_14:=_,
  f_35:=f_35,
  fd_35:=_,
  f_3:=f_3,
  fd_3:=_,
  f_7:=f_7,
  fd_7:=_,
  f_23:=f_23,
  fd_23:=_,
  f_10:=f_10,
  fd_10:=_,
  f_1:=f_1,
  fd_1:=_,
  f_57:=f_57,
  fd_57:=_,
  f_11:=f_11,
  fd_11:=_,
  f_36:=f_36,
  fd_36:=_,
  f_37:=f_37,
  fd_37:=_,
  f_24:=f_24,
  fd_24:=_,
  f_25:=f_25,
  fd_25:=_,
  f_38:=f_38,
  fd_38:=_,
  f_12:=f_12,
  fd_12:=_,
  f_15:=f_15,
  fd_15:=_,
  f_39:=f_39,
  fd_39:=_,
  f_2:=f_2,
  fd_2:=_,
  f_58:=f_58,
  fd_58:=_,
  f_26:=f_26,
  fd_26:=_,
  f_16:=f_16,
  fd_16:=_,
  f_59:=f_59,
  fd_59:=_,
  f_27:=f_27,
  fd_27:=_,
  f_17:=f_17,
  fd_17:=_,
  f_60:=f_60,
  fd_60:=_,
  f_28:=f_28,
  fd_28:=_,
  f_18:=f_18,
  fd_18:=_,
  f_61:=f_61,
  fd_61:=_,
  f_29:=f_29,
  fd_29:=_,
  f_19:=f_19,
  fd_19:=_,
  C_In:=C_In,
  C_Out:=C_Out,
  C_Least:=C_Least,
  C_Most:=C_Most },{
  F_8:=F_8,
  b_8:=F_8.binds fun _ _ _ _ _ _ us hl=>by
   revert us hl
   exact zcv fun _ _=>rfl,
  g_8:=PySem.W.mg_of X G a_8,
  F_48:=F_48,
  b_48:=F_48.binds fun _ _ _ _ _ _ us hl=>by
   revert us hl
   exact zkp fun _=>rfl,
  g_48:=PySem.W.mg_of X G a_48,
  F_30:=F_30,
  b_30:=F_30.binds fun _ _ _ _ _ _ us hl=>by
   revert us hl
   exact zcv fun _ _=>rfl,
  g_30:=PySem.W.mg_of X G a_30,
  F_20:=F_20,
  b_20:=F_20.binds fun _ _ _ _ _ _ us hl=>by
   revert us hl
   exact zcv fun _ _=>rfl,
  g_20:=PySem.W.mg_of X G a_20,
  F_51:=F_51,
  b_51:=F_51.binds fun _ _ _ _ _ _ us hl=>by
   revert us hl
   exact zcv fun _ _=>rfl,
  g_51:=PySem.W.mg_of X G a_51,
  F_31:=F_31,
  b_31:=F_31.binds fun _ _ _ _ _ _ us hl=>by
   revert us hl
   exact zkp fun _=>rfl,
  g_31:=PySem.W.mg_of X G a_31,
  F_52:=F_52,
  b_52:=F_52.binds fun _ _ _ _ _ _ us hl=>by
   revert us hl
   exact zcv fun _ _=>rfl,
  g_52:=PySem.W.mg_of X G a_52,
  F_53:=F_53,
  b_53:=F_53.binds fun _ _ _ _ _ _ us hl=>by
   revert us hl
   exact zeg fun _ _ _=>rfl,
  g_53:=PySem.W.mg_of X G a_53,
  F_54:=F_54,
  b_54:=F_54.binds fun _ _ _ _ _ _ us hl=>by
   revert us hl
   exact zcv fun _ _=>rfl,
  g_54:=PySem.W.mg_of X G a_54,
  F_44:=F_44,
  b_44:=F_44.binds fun _ _ _ _ _ _ us hl=>by
   revert us hl
   exact zeg fun _ _ _=>rfl,
  g_44:=PySem.W.mg_of X G a_44,
  F_45:=F_45,
  b_45:=F_45.binds fun _ _ _ _ _ _ us hl=>by
   revert us hl
   exact zeg fun _ _ _=>rfl,
  g_45:=PySem.W.mg_of X G a_45,
  F_55:=F_55,
  b_55:=F_55.binds fun _ _ _ _ _ _ us hl=>by
   revert us hl
   exact zcv fun _ _=>rfl,
  g_55:=PySem.W.mg_of X G a_55,
  F_13:=F_13,
  b_13:=F_13.binds fun _ _ _ _ _ _ us hl=>by
   revert us hl
   exact zjo fun _ _ _ _ _=>rfl,
  g_13:=PySem.W.mg_of X G a_13,
  F_4:=F_4,
  b_4:=F_4.binds fun _ _ _ _ _ _ us hl=>by
   revert us hl
   exact zcv fun _ _=>rfl,
  g_4:=PySem.W.mg_of X G a_4,
  F_46:=F_46,
  b_46:=F_46.binds fun _ _ _ _ _ _ us hl=>by
   revert us hl
   exact zeg fun _ _ _=>rfl,
  g_46:=PySem.W.mg_of X G a_46,
  F_56:=F_56,
  b_56:=F_56.binds fun _ _ _ _ _ _ us hl=>by
   revert us hl
   exact zcv fun _ _=>rfl,
  g_56:=PySem.W.mg_of X G a_56,
  F_47:=F_47,
  b_47:=F_47.binds fun _ _ _ _ _ _ us hl=>by
   revert us hl
   exact zjo fun _ _ _ _ _=>rfl,
  g_47:=PySem.W.mg_of X G a_47,
  F_40:=F_40,
  b_40:=F_40.binds fun _ _ _ _ _ _ us hl=>by
   revert us hl
   exact zmj fun _ _ _ _=>rfl,
  g_40:=PySem.W.mg_of X G a_40,
  F_32:=F_32,
  b_32:=F_32.binds fun _ _ _ _ _ _ us hl=>by
   revert us hl
   exact zcv fun _ _=>rfl,
  g_32:=PySem.W.mg_of X G a_32,
  F_33:=F_33,
  b_33:=F_33.binds fun _ _ _ _ _ _ us hl=>by
   revert us hl
   exact zjo fun _ _ _ _ _=>rfl,
  g_33:=PySem.W.mg_of X G a_33,
  F_41:=F_41,
  b_41:=F_41.binds fun _ _ _ _ _ _ us hl=>by
   revert us hl
   exact zeg fun _ _ _=>rfl,
  g_41:=PySem.W.mg_of X G a_41,
  F_5:=F_5,
  b_5:=F_5.binds fun _ _ _ _ _ _ us hl=>by
   revert us hl
   exact zcv fun _ _=>rfl,
  g_5:=PySem.W.mg_of X G a_5,
  F_0:=F_0,
  b_0:=F_0.binds fun _ _ _ _ _ _ us hl=>by
   revert us hl
   exact zcv fun _ _=>rfl,
  g_0:=PySem.W.mg_of X G a_0,
  F_42:=F_42,
  b_42:=F_42.binds fun _ _ _ _ _ _ us hl=>by
   revert us hl
   exact zkp fun _=>rfl,
  g_42:=PySem.W.mg_of X G a_42,
  F_34:=F_34,
  b_34:=F_34.binds fun _ _ _ _ _ _ us hl=>by
   revert us hl
   exact zcv fun _ _=>rfl,
  g_34:=PySem.W.mg_of X G a_34,
  F_43:=F_43,
  b_43:=F_43.binds fun _ _ _ _ _ _ us hl=>by
   revert us hl
   exact zeg fun _ _ _=>rfl,
  g_43:=PySem.W.mg_of X G a_43,
  F_21:=F_21,
  b_21:=F_21.binds fun _ _ _ _ _ _ us hl=>by
   revert us hl
   exact zcv fun _ _=>rfl,
  g_21:=PySem.W.mg_of X G a_21,
  F_9:=F_9,
  b_9:=F_9.binds fun _ _ _ _ _ _ us hl=>by
   revert us hl
   exact zkp fun _=>rfl,
  g_9:=PySem.W.mg_of X G a_9,
  F_49:=F_49,
  b_49:=F_49.binds fun _ _ _ _ _ _ us hl=>by
   revert us hl
   exact zcv fun _ _=>rfl,
  g_49:=PySem.W.mg_of X G a_49,
  F_6:=F_6,
  b_6:=F_6.binds fun _ _ _ _ _ _ us hl=>by
   revert us hl
   exact zcv fun _ _=>rfl,
  g_6:=PySem.W.mg_of X G a_6,
  F_50:=F_50,
  b_50:=F_50.binds fun _ _ _ _ _ _ us hl=>by
   revert us hl
   exact zeg fun _ _ _=>rfl,
  g_50:=PySem.W.mg_of X G a_50,
  F_22:=F_22,
  b_22:=F_22.binds fun _ _ _ _ _ _ us hl=>by
   revert us hl
   exact zeg fun _ _ _=>rfl,
  g_22:=PySem.W.mg_of X G a_22,
  F_14:=F_14,
  b_14:=F_14.binds fun _ _ _ _ _ _ us hl=>by
   revert us hl
   exact zcv fun _ _=>rfl,
  g_14:=PySem.W.mg_of X G a_14,
  F_35:=F_35,
  b_35:=F_35.binds fun _ _ _ _ _ _ us hl=>by
   revert us hl
   exact zcv fun _ _=>rfl,
  g_35:=PySem.W.mg_of X G a_35,
  F_3:=F_3,
  b_3:=F_3.binds fun _ _ _ _ _ _ us hl=>by
   revert us hl
   exact zjo fun _ _ _ _ _=>rfl,
  g_3:=PySem.W.mg_of X G a_3,
  F_7:=F_7,
  b_7:=F_7.binds fun _ _ _ _ _ _ us hl=>by
   revert us hl
   exact zeg fun _ _ _=>rfl,
  g_7:=PySem.W.mg_of X G a_7,
  F_23:=F_23,
  b_23:=F_23.binds fun _ _ _ _ _ _ us hl=>by
   revert us hl
   exact zmj fun _ _ _ _=>rfl,
  g_23:=PySem.W.mg_of X G a_23,
  F_10:=F_10,
  b_10:=F_10.binds fun _ _ _ _ _ _ us hl=>by
   revert us hl
   exact zjo fun _ _ _ _ _=>rfl,
  g_10:=PySem.W.mg_of X G a_10,
  F_1:=F_1,
  b_1:=F_1.binds fun _ _ _ _ _ _ us hl=>by
   revert us hl
   exact z46 fun _ _ _ _ _ _=>rfl,
  g_1:=PySem.W.mg_of X G a_1,
  F_57:=F_57,
  b_57:=F_57.binds fun _ _ _ _ _ _ us hl=>by
   revert us hl
   exact zeg fun _ _ _=>rfl,
  g_57:=PySem.W.mg_of X G a_57,
  F_11:=F_11,
  b_11:=F_11.binds fun _ _ _ _ _ _ us hl=>by
   revert us hl
   exact zcv fun _ _=>rfl,
  g_11:=PySem.W.mg_of X G a_11,
  F_36:=F_36,
  b_36:=F_36.binds fun _ _ _ _ _ _ us hl=>by
   revert us hl
   exact zcv fun _ _=>rfl,
  g_36:=PySem.W.mg_of X G a_36,
  F_37:=F_37,
  b_37:=F_37.binds fun _ _ _ _ _ _ us hl=>by
   revert us hl
   exact zkp fun _=>rfl,
  g_37:=PySem.W.mg_of X G a_37,
  F_24:=F_24,
  b_24:=F_24.binds fun _ _ _ _ _ _ us hl=>by
   revert us hl
   exact zcv fun _ _=>rfl,
  g_24:=PySem.W.mg_of X G a_24,
  F_25:=F_25,
  b_25:=F_25.binds fun _ _ _ _ _ _ us hl=>by
   revert us hl
   exact zjo fun _ _ _ _ _=>rfl,
  g_25:=PySem.W.mg_of X G a_25,
  F_38:=F_38,
  b_38:=F_38.binds fun _ _ _ _ _ _ us hl=>by
   revert us hl
   exact zmj fun _ _ _ _=>rfl,
  g_38:=PySem.W.mg_of X G a_38,
  F_12:=F_12,
  b_12:=F_12.binds fun _ _ _ _ _ _ us hl=>by
   revert us hl
   exact zcv fun _ _=>rfl,
  g_12:=PySem.W.mg_of X G a_12,
  F_15:=F_15,
  b_15:=F_15.binds fun _ _ _ _ _ _ us hl=>by
   revert us hl
   exact zmj fun _ _ _ _=>rfl,
  g_15:=PySem.W.mg_of X G a_15,
  F_39:=F_39,
  b_39:=F_39.binds fun _ _ _ _ _ _ us hl=>by
   revert us hl
   exact zmj fun _ _ _ _=>rfl,
  g_39:=PySem.W.mg_of X G a_39,
  F_2:=F_2,
  b_2:=F_2.binds fun _ _ _ _ _ _ us hl=>by
   revert us hl
   exact zkp fun _=>rfl,
  g_2:=PySem.W.mg_of X G a_2,
  F_58:=F_58,
  b_58:=F_58.binds fun _ _ _ _ _ _ us hl=>by
   revert us hl
   exact zcv fun _ _=>rfl,
  F_26:=F_26,
  b_26:=F_26.binds fun _ _ _ _ _ _ us hl=>by
   revert us hl
   exact zcv fun _ _=>rfl,
  F_16:=F_16,
  b_16:=F_16.binds fun _ _ _ _ _ _ us hl=>by
   revert us hl
   exact zeg fun _ _ _=>rfl,
  F_59:=F_59,
  b_59:=F_59.binds fun _ _ _ _ _ _ us hl=>by
   revert us hl
   exact zcv fun _ _=>rfl,
  F_27:=F_27,
  b_27:=F_27.binds fun _ _ _ _ _ _ us hl=>by
   revert us hl
   exact zcv fun _ _=>rfl,
  F_17:=F_17,
  b_17:=F_17.binds fun _ _ _ _ _ _ us hl=>by
   revert us hl
   exact zeg fun _ _ _=>rfl,
  F_60:=F_60,
  b_60:=F_60.binds fun _ _ _ _ _ _ us hl=>by
   revert us hl
   exact zeg fun _ _ _=>rfl,
  F_28:=F_28,
  b_28:=F_28.binds fun _ _ _ _ _ _ us hl=>by
   revert us hl
   exact zcv fun _ _=>rfl,
  F_18:=F_18,
  b_18:=F_18.binds fun _ _ _ _ _ _ us hl=>by
   revert us hl
   exact zeg fun _ _ _=>rfl,
  F_61:=F_61,
  b_61:=F_61.binds fun _ _ _ _ _ _ us hl=>by
   revert us hl
   exact zeg fun _ _ _=>rfl,
  F_29:=F_29,
  b_29:=F_29.binds fun _ _ _ _ _ _ us hl=>by
   revert us hl
   exact zcv fun _ _=>rfl,
  F_19:=F_19,
  b_19:=F_19.binds fun _ _ _ _ _ _ us hl=>by
   revert us hl
   exact zeg fun _ _ _=>rfl,
  g_In:=PySem.W.mg_of X G aC_In,
  cl_In:=⟨pg_In,hd_In,po_In,sa_In⟩,
  mk_In:=⟨mk_In,a_58,i_58,kc_In⟩,
  na_In_thing:=na_In_thing,
  m_26:=⟨a_26,i_26,k_26⟩,
  m_16:=⟨a_16,i_16,k_16⟩,
  g_Out:=PySem.W.mg_of X G aC_Out,
  cl_Out:=⟨pg_Out,hd_Out,po_Out,sa_Out⟩,
  mk_Out:=⟨mk_Out,a_59,i_59,kc_Out⟩,
  na_Out_thing:=na_Out_thing,
  m_27:=⟨a_27,i_27,k_27⟩,
  m_17:=⟨a_17,i_17,k_17⟩,
  g_Least:=PySem.W.mg_of X G aC_Least,
  cl_Least:=⟨pg_Least,hd_Least,po_Least,sa_Least⟩,
  mk_Least:=⟨mk_Least,a_60,i_60,kc_Least⟩,
  na_Least_bound:=na_Least_bound,
  na_Least_pieces:=na_Least_pieces,
  m_28:=⟨a_28,i_28,k_28⟩,
  m_18:=⟨a_18,i_18,k_18⟩,
  g_Most:=PySem.W.mg_of X G aC_Most,
  cl_Most:=⟨pg_Most,hd_Most,po_Most,sa_Most⟩,
  mk_Most:=⟨mk_Most,a_61,i_61,kc_Most⟩,
  na_Most_bound:=na_Most_bound,
  na_Most_pieces:=na_Most_pieces,
  m_29:=⟨a_29,i_29,k_29⟩,
  m_19:=⟨a_19,i_19,k_19⟩,
  kt_NoneType_bool:=kt_NoneType_bool,
  kt_bool_bool:=kt_bool_bool,
  kt_int_bool:=kt_int_bool,
  kt_str_bool:=kt_str_bool,
  kt_list_bool:=kt_list_bool,
  kt_tuple_bool:=kt_tuple_bool,
  kt_dict_bool:=kt_dict_bool,
  z_all:=PySem.W.mg_none_of X G z_all,
  z_any:=PySem.W.mg_none_of X G z_any,
  z_bool:=PySem.W.mg_none_of X G z_bool,
  z_enumerate:=PySem.W.mg_none_of X G z_enumerate,
  z_isinstance:=PySem.W.mg_none_of X G z_isinstance,
  z_len:=PySem.W.mg_none_of X G z_len,
  z_list:=PySem.W.mg_none_of X G z_list,
  z_range:=PySem.W.mg_none_of X G z_range,
  z_set:=PySem.W.mg_none_of X G z_set,
  z_sorted:=PySem.W.mg_none_of X G z_sorted,
  z_sum:=PySem.W.mg_none_of X G z_sum },rfl,rfl⟩
end
end N_k42
theorem PySem.W.Fast.te18437262256937762003 : True:=trivial
theorem PySem.W.Fast.te9174462475327741883 : True:=trivial
theorem PySem.W.Fast.te5759161587270235450 : True:=trivial
theorem PySem.W.Fast.te10224862649711060071 : True:=trivial
theorem PySem.W.Fast.te14142267159753262855 : True:=trivial
theorem PySem.W.Fast.te10121767528541682637 : True:=trivial
theorem PySem.W.Fast.te14387410904086051332 : True:=trivial
theorem PySem.W.Fast.te16359319178137562470 : True:=trivial
theorem PySem.W.Fast.te3062155283589073332 : True:=trivial
theorem PySem.W.Fast.te10833073045457730872 : True:=trivial
theorem PySem.W.Fast.te2263503817189501728 : True:=trivial
theorem PySem.W.Fast.te10869582545338151094 : True:=trivial
theorem PySem.W.Fast.te11240324981354567138 : True:=trivial
theorem PySem.W.Fast.te13045470127801747048 : True:=trivial
theorem PySem.W.Fast.te8580516435563641502 : True:=trivial
open PySem PySem.W PyProof.Rows
set_option maxRecDepth 100000 in
set_option maxHeartbeats 0 in
theorem PySem.Challenge.cw_standstill_k42_a_paper_holds : PySem.Challenge.rw_standstill_k42_a_paper.Holds := by
 w_on; o_law; k_head; (case hw=>w_witness2)
 k_fill
 refine L2.walk_ofK (l:=PySem.Challenge.rw_standstill_k42_a_paper) (n:=63) (k:=15) (x:="_law_script") (CX:=L2.CX0) (sp:=N_k42.sp_law) rfl (by decide) rfl ⟨rfl,by decide,by decide⟩ (fun w h Y=>PySem.W.kIn_of Y) ?F (fun _ _ a ns hl _ hS=>N_k42.sp_law_of hl hS) (fun _ _ _ _ z=>z)
 case F =>
  intro w mg fa h KX G hmg
  have TT : ∃ fd : FuncData,(∀ (s : Shared) (v : Value),BindsTo s fd ⟨[v],[]⟩ [("_law_script",v)]) /\ ∃ a : N_k42.Wa,∃ W : N_k42.Wd (L2.KOf KX) mg a,a.f_2 = fa /\ a.fd_2 = fd:=by
   dsimp only [L2.KOf]
   refine' N_k42.all_mk (l:=PySem.Challenge.rw_standstill_k42_a_paper) (w:=w) KX G hmg ..
   all_goals first | k_is | kit_is | skip
  obtain ⟨fd,hb,a,W,e1,e2⟩:=TT
  subst e1 e2
  exact ⟨_,hb,fun base kb nb=>N_k42.law_ok W⟩
