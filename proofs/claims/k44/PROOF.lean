import PyProof.Rows.All
import Wide.All
import OpenK.AllK
import Wide.FinOn
import Lean
import PyProof.EqAt
import PyProof.EqKinds
import PyProof.TupleCall
import PyProof.NeKinds
import PySem.Challenge.RW_standstill_k44_total_sheets
set_option Elab.async false
set_option genSizeOf false
set_option linter.all false
set_option maxRecDepth 100000
namespace L2
open PySem PySem.Spec PyProof.Rows
noncomputable abbrev Key:=Sum Int Str
noncomputable def zjp : Key -> Value -> Bool
 | .inl k,v=>Value.isInt k v
 | .inr x,v=>Value.isStrOf x v
noncomputable def z07 (w : World) : Key -> Int
 | .inl k=>hashInt k
 | .inr x=>hashStr w x
theorem zge : ∀ {k : Key} {v : Value},zjp k v = true -> (∃ i t,k = Sum.inl i /\ v = Value.int i t) \/ (∃ x t,k = Sum.inr x /\ v = Value.str x t)
 | .inl i,v,h=>by
  obtain ⟨t,e⟩:=Value.isInt_shape (k:=i) (v:=v) h
  exact .inl ⟨i,t,rfl,e⟩
 | .inr x,v,h=>by
  obtain ⟨t,e⟩:=Value.isStrOf_shape (x:=x) (v:=v) h
  exact .inr ⟨x,t,rfl,e⟩
theorem z0f (i : Int) (t : Tok) : zjp (.inl i) (.int i t) = true:=by simp [zjp,Value.isInt]
theorem zz9 (x : Str) (t : Tok) : zjp (.inr x) (.str x t) = true:=by simp [zjp,Value.isStrOf]
theorem zzf (a b : Int) : decide ((Sum.inl a : Key) = Sum.inl b) = (a == b):=by
 by_cases e : a = b
 ·subst e; simp
 ·have h : ¬ (Sum.inl a : Key) = Sum.inl b:=fun q=>e (Sum.inl.inj q)
  rw [decide_eq_false h]
  exact (beq_eq_false_iff_ne.mpr e).symm
theorem zy2 (a b : Str) : decide ((Sum.inr a : Key) = Sum.inr b) = decide (a = b):=by
 by_cases e : a = b
 ·subst e; simp
 ·have h : ¬ (Sum.inr a : Key) = Sum.inr b:=fun q=>e (Sum.inr.inj q)
  rw [decide_eq_false h,decide_eq_false e]
theorem z63 (a : Int) (b : Str) : decide ((Sum.inl a : Key) = Sum.inr b) = false:=decide_eq_false (fun q=>nomatch q)
theorem z60 (a : Str) (b : Int) : decide ((Sum.inr a : Key) = Sum.inl b) = false:=decide_eq_false (fun q=>nomatch q)
noncomputable def zej (prog : Program) (w : World) : PySem.KeyKind prog w Key where
 is:=zjp
 hash:=z07 w
 inj:=fun v a b ha hb=>by
  rcases zge ha with ⟨i,t,rfl,rfl⟩ | ⟨x,t,rfl,rfl⟩
  ·rcases zge hb with ⟨j,u,rfl,e⟩ | ⟨y,u,rfl,e⟩
   ·injection e with e1 _; rw [e1]
   ·exact nomatch e
  ·rcases zge hb with ⟨j,u,rfl,e⟩ | ⟨y,u,rfl,e⟩
   ·exact nomatch e
   ·injection e with e1 _; rw [e1]
 byValue:=fun k v h=>by
  rcases zge h with ⟨i,t,rfl,rfl⟩ | ⟨x,t,rfl,rfl⟩ <;> rfl
 pyHash:=fun hv h=>by
  rcases zge hv with ⟨i,t,rfl,rfl⟩ | ⟨x,t,rfl,rfl⟩
  ·exact wpAny_pyHash_int h
  ·exact wpAny_pyHash_str h
 eqBool:=fun hu hv h=>by
  rcases zge hu with ⟨i,t,rfl,rfl⟩ | ⟨x,t,rfl,rfl⟩
  ·rcases zge hv with ⟨j,u,rfl,rfl⟩ | ⟨y,u,rfl,rfl⟩
   ·rw [zzf] at h; exact wpAny_eqBool_int h
   ·rw [z63] at h; exact SeqAt.EqAt.int_str i t y u _ _ _ _ h
  ·rcases zge hv with ⟨j,u,rfl,rfl⟩ | ⟨y,u,rfl,rfl⟩
   ·rw [z60] at h; exact SeqAt.EqAt.str_int x t j u _ _ _ _ h
   ·rw [zy2] at h; exact wpAny_eqBool_str h
 «strs»:=fun k x t v h=>by
  rcases zge h with ⟨i,u,rfl,e⟩ | ⟨y,u,rfl,e⟩
  ·exact nomatch e
  ·injection e with e1 _
   subst e1
   cases v <;> rfl
theorem z3e (prog : Program) (w : World) (i : Int) (t : Tok) : (zej prog w).is (.inl i) (.int i t) = true:=z0f i t
theorem z7l (prog : Program) (w : World) (x : Str) (t : Tok) : (zej prog w).is (.inr x) (.str x t) = true:=zz9 x t
inductive V where
 | non | bl (b : Bool) | int (i : Int) | str (x : Str) | byt (b : Array UInt8) | flt (b : UInt64) | ref (a : Addr) | ty (n : String)
 deriving DecidableEq
noncomputable def zaw : V -> Value -> Prop
 | .non,u=>u = Value.none
 | .bl b,u=>u = Value.bool b
 | .int i,u=>∃ t,u = Value.int i t
 | .str x,u=>∃ t,u = Value.str x t
 | .byt b,u=>∃ t,u = Value.bytes b t
 | .flt b,u=>∃ t,u = Value.float b t
 | .ref a,u=>u = Value.ref a
 | .ty n,u=>u = Value.type n
noncomputable abbrev zas : List V -> List Value -> Prop:=Paired zaw
theorem zas.length {xs : List V} {us : List Value} (r : zas xs us) : xs.length = us.length:=Paired.length r
theorem zas.get : ∀ {xs : List V} {us : List Value} {i : Nat} {x : V},zas xs us -> xs[i]? = some x -> ∃ u,us[i]? = some u /\ zaw x u
 | _,_,_,_,.nil,e=>by simp at e
 | _,_,0,_,.cons r _,e=>by simp at e; subst e; exact ⟨_,rfl,r⟩
 | _,_,i + 1,x,.cons _ t,e=>by
  obtain ⟨u,h1,h2⟩:=zas.get (i:=i) (x:=x) t (by simpa using e)
  exact ⟨u,by simpa using h1,h2⟩
theorem zas.set {x : V} {u : Value} (r : zaw x u) : ∀ {xs : List V} {us : List Value} (i : Nat),zas xs us -> zas (xs.set i x) (us.set i u)
 | _,_,_,.nil=>.nil
 | _,_,0,.cons _ t=>.cons r t
 | _,_,i + 1,.cons q t=>.cons q (zas.set r i t)
theorem zas.append : ∀ {xs ys : List V} {us ws : List Value},zas xs us -> zas ys ws -> zas (xs ++ ys) (us ++ ws)
 | _,_,_,_,.nil,s=>s
 | _,_,_,_,.cons r t,s=>.cons r (zas.append t s)
theorem zas.take : ∀ {xs : List V} {us : List Value} (n : Nat),zas xs us -> zas (xs.take n) (us.take n)
 | _,_,0,_=>.nil
 | _,_,_ + 1,.nil=>.nil
 | _,_,n + 1,.cons r t=>.cons r (zas.take n t)
theorem zas.drop : ∀ {xs : List V} {us : List Value} (n : Nat),zas xs us -> zas (xs.drop n) (us.drop n)
 | _,_,0,r=>r
 | _,_,_ + 1,.nil=>.nil
 | _,_,n + 1,.cons _ t=>zas.drop n t
theorem zas.none_of : ∀ {xs : List V} {us : List Value} {i : Nat},zas xs us -> xs[i]? = none -> us[i]? = none:=fun {xs us i} r e=>by
 have h1:=r.length
 have h2 : xs.length <= i:=List.getElem?_eq_none_iff.mp e
 exact List.getElem?_eq_none_iff.mpr (by omega)
noncomputable def zdw : Option V -> Option Value -> Prop
 | some v,some u=>zaw v u
 | none,none=>True
 | _,_=>False
noncomputable def KV {κ : Type} : List (κ × V) -> List (κ × Value) -> Prop:=Paired fun (p : κ × V) (q : κ × Value)=>p.1 = q.1 /\ zaw p.2 q.2
noncomputable def kV : Key -> V
 | .inl i=>.int i
 | .inr x=>.str x
inductive HO where
 | lst (xs : List V)
 | tup (xs : List V)
 | dK (kvs : List (Key × V)) | dT (kvs : List (List Key × V))
 | set (S : Int -> Bool) (n : Nat)
 | ins (C dx : Addr) (fs : List (Str × V))
 | own (x : Addr)
 | xd (fs : List (Str × V))
 | met (f x : Addr)
 | rng (lo hi : Int)
 | frz (o : Obj) (u : HO)
 | tbl (ps : Array Value)
 | ext (φ : Heap -> Prop)
noncomputable abbrev Hp:=Addr -> Option HO
noncomputable def upd (H : Hp) (a : Addr) (o : HO) : Hp:=fun b=>if b = a then some o else H b
theorem zbm {H : Hp} {a : Addr} {o : HO} : upd H a o a = some o:=by unfold upd; rw [if_pos rfl]
theorem za2 {H : Hp} {a b : Addr} {o : HO} (h : b ≠ a) : upd H a o b = H b:=by unfold upd; rw [if_neg h]
theorem zld {H : Hp} {a : Addr} {o u : HO} : upd (upd H a o) a u = upd H a u:=by
 funext b; unfold upd; split <;> rfl
theorem zsd {H : Hp} {a b : Addr} {o u : HO} (h : H a = some o) (h' : H b = some u) (d : o ≠ u) : a ≠ b:=by
 intro e; subst e; rw [h] at h'; exact d (Option.some.inj h')
theorem zc8 {H : Hp} {a b : Addr} {o : HO} (h : H a = some o) (h' : H b = none) : a ≠ b:=by
 intro e; subst e; rw [h] at h'; cases h'
section
variable (P : Program) (w : World)
noncomputable def zcl (H : Hp) (h : Heap) (a : Addr) : HO -> Prop
 | .lst xs=>xs.length <= sizeLine /\ ∃ (its : List Value) (n : Nat),zas xs its /\ h.get? a = some { cls:=.type "list",data:=.seq its.toArray n }
 | .tup xs=>xs.length <= sizeLine /\ ∃ its : List Value,zas xs its /\ IsTup h a its.toArray
 | .dK kvs=>kvs.length <= sizeLine /\ (a == sysModules) = false /\ ∃ vs,KV kvs vs /\ h.DictOf (zej P w) a vs
 | .dT kvs=>kvs.length <= sizeLine /\ (a == sysModules) = false /\ ∃ xs : List (List Key × Addr × Value),
   Paired (fun (p : List Key × V) (q : List Key × Addr × Value)=>p.1 = q.1 /\ H q.2.1 = some (.tup (p.1.map kV)) /\ zaw p.2 q.2.2) kvs xs /\
   ∃ o es ep,h.get? a = some o /\ o.ExactDict /\ o.data = .dict es ep /\ es.toList = xs.map (entryOfKey (tupleKind (zej P w))) /\ (xs.map (·.1)).Nodup
 | .set S n=>h.SetOf (intKind P w) a S n
 | .ins C dx fs=>H dx = some (.own a) /\ fs.length <= 1000 /\ dx ≠ a /\ h.get? a = some (PySem.W.instObj C dx) /\
   ∃ mA,h.Ns1 dx mA /\ (∀ f,zdw (fs.lookup f) (mA f)) /\ PySem.Within mA (fs.map (·.1))
 | .own _=>∃ o,h.get? a = some o
 | .xd fs=>∃ mA,h.Ns1 a mA /\ ∀ f,zdw (fs.lookup f) (mA f)
 | .rng lo hi=>∃ t u v,h.get? a = some { cls:=.type "range",data:=.fields #[.int lo t,.int hi u,.int 1 v] }
 | .frz o u=>h.get? a = some o /\ zcl H h a u
 | .tbl ps=>h.get? a = some { cls:=.none,data:=.fields ps }
 | .met f x=>h.get? a = some (PySem.W.methodObj (.ref f) (.ref x))
 | .ext φ=>φ h /\ (∃ o,h.get? a = some o) /\ ∀ h1 h2 : Heap,φ h1 -> (∀ o,h1.get? a = some o -> h2.get? a = some o) -> φ h2
noncomputable def HOk (H : Hp) (h : Heap) : Prop:=∀ a o,H a = some o -> zcl P w H h a o
end
section
variable {P : Program} {w : World} {H H' : Hp} {h h' : Heap} {a : Addr} {o : HO}
theorem zcl.lt (x : zcl P w H h a o) : a < h.objs.size:=by
 cases o with
 | lst xs=>obtain ⟨_,_,_,_,e⟩:=x; exact Heap.lt_size e
 | tup xs=>obtain ⟨_,_,_,p⟩:=x; exact p.lt
 | dK kvs=>obtain ⟨_,_,_,_,o,_,_,e,_⟩:=x; exact Heap.lt_size e
 | dT kvs=>obtain ⟨_,_,_,_,o,_,_,e,_⟩:=x; exact Heap.lt_size e
 | set S n=>obtain ⟨o,_,_,_,e,_⟩:=x; exact Heap.lt_size e
 | ins C dx fs=>obtain ⟨_,_,_,e,_⟩:=x; exact Heap.lt_size e
 | own y=>obtain ⟨_,e⟩:=x; exact Heap.lt_size e
 | xd fs=>obtain ⟨_,⟨_,_,_,e,_⟩,_⟩:=x; exact Heap.lt_size e
 | rng lo hi=>obtain ⟨_,_,_,e⟩:=x; exact Heap.lt_size e
 | frz ob u=>obtain ⟨e,_⟩:=x; exact Heap.lt_size e
 | tbl ps=>exact Heap.lt_size (show h.get? a = some _ from x)
 | met f y=>exact Heap.lt_size (show h.get? a = some _ from x)
 | ext φ=>obtain ⟨_,⟨_,e⟩,_⟩:=x; exact Heap.lt_size e
theorem Paired.mapP {α β : Type} {F G : α -> β -> Prop} : ∀ {l₁ : List α} {l₂ : List β},Paired F l₁ l₂ -> (∀ a b,F a b -> G a b) -> Paired G l₁ l₂
 | _,_,.nil,_=>.nil
 | _,_,.cons r t,f=>.cons (f _ _ r) (Paired.mapP t f)
theorem zcl.stay (x : zcl P w H h a o) (k : ∀ b u,(b = a \/ H b = some (.own a)) -> h.get? b = some u -> h'.get? b = some u)
  (ho : ∀ b,H b = some (.own a) -> H' b = some (.own a)) (ht : ∀ b xs,H b = some (.tup xs) -> H' b = some (.tup xs)) : zcl P w H' h' a o:=by
 induction o with
 | lst xs=>obtain ⟨z,its,n,r,e⟩:=x; exact ⟨z,its,n,r,k _ _ (.inl rfl) e⟩
 | tup xs=>obtain ⟨z,its,r,ob,e,c⟩:=x; exact ⟨z,its,r,ob,k _ _ (.inl rfl) e,c⟩
 | dK kvs=>obtain ⟨z,y,vs,r,ob,es,ep,e,c⟩:=x; exact ⟨z,y,vs,r,ob,es,ep,k _ _ (.inl rfl) e,c⟩
 | dT kvs =>
  obtain ⟨z,y,xs,r,ob,es,ep,e,c⟩:=x
  exact ⟨z,y,xs,Paired.mapP r fun p q z=>⟨z.1,ht _ _ z.2.1,z.2.2⟩,ob,es,ep,k _ _ (.inl rfl) e,c⟩
 | set S n=>obtain ⟨ob,es,ep,t,e,c⟩:=x; exact ⟨ob,es,ep,t,k _ _ (.inl rfl) e,c⟩
 | ins C dx fs =>
  obtain ⟨d,z,ne,e,mA,⟨od,es,ep,e2,c⟩,r⟩:=x
  exact ⟨ho _ d,z,ne,k _ _ (.inl rfl) e,mA,⟨od,es,ep,k _ _ (.inr d) e2,c⟩,r⟩
 | own y=>obtain ⟨ob,e⟩:=x; exact ⟨ob,k _ _ (.inl rfl) e⟩
 | xd fs=>obtain ⟨mA,⟨od,es,ep,e,c⟩,r⟩:=x; exact ⟨mA,⟨od,es,ep,k _ _ (.inl rfl) e,c⟩,r⟩
 | rng lo hi=>obtain ⟨t,u,v,e⟩:=x; exact ⟨t,u,v,k _ _ (.inl rfl) e⟩
 | frz ob u ih=>obtain ⟨e,q⟩:=x; exact ⟨k _ _ (.inl rfl) e,ih q⟩
 | tbl ps =>
  have e : h.get? a = some { cls:=.none,data:=.fields ps }:=x
  show h'.get? a = some { cls:=.none,data:=.fields ps }
  exact k a _ (.inl rfl) e
 | met f y =>
  have e : h.get? a = some (PySem.W.methodObj (.ref f) (.ref y)):=x
  show h'.get? a = some (PySem.W.methodObj (.ref f) (.ref y))
  exact k a _ (.inl rfl) e
 | ext φ=>obtain ⟨p,⟨o,e⟩,st⟩:=x; exact ⟨st _ _ p fun o q=>k _ _ (.inl rfl) q,⟨o,k _ _ (.inl rfl) e⟩,st⟩
theorem HOk.lt (x : HOk P w H h) (e : H a = some o) : a < h.objs.size:=(x a o e).lt
theorem HOk.fresh (x : HOk P w H h) (e : h.objs.size <= a) : H a = none:=by
 cases q : H a with
 | none=>rfl
 | some u=>exact absurd (Nat.lt_of_lt_of_le (x.lt q) e) (Nat.lt_irrefl _)
theorem HOk.kept (x : HOk P w H h) (k : ∀ b u,h.get? b = some u -> h'.get? b = some u) : HOk P w H h':=fun a o e =>
 (x a o e).stay (fun b u _ q=>k b u q) (fun _ q=>q) fun _ _ q=>q
theorem HOk.laid (x : HOk P w H h) (k : ∀ b u,h.get? b = some u -> h'.get? b = some u) (hp : h.objs.size <= a) (new : zcl P w (upd H a o) h' a o) : HOk P w (upd H a o) h':=fun b u e=>by
 have hn:=x.fresh hp
 by_cases hb : b = a
 ·subst hb; rw [zbm] at e; cases e; exact new
 ·rw [za2 hb] at e
  exact (x b u e).stay (fun c v _ q=>k c v q) (fun c q=>by rw [za2 (zc8 q hn)]; exact q) fun c xs q=>by rw [za2 (zc8 q hn)]; exact q
end
noncomputable def Rd (H : Hp) (a : Addr) (u : HO) : Prop:=H a = some u \/ ∃ o,H a = some (.frz o u)
theorem Rd.of {H : Hp} {a : Addr} {u : HO} (h : H a = some u) : Rd H a u:=.inl h
theorem Rd.ok {P : Program} {w : World} {H : Hp} {h : Heap} {a : Addr} {u : HO} (r : Rd H a u) (x : HOk P w H h) : zcl P w H h a u:=by
 rcases r with r | ⟨o,r⟩
 ·exact x a u r
 ·obtain ⟨_,q⟩:=x a _ r
  exact q
noncomputable def Mut : Option HO -> Prop
 | some (.lst _)=>True
 | some (.dK _)=>True
 | some (.dT _)=>True
 | some (.set _ _)=>True
 | some (.ins _ _ _)=>True
 | some (.ext _)=>True
 | _=>False
section
variable {P : Program} {w : World} {H : Hp} {h h' : Heap} {x e : Addr} {o' : HO}
theorem HOk.write (ok : HOk P w H h) (mu : Mut (H x)) (he : e = x \/ H e = some (.own x)) (k : ∀ b u,b ≠ e -> h.get? b = some u -> h'.get? b = some u) (heo : ∃ u,h'.get? e = some u)
  (new : zcl P w (upd H x o') h' x o') : HOk P w (upd H x o') h':=fun b u q=>by
 have nown : ∀ c y,H c = some (.own y) -> c ≠ x:=fun c y r z=>by subst z; rw [r] at mu; exact mu
 have ntup : ∀ c xs,H c = some (.tup xs) -> c ≠ x:=fun c xs r z=>by subst z; rw [r] at mu; exact mu
 by_cases hb : b = x
 ·subst hb; rw [zbm] at q; cases q; exact new
 ·rw [za2 hb] at q
  by_cases hbe : b = e
  ·have q' : H b = some (.own x):=by
    rcases he with z | z
    ·exact absurd (hbe.trans z) hb
    ·rw [hbe]; exact z
   rw [q] at q'; cases q'
   obtain ⟨v,hv⟩:=heo
   exact ⟨v,by rw [hbe]; exact hv⟩
  ·refine (ok b u q).stay (fun c v hc r=>k c v ?_ r) (fun c r=>by rw [za2 (nown c b r)]; exact r) fun c xs r=>by rw [za2 (ntup c xs r)]; exact r
   rcases hc with rfl | hc
   ·exact hbe
   ·rintro rfl
    rcases he with z | z
    ·exact nown c b hc z
    ·rw [hc] at z; cases z; exact hb rfl
end
structure Un (fs ex : List Addr) (H H' : Hp) (h h' : Heap) : Prop where
 keep : ∀ b o,h.get? b = some o -> H b = none -> b ∉ fs -> b ∉ ex -> h'.get? b = some o
 slot : ∀ b o,h.get? b = some o -> H b = none -> b ∈ fs -> b ∉ ex -> ∃ sl,h'.get? b = some { o with slots:=sl }
 free : ∀ b o,h.get? b = some o -> H b = none -> b ∉ ex -> H' b = none
 there : ∀ b o,h.get? b = some o -> b ∉ ex -> ∃ o',h'.get? b = some o'
 tups : ∀ b xs,H b = some (.tup xs) -> H' b = some (.tup xs)
 frzs : ∀ b o u,H b = some (.frz o u) -> H' b = some (.frz o u)
 tbls : ∀ b ps,H b = some (.tbl ps) -> ∃ more,H' b = some (.tbl (ps ++ more))
section
variable {fs fs' ex ex' : List Addr} {H H1 H2 : Hp} {h h1 h2 h' : Heap} {a x e : Addr} {o : HO}
theorem Un.any (u : Un fs ex H H1 h h1) {b : Addr} {ob : Obj} (q : h.get? b = some ob) (n : H b = none) (hx : b ∉ ex) : ∃ sl,h1.get? b = some { ob with slots:=sl }:=by
 by_cases hb : b ∈ fs
 ·exact u.slot b ob q n hb hx
 ·exact ⟨ob.slots,u.keep b ob q n hb hx⟩
theorem Un.trans (a : Un fs ex H H1 h h1) (b : Un fs ex H1 H2 h1 h2) : Un fs ex H H2 h h2 where
 keep:=fun c ob q n hc hx=>b.keep c ob (a.keep c ob q n hc hx) (a.free c ob q n hx) hc hx
 slot:=fun c ob q n hc hx=>by
  obtain ⟨sl,e1⟩:=a.slot c ob q n hc hx
  obtain ⟨sl',e2⟩:=b.slot c _ e1 (a.free c ob q n hx) hc hx
  exact ⟨sl',e2⟩
 free:=fun c ob q n hx=>by
  obtain ⟨o',e1⟩:=a.there c ob q hx
  exact b.free c o' e1 (a.free c ob q n hx) hx
 there:=fun c ob q hx=>by
  obtain ⟨o',e1⟩:=a.there c ob q hx
  exact b.there c o' e1 hx
 tups:=fun c xs q=>b.tups c xs (a.tups c xs q)
 frzs:=fun c ob xs q=>b.frzs c ob xs (a.frzs c ob xs q)
 tbls:=fun c ps q=>by
  obtain ⟨m1,e1⟩:=a.tbls c ps q
  obtain ⟨m2,e2⟩:=b.tbls c _ e1
  exact ⟨m1 ++ m2,by rw [e2,Array.append_assoc]⟩
theorem Un.kept (k : ∀ b u,h.get? b = some u -> h'.get? b = some u) : Un fs ex H H h h' :=
 ⟨fun b ob q _ _ _=>k b ob q,fun b ob q _ _ _=>⟨ob.slots,k b ob q⟩,fun _ _ _ n _=>n,fun b ob q _=>⟨ob,k b ob q⟩,fun _ _ q=>q,fun _ _ _ q=>q,fun _ ps q=>⟨#[],by rw [q]; simp⟩⟩
theorem Un.refl : Un fs ex H H h h:=Un.kept fun _ _ q=>q
theorem Un.laid (k : ∀ b u,h.get? b = some u -> h'.get? b = some u) (hp : h.objs.size <= a) (hn : H a = none) : Un fs ex H (upd H a o) h h' where
 keep:=fun b u q _ _ _=>k b u q
 slot:=fun b u q _ _ _=>⟨u.slots,k b u q⟩
 free:=fun b u q n _=>by rw [za2 (Nat.ne_of_lt (Nat.lt_of_lt_of_le (Heap.lt_size q) hp))]; exact n
 there:=fun b u q _=>⟨u,k b u q⟩
 tups:=fun b xs q=>by rw [za2 (zc8 q hn)]; exact q
 frzs:=fun b u xs q=>by rw [za2 (zc8 q hn)]; exact q
 tbls:=fun b ps q=>⟨#[],by rw [za2 (zc8 q hn),q]; simp⟩
theorem Un.write (mu : Mut (H x)) (he : e = x \/ H e = some (.own x)) (k : ∀ b u,b ≠ e -> h.get? b = some u -> h'.get? b = some u) (heo : ∃ u,h'.get? e = some u) : Un fs ex H (upd H x o) h h':=by
 have hx : ∀ b,H b = none -> b ≠ x:=fun b n z=>by subst z; rw [n] at mu; exact mu
 have hb : ∀ b,H b = none -> b ≠ e:=fun b n z=>by
  subst z
  rcases he with r | r
  ·exact hx b n r
  ·rw [n] at r; cases r
 have hm : ∀ b u,H b = some u -> ¬ Mut (some u) -> b ≠ x:=fun b u q nm z=>by subst z; rw [q] at mu; exact nm mu
 refine ⟨fun b u q n _ _=>k b u (hb b n) q,fun b u q n _ _=>⟨u.slots,k b u (hb b n) q⟩,fun b u q n _=>by rw [za2 (hx b n)]; exact n,fun b u q _=>?_,
  fun b xs q=>by rw [za2 (hm b _ q fun z=>z)]; exact q,fun b u xs q=>by rw [za2 (hm b _ q fun z=>z)]; exact q,fun b ps q=>⟨#[],by rw [za2 (hm b _ q fun z=>z),q]; simp⟩⟩
 by_cases hbe : b = e
 ·subst hbe; exact heo
 ·exact ⟨u,k b u hbe q⟩
theorem Un.mono (u : Un fs ex H H1 h h1) (hs : ∀ b ∈ fs,b ∈ fs') (hx : ∀ b ∈ ex,b ∈ ex') : Un fs' ex' H H1 h h1 :=
 ⟨fun b ob q n hb he=>u.keep b ob q n (fun z=>hb (hs b z)) fun z=>he (hx b z),fun _ _ q n _ he=>u.any q n fun z=>he (hx _ z),fun b ob q n he=>u.free b ob q n fun z=>he (hx b z),fun b ob q he=>u.there b ob q fun z=>he (hx b z),u.tups,u.frzs,u.tbls⟩
end
noncomputable def trk (h : Heap) (H : Hp) : List Addr:=(List.range h.objs.size).filter fun a=>(H a).isSome
noncomputable def zgc (h : Heap) (H : Hp) : Heap:=PySem.W.hideAll h (trk h H)
theorem zyf (h : Heap) (H : Hp) : (zgc h H).objs.size = h.objs.size:=PySem.W.hideAll_size _ _
theorem zxh {h : Heap} {H : Hp} {b : Addr} {o : Obj} (e : h.get? b = some o) (n : H b = none) : (zgc h H).get? b = some o :=
 PySem.W.hideAll_get _ e fun hm=>by
  have q : (H b).isSome = true:=(List.mem_filter.mp hm).2
  rw [n] at q; simp at q
theorem z7u {h : Heap} {H : Hp} {b : Addr} {o : Obj} (e : (zgc h H).get? b = some o) : h.get? b = some o /\ H b = none:=by
 have e' : h.get? b = some o:=PySem.W.of_hideAll (trk h H) e
 refine ⟨e',?_⟩
 cases q : H b with
 | none=>rfl
 | some x =>
  have hm : b ∈ trk h H:=List.mem_filter.mpr ⟨List.mem_range.mpr (Heap.lt_size e'),by simp [q]⟩
  have z : (zgc h H).get? b = none:=PySem.W.hideAll_none (trk h H) hm
  rw [z] at e; cases e
noncomputable def zwr (g h : Heap) (L : Addr) : List (Addr × Obj):=(List.range h.objs.size).filterMap fun a=>if a = L \/ (g.get? a).isSome = true then none else (h.get? a).map fun o=>(a,o)
noncomputable def zcd (g h : Heap) (L d : Addr) : List (Addr × Obj):=(zwr g h L).filter fun p=>decide (p.1 ≠ d)
structure Mod (K : PySem.W.Frag) (mg : Str -> Option Value) (base : Heap) : Prop where
 kin : K.In base
 glob : base.Ns mainGlobals mg
 blt : ∃ mb,base.Ns builtinsNs mb /\ ∀ x : Str,x ≠ "__name__" -> mb x = bootBuiltins x
 nolimit : base.NoLimit
set_option genInjectivity false in
structure Cx where
 prog : Program
 w : World
 K : PySem.W.Frag
 mg : Str -> Option Value
 base : Heap
 A : Around
 N : List Str
 s₀ : Shared
 H₀ : Hp
 env : Env
 outer : List Env
 stack : List Env
 ex : List Addr
 fn : Str -> Bool
 calm : Bool
 pn : List (Addr × Obj)
 xe : Value -> Shared -> Prop
noncomputable def frs (l : List Env) : List Addr:=l.filterMap (·.frame)
noncomputable abbrev Cx.fs (X : Cx) : List Addr:=frs X.outer
noncomputable def Vis (sc : Scope) (x : Str) : Prop:=sc.names.lookup x = some .local \/ sc.names.lookup x = some .cell \/ sc.names.lookup x = some .free
noncomputable def Loc (sc : Scope) (x : Str) : Prop:=sc.names.lookup x = some .local \/ sc.names.lookup x = some .cell
noncomputable def z5i (env : Env) (h : Heap) (m : Str -> Option Value) (x : Str) (u : Value) : Prop :=
 (env.kindOf x = some .local /\ m x = some u) \/ ((env.kindOf x = some .cell \/ env.kindOf x = some .free) /\ ∃ c,env.cells.lookup x = some c /\ h.IsCell c (some u))
structure Cx.Ok (X : Cx) : Prop where
 mod : Mod X.K X.mg X.base
 kind : X.env.scope.kind = .function
 glob : X.env.globals = mainGlobals
 blt : X.env.builtins = builtinsNs
 above : X.s₀.heap.objs.size <= X.env.locals
 inj : ∀ x y c,X.env.cells.lookup x = some c -> X.env.cells.lookup y = some c -> x = y
 has : ∀ x,(X.env.kindOf x = some .cell \/ X.env.kindOf x = some .free) -> ∃ c,X.env.cells.lookup x = some c
 cab : ∀ x c,X.fn x = true -> X.env.cells.lookup x = some c -> X.s₀.heap.objs.size <= c
 hd : X.calm = true -> X.A.handled = none
 frames : X.A.frames = some X.stack
 stk : X.stack = X.outer \/ (X.stack = X.env :: X.outer /\ X.env.frame = some X.env.locals)
 exf : ∀ b ∈ X.ex,b ≠ X.env.locals /\ ∀ x c,X.env.cells.lookup x = some c -> c ≠ b
 bs : ∀ b o,X.base.get? b = some o -> X.s₀.heap.get? b = some o /\ X.H₀ b = none
 bsz : X.base.objs.size <= X.s₀.heap.objs.size
 noex : ∀ b o,X.base.get? b = some o -> b ∉ X.ex
 exfs : ∀ b ∈ X.ex,b ∉ X.fs
 funs : X.s₀.heap.FunFrames X.base X.outer
 frf : ∀ b ∈ X.fs,X.H₀ b = none
structure Inv (X : Cx) (pins : List (Addr × Obj)) (σ : List (Option V)) (H : Hp) (s : Shared) : Prop where
 ok : X.Ok
 os : s.os = X.s₀.os
 bare : AllBare s.gens
 base : Un X.fs X.ex X.H₀ H X.s₀.heap s.heap
 loc : ∃ m,s.heap.Ns X.env.locals m /\ ∀ (i : Nat) (x : Str) (v : V),X.N[i]? = some x -> σ[i]? = some (some v) -> Vis X.env.scope x -> ∃ u,zaw v u /\ z5i X.env s.heap m x u
 cell : ∀ x c,X.env.cells.lookup x = some c -> ∃ v,s.heap.IsCell c v
 free : H X.env.locals = none
 freeC : ∀ x c,X.env.cells.lookup x = some c -> H c = none
 pin : ∀ p ∈ X.pn ++ pins,s.heap.get? p.1 = some p.2 /\ H p.1 = none /\ p.1 ≠ X.env.locals /\ p.1 ∉ X.fs /\ ∀ v,p.2.data ≠ .cell v
 hok : HOk X.prog X.w H s.heap
 len : σ.length = X.N.length
section
variable {X : Cx} {pins : List (Addr × Obj)} {σ : List (Option V)} {H H' : Hp} {s : Shared} {h' : Heap}
theorem Cx.Ok.nofr (ok : X.Ok) {b : Addr} {o : Obj} (e : X.base.get? b = some o) : b ∉ X.fs:=fun hb=>by
 have:=(ok.funs.mem hb).1
 rw [e] at this; cases this
theorem Inv.bs (I : Inv X pins σ H s) : ∀ b o,X.base.get? b = some o -> s.heap.get? b = some o /\ H b = none:=fun b o e =>
 ⟨I.base.keep b o (I.ok.bs b o e).1 (I.ok.bs b o e).2 (I.ok.nofr e) (I.ok.noex b o e),I.base.free b o (I.ok.bs b o e).1 (I.ok.bs b o e).2 (I.ok.noex b o e)⟩
theorem Inv.bk (I : Inv X pins σ H s) : ∀ b o,X.base.get? b = some o -> s.heap.get? b = some o:=fun b o e=>(I.bs b o e).1
theorem Inv.mod (I : Inv X pins σ H s) : Mod X.K X.mg X.base:=I.ok.mod
theorem Inv.kIn (I : Inv X pins σ H s) : X.K.In s.heap:=I.ok.mod.kin.keeps I.bk
theorem Inv.nolimit (I : Inv X pins σ H s) : s.heap.NoLimit:=I.ok.mod.nolimit.keeps I.bk
theorem Inv.fr (I : Inv X pins σ H s) : ∃ m,Fr X.base X.env.locals s.heap m :=
 let ⟨m,hn,_⟩:=I.loc
 ⟨m,hn,I.bk,Nat.le_trans I.ok.bsz I.ok.above⟩
theorem Inv.lt (I : Inv X pins σ H s) : X.env.locals < s.heap.objs.size:=let ⟨_,hn,_⟩:=I.loc; hn.lt
theorem Inv.sz (I : Inv X pins σ H s) : X.s₀.heap.objs.size <= s.heap.objs.size:=Nat.le_trans I.ok.above (Nat.le_of_lt I.lt)
theorem Inv.nofs (I : Inv X pins σ H s) {a : Addr} (h : s.heap.objs.size <= a) : a ∉ X.fs:=fun hb=>by
 obtain ⟨_,o,ho,_⟩:=I.ok.funs.mem hb
 exact absurd (Nat.lt_of_lt_of_le (Heap.lt_size ho) (Nat.le_trans I.sz h)) (Nat.lt_irrefl _)
theorem Inv.cne (I : Inv X pins σ H s) : ∀ x c,X.env.cells.lookup x = some c -> c ≠ X.env.locals:=fun x c e z=>by
 obtain ⟨v,o,ho,hd⟩:=I.cell x c e
 obtain ⟨m,⟨o',es,ep,ho',hd',_⟩,_⟩:=I.loc
 rw [z,ho'] at ho; cases ho; rw [hd'] at hd; cases hd
theorem Inv.funs (I : Inv X pins σ H s) : s.heap.FunFrames X.base X.outer:=by
 have all : ∀ (l : List Env),(∀ b ∈ frs l,b ∈ X.fs) -> X.s₀.heap.FunFrames X.base l -> s.heap.FunFrames X.base l:=by
  intro l
  induction l with
  | nil=>intro _ _; trivial
  | cons env r ih =>
   intro hs hl
   obtain ⟨hk,⟨L,o,hf,hn,ho,hd⟩,hr⟩:=hl
   have hL : L ∈ X.fs:=hs L (by unfold frs; rw [List.filterMap_cons,hf]; exact List.mem_cons_self)
   obtain ⟨sl,e⟩:=I.base.slot L o ho (I.ok.frf L hL) hL fun z=>I.ok.exfs L z hL
   exact ⟨hk,⟨L,_,hf,hn,e,hd⟩,ih (fun b hb=>hs b (by unfold frs; rw [List.filterMap_cons,hf]; exact List.mem_cons_of_mem _ hb)) hr⟩
 exact all X.outer (fun _ hb=>hb) I.ok.funs
theorem Inv.stack (I : Inv X pins σ H s) : s.heap.FunFrames X.base X.stack:=by
 rcases I.ok.stk with e | ⟨e,hf⟩
 ·rw [e]; exact I.funs
 ·rw [e]
  obtain ⟨m,hn,_⟩:=I.loc
  refine .cons (by rw [I.ok.kind]; decide) hf hn ?_ I.funs
  exact Heap.get?_none_of_le (Nat.le_trans I.ok.bsz I.ok.above)
theorem Inv.stkSub (I : Inv X pins σ H s) : ∀ b ∈ frs X.stack,b ∈ X.env.locals :: X.fs:=fun b hb=>by
 rcases I.ok.stk with e | ⟨e,hf⟩
 ·rw [e] at hb; exact List.mem_cons_of_mem _ hb
 ·rw [e] at hb
  unfold frs at hb
  rw [List.filterMap_cons,hf] at hb
  exact hb
theorem Inv.stkFree (I : Inv X pins σ H s) : ∀ b ∈ frs X.stack,H b = none:=fun b hb=>by
 rcases List.mem_cons.mp (I.stkSub b hb) with e | hb
 ·rw [e]; exact I.free
 ·obtain ⟨_,o,ho,_⟩:=I.ok.funs.mem hb
  exact I.base.free b o ho (I.ok.frf b hb) fun z=>I.ok.exfs b z hb
theorem Inv.step {g' : Array GenState} {t' : Nat} {d' : Drawn} {ch : List Addr} (I : Inv X pins σ H s)
  (hch : ∀ b ∈ ch,(b ∈ X.ex \/ X.s₀.heap.objs.size <= b) /\ b ≠ X.env.locals /\ (∀ x c,X.env.cells.lookup x = some c -> c ≠ b) /\ ∀ p ∈ X.pn ++ pins,p.1 ≠ b)
  (keep : ∀ b o,b ≠ X.env.locals -> b ∉ X.fs -> b ∉ ch -> s.heap.get? b = some o -> H b = none -> h'.get? b = some o)
  (slot : ∀ b o,b ≠ X.env.locals -> b ∈ X.fs -> b ∉ ch -> s.heap.get? b = some o -> H b = none -> ∃ sl,h'.get? b = some { o with slots:=sl }) (free : ∀ b o,b ∉ ch -> s.heap.get? b = some o -> H b = none -> H' b = none)
  (there : ∀ b o,b ∉ ch -> s.heap.get? b = some o -> ∃ o',h'.get? b = some o')
  (tups : ∀ b xs,H b = some (.tup xs) -> H' b = some (.tup xs)) (frzs : ∀ b o u,H b = some (.frz o u) -> H' b = some (.frz o u)) (tbls : ∀ b ps,H b = some (.tbl ps) -> ∃ more,H' b = some (.tbl (ps ++ more)))
  (ns : ∀ m,s.heap.Ns X.env.locals m -> h'.Ns X.env.locals m) (hok : HOk X.prog X.w H' h') (hg : AllBare g') :
  Inv X pins σ H' { s with heap:=h',gens:=g',drawn:=d',toks:=t' }:=by
 have neL : ∀ b o,X.s₀.heap.get? b = some o -> b ≠ X.env.locals:=fun b o e=>Nat.ne_of_lt (Nat.lt_of_lt_of_le (Heap.lt_size e) I.ok.above)
 have neC : ∀ b o,X.s₀.heap.get? b = some o -> b ∉ X.ex -> b ∉ ch:=fun b o e hx hb=>by
  rcases (hch b hb).1 with z | z
  ·exact hx z
  ·exact absurd (Nat.lt_of_lt_of_le (Heap.lt_size e) z) (Nat.lt_irrefl _)
 have cellK : ∀ x c,X.env.cells.lookup x = some c -> ∀ v,s.heap.IsCell c v -> h'.IsCell c v:=fun x c e v ⟨o,ho,hd⟩=>by
  have nch : c ∉ ch:=fun z=>(hch c z).2.2.1 x c e rfl
  by_cases hc : c ∈ X.fs
  ·obtain ⟨sl,q⟩:=slot c o (I.cne x c e) hc nch ho (I.freeC x c e)
   exact ⟨_,q,hd⟩
  ·exact ⟨o,keep c o (I.cne x c e) hc nch ho (I.freeC x c e),hd⟩
 refine ⟨I.ok,I.os,hg,⟨fun b o e n hb hx=>?_,fun b o e n hb hx=>?_,fun b o e n hx=>?_,fun b o e hx=>?_,fun b xs e=>tups b xs (I.base.tups b xs e),fun b o xs e=>frzs b o xs (I.base.frzs b o xs e),fun b ps e=>?_⟩,?_,fun x c e=>?_,?_,fun x c e=>?_,fun p hp=>?_,hok,I.len⟩
 ·exact keep b o (neL b o e) hb (neC b o e hx) (I.base.keep b o e n hb hx) (I.base.free b o e n hx)
 ·obtain ⟨sl,e1⟩:=I.base.slot b o e n hb hx
  obtain ⟨sl',e2⟩:=slot b _ (neL b o e) hb (neC b o e hx) e1 (I.base.free b o e n hx)
  exact ⟨sl',e2⟩
 ·obtain ⟨o',e1⟩:=I.base.there b o e hx
  exact free b o' (neC b o e hx) e1 (I.base.free b o e n hx)
 ·obtain ⟨o',e1⟩:=I.base.there b o e hx
  exact there b o' (neC b o e hx) e1
 ·obtain ⟨m1,e1⟩:=I.base.tbls b ps e
  obtain ⟨m2,e2⟩:=tbls b _ e1
  exact ⟨m1 ++ m2,by rw [e2,Array.append_assoc]⟩
 ·obtain ⟨m,hn,hl⟩:=I.loc
  refine ⟨m,ns m hn,fun i x v e1 e2 e3=>?_⟩
  obtain ⟨u,r,l⟩:=hl i x v e1 e2 e3
  refine ⟨u,r,?_⟩
  rcases l with l | ⟨k,c,e,z⟩
  ·exact .inl l
  ·exact .inr ⟨k,c,e,cellK x c e _ z⟩
 ·obtain ⟨v,z⟩:=I.cell x c e
  exact ⟨v,cellK x c e v z⟩
 ·obtain ⟨m,⟨o,_,_,ho,_⟩,_⟩:=I.loc
  exact free _ o (fun z=>(hch _ z).2.1 rfl) ho I.free
 ·obtain ⟨v,o,ho,hd⟩:=I.cell x c e
  exact free c o (fun z=>(hch c z).2.2.1 x c e rfl) ho (I.freeC x c e)
 ·obtain ⟨e,n,ne,nf,d⟩:=I.pin p hp
  have nch : p.1 ∉ ch:=fun z=>(hch p.1 z).2.2.2 p hp rfl
  exact ⟨keep p.1 p.2 ne nf nch e n,free p.1 p.2 nch e n,ne,nf,d⟩
theorem Inv.un {t' : Nat} (I : Inv X pins σ H s) (u : Un X.fs [] H H' s.heap h') (hok : HOk X.prog X.w H' h') : Inv X pins σ H' { s with heap:=h',toks:=t' }:=by
 obtain ⟨m,⟨o,es,ep,ho,r⟩,_⟩:=id I.loc
 obtain ⟨sl,hL⟩:=u.any ho I.free (by simp)
 exact I.step (g':=s.gens) (d':=s.drawn) (ch:=[]) (fun _ z=>nomatch z) (fun b o _ hb _ e n=>u.keep b o e n hb (by simp)) (fun b o _ hb _ e n=>u.slot b o e n hb (by simp)) (fun b o _ e n=>u.free b o e n (by simp)) (fun b o _ e=>u.there b o e (by simp)) u.tups u.frzs u.tbls (fun m' hm=>by
  obtain ⟨o',es',ep',ho',r'⟩:=hm
  rw [ho] at ho'; cases ho'
  exact ⟨_,es',ep',hL,r'⟩) hok I.bare
theorem Inv.call {g' : Array GenState} {t' : Nat} {d' : Drawn} {ch : List Addr} (I : Inv X pins σ H s) (u : Un (frs X.stack) ch H H' s.heap h') (hok : HOk X.prog X.w H' h') (hg : AllBare g')
  (hch : ∀ b ∈ ch,(b ∈ X.ex \/ X.s₀.heap.objs.size <= b) /\ b ≠ X.env.locals /\ (∀ x c,X.env.cells.lookup x = some c -> c ≠ b) /\ ∀ p ∈ X.pn ++ pins,p.1 ≠ b) :
  Inv X pins σ H' { s with heap:=h',gens:=g',drawn:=d',toks:=t' }:=by
 obtain ⟨m,⟨o,es,ep,ho,r⟩,_⟩:=id I.loc
 obtain ⟨sl,hL⟩:=u.any ho I.free fun z=>(hch _ z).2.1 rfl
 exact I.step (ch:=ch) hch (fun b o hL hb hc e n=>u.keep b o e n (fun z=>(List.mem_cons.mp (I.stkSub b z)).elim hL hb) hc) (fun b o _ _ hc e n=>u.any e n hc) (fun b o hc e n=>u.free b o e n hc) (fun b o hc e=>u.there b o e hc) u.tups u.frzs u.tbls (fun m' hm=>by
  obtain ⟨o',es',ep',ho',r'⟩:=hm
  rw [ho] at ho'; cases ho'
  exact ⟨_,es',ep',hL,r'⟩) hok hg
theorem Inv.turned {t' : Nat} {it : Addr} (I : Inv X pins σ H s) (k : ∀ b o,b ≠ it -> s.heap.get? b = some o -> h'.get? b = some o) (hn : H it = none) (hL : it ≠ X.env.locals)
  (h1 : it ∈ X.ex \/ X.s₀.heap.objs.size <= it) (h2 : ∀ x c,X.env.cells.lookup x = some c -> c ≠ it) (h3 : ∀ p ∈ X.pn ++ pins,p.1 ≠ it) : Inv X pins σ H { s with heap:=h',toks:=t' }:=by
 have nit : ∀ b u,H b = some u -> b ≠ it:=fun b u e z=>by rw [z,hn] at e; cases e
 refine I.step (g':=s.gens) (d':=s.drawn) (ch:=[it]) (fun b hb=>?_) (fun b o _ _ hc e _=>k b o (fun z=>hc (by simp [z])) e) (fun b o _ _ hc e _=>⟨o.slots,k b o (fun z=>hc (by simp [z])) e⟩) (fun _ _ _ _ n=>n)
  (fun b o hc e=>⟨o,k b o (fun z=>hc (by simp [z])) e⟩) (fun _ _ e=>e) (fun _ _ _ e=>e) (fun b ps e=>⟨#[],by rw [e]; simp⟩) (fun m hm=>?_) (fun b u e=>?_) I.bare
 ·have e : b = it:=by simpa using hb
  subst e
  exact ⟨h1,hL,h2,h3⟩
 ·obtain ⟨o,es,ep,ho,r⟩:=hm
  exact ⟨o,es,ep,k _ o (Ne.symm hL) ho,r⟩
 ·refine (I.hok b u e).stay (fun c v hc q=>k c v ?_ q) (fun _ q=>q) fun _ _ q=>q
  rcases hc with z | z
  ·rw [z]; exact nit b u e
  ·exact nit c _ z
theorem Inv.tok (I : Inv X pins σ H s) (t : Nat) : Inv X pins σ H { s with toks:=t }:=I.un (h':=s.heap) (t':=t) Un.refl I.hok
theorem Inv.kept {t' : Nat} (I : Inv X pins σ H s) (k : ∀ b u,s.heap.get? b = some u -> h'.get? b = some u) : Inv X pins σ H { s with heap:=h',toks:=t' }:=I.un (Un.kept k) (I.hok.kept k)
theorem Inv.laid {a : Addr} {o : HO} {t' : Nat} (I : Inv X pins σ H s) (k : ∀ b u,s.heap.get? b = some u -> h'.get? b = some u) (hp : s.heap.objs.size <= a) (new : zcl X.prog X.w (upd H a o) h' a o) :
  Inv X pins σ (upd H a o) { s with heap:=h',toks:=t' }:=I.un (Un.laid k hp (I.hok.fresh hp)) (I.hok.laid k hp new)
theorem Inv.write {x e : Addr} {o : HO} {t' : Nat} (I : Inv X pins σ H s) (mu : Mut (H x)) (he : e = x \/ H e = some (.own x)) (k : ∀ b u,b ≠ e -> s.heap.get? b = some u -> h'.get? b = some u) (heo : ∃ u,h'.get? e = some u)
  (new : zcl X.prog X.w (upd H x o) h' x o) : Inv X pins σ (upd H x o) { s with heap:=h',toks:=t' }:=I.un (Un.write mu he k heo) (I.hok.write mu he k heo new)
theorem Inv.weak {σ' : List (Option V)} (I : Inv X pins σ H s) (hl : σ'.length = σ.length) (w : ∀ (i : Nat) v,σ'[i]? = some (some v) -> σ[i]? = some (some v)) : Inv X pins σ' H s :=
 ⟨I.ok,I.os,I.bare,I.base,let ⟨m,hn,hl'⟩:=I.loc; ⟨m,hn,fun i x v e1 e2 e3=>hl' i x v e1 (w i v e2) e3⟩,I.cell,I.free,I.freeC,I.pin,I.hok,hl.trans I.len⟩
theorem Inv.pins_of {pins' : List (Addr × Obj)} (I : Inv X pins σ H s) (h : ∀ p ∈ pins',s.heap.get? p.1 = some p.2 /\ H p.1 = none /\ p.1 ≠ X.env.locals /\ p.1 ∉ X.fs /\ ∀ v,p.2.data ≠ .cell v) : Inv X pins' σ H s :=
 ⟨I.ok,I.os,I.bare,I.base,I.loc,I.cell,I.free,I.freeC,fun p hp=>(List.mem_append.mp hp).elim (fun z=>I.pin p (List.mem_append_left _ z)) (h p),I.hok,I.len⟩
theorem zsn {N : List Str} (hN : N.Nodup) {i j : Nat} {x : Str} (a : N[i]? = some x) (b : N[j]? = some x) : i = j:=by
 obtain ⟨h1,e1⟩:=List.getElem?_eq_some_iff.mp a
 obtain ⟨h2,e2⟩:=List.getElem?_eq_some_iff.mp b
 exact (List.getElem_inj hN).mp (e1.trans e2.symm)
theorem zt2 {M : Model} {A : Around} {E : Value -> Shared -> Prop} {i : Nat} {x : Str} {v : V} {u : Value} {Q : Unit -> Shared -> Prop} (I : Inv X pins σ H s) (hN : X.N.Nodup) (hi : X.N[i]? = some x) (hx : Loc X.env.scope x) (r : zaw v u)
  (h : ∀ s',Inv X pins (σ.set i (some v)) H s' -> (∃ a,Heap.SameBut a s.heap s'.heap /\ (a = X.env.locals \/ X.env.cells.lookup x = some a)) -> Q () s') (hf : X.fn x = true \/ X.env.scope.names.lookup x = some .local:=by first | exact .inl rfl | exact .inr rfl | assumption) : wpAny M A (storeName X.env x u) Q E s:=by
 obtain ⟨m,hn,hl⟩:=id I.loc
 have hcls : (X.env.scope.kind == .class || (X.env.scope.kind == .module && X.env.locals != X.env.globals)) = false:=by rw [I.ok.kind]; rfl
 have hiσ : i < σ.length:=by rw [I.len]; exact (List.getElem?_eq_some_iff.mp hi).1
 have cne:=I.cne
 have tracked : ∀ {a : Addr} {h' : Heap},(∃ o,s.heap.get? a = some o /\ H a = none) -> Heap.SameBut a s.heap h' -> HOk X.prog X.w H h':=fun {a h'} ha hs b ob e=>by
  obtain ⟨_,_,hfree⟩:=ha
  refine (I.hok b ob e).stay (fun c w' hc q=>(hs.2 c ?_).trans q) (fun _ q=>q) fun _ _ q=>q
  rintro rfl
  rcases hc with rfl | hc
  ·rw [hfree] at e; cases e
  ·rw [hfree] at hc; cases hc
 rcases hx with hk | hk
 ·refine wpAny_storeName_local hk hn (fun h' hn' hs=>?_) hcls
  obtain ⟨oL,_,_,hoL,_⟩:=id hn
  refine h _ ⟨I.ok,I.os,I.bare,⟨fun b o e n hb hx=>?_,fun b o e n hb hx=>?_,I.base.free,fun b o e hx=>?_,I.base.tups,I.base.frzs,I.base.tbls⟩,⟨_,hn',fun j y v' e1 e2 e3=>?_⟩,fun y c e=>?_,I.free,I.freeC,fun p hp=>?_,tracked ⟨oL,hoL,I.free⟩ hs,by simpa using I.len⟩ ⟨_,hs,.inl rfl⟩
  ·exact (hs.2 b (Nat.ne_of_lt (Nat.lt_of_lt_of_le (Heap.lt_size e) I.ok.above))).trans (I.base.keep b o e n hb hx)
  ·obtain ⟨sl,e1⟩:=I.base.slot b o e n hb hx
   exact ⟨sl,(hs.2 b (Nat.ne_of_lt (Nat.lt_of_lt_of_le (Heap.lt_size e) I.ok.above))).trans e1⟩
  ·obtain ⟨o',e1⟩:=I.base.there b o e hx
   exact ⟨o',(hs.2 b (Nat.ne_of_lt (Nat.lt_of_lt_of_le (Heap.lt_size e) I.ok.above))).trans e1⟩
  ·by_cases hj : j = i
   ·subst hj
    rw [hi] at e1; cases e1
    rw [List.getElem?_set_self hiσ] at e2
    cases e2
    exact ⟨u,r,.inl ⟨hk,by simp⟩⟩
   ·rw [List.getElem?_set_ne (Ne.symm hj)] at e2
    obtain ⟨u',r',q⟩:=hl j y v' e1 e2 e3
    refine ⟨u',r',?_⟩
    rcases q with ⟨k,e⟩ | ⟨k,c,e,z⟩
    ·refine .inl ⟨k,?_⟩
     have : y ≠ x:=fun e=>hj (zsn hN e1 (e ▸ hi))
     simp [this,e]
    ·exact .inr ⟨k,c,e,z.sameBut hs (cne y c e)⟩
  ·obtain ⟨w',z⟩:=I.cell y c e
   exact ⟨w',z.sameBut hs (cne y c e)⟩
  ·obtain ⟨e,n,ne,nf,d⟩:=I.pin p hp
   exact ⟨(hs.2 p.1 ne).trans e,n,ne,nf,d⟩
 ·have hfn : X.fn x = true:=by
   rcases hf with z | z
   ·exact z
   ·rw [z] at hk; cases hk
  obtain ⟨c,hc⟩:=I.ok.has x (.inl hk)
  obtain ⟨w',z⟩:=I.cell x c hc
  refine wpAny_storeName_cell I.ok.kind hk hc z (fun h' hc' hs=>?_)
  obtain ⟨oc,hoc,hocd⟩:=id z
  refine h { s with heap:=h' } ⟨I.ok,I.os,I.bare,⟨fun b o e n hb hx=>?_,fun b o e n hb hx=>?_,I.base.free,fun b o e hx=>?_,I.base.tups,I.base.frzs,I.base.tbls⟩,⟨m,hn.sameBut hs (Ne.symm (cne x c hc)),fun j y v' e1 e2 e3=>?_⟩,fun y c' e=>?_,I.free,I.freeC,fun p hp=>?_,tracked ⟨oc,hoc,I.freeC x c hc⟩ hs,by simpa using I.len⟩ ⟨c,hs,.inr hc⟩
  ·exact (hs.2 b (Nat.ne_of_lt (Nat.lt_of_lt_of_le (Heap.lt_size e) (I.ok.cab x c hfn hc)))).trans (I.base.keep b o e n hb hx)
  ·obtain ⟨sl,e1⟩:=I.base.slot b o e n hb hx
   exact ⟨sl,(hs.2 b (Nat.ne_of_lt (Nat.lt_of_lt_of_le (Heap.lt_size e) (I.ok.cab x c hfn hc)))).trans e1⟩
  ·obtain ⟨o',e1⟩:=I.base.there b o e hx
   exact ⟨o',(hs.2 b (Nat.ne_of_lt (Nat.lt_of_lt_of_le (Heap.lt_size e) (I.ok.cab x c hfn hc)))).trans e1⟩
  ·by_cases hj : j = i
   ·subst hj
    rw [hi] at e1; cases e1
    rw [List.getElem?_set_self hiσ] at e2
    cases e2
    exact ⟨u,r,.inr ⟨.inl hk,c,hc,hc'⟩⟩
   ·rw [List.getElem?_set_ne (Ne.symm hj)] at e2
    obtain ⟨u',r',q⟩:=hl j y v' e1 e2 e3
    refine ⟨u',r',?_⟩
    rcases q with q | ⟨k,c',e,z'⟩
    ·exact .inl q
    ·refine .inr ⟨k,c',e,z'.sameBut hs ?_⟩
     rintro rfl
     exact hj (zsn hN e1 (I.ok.inj _ _ _ e hc ▸ hi))
  ·by_cases hcc : c' = c
   ·subst hcc; exact ⟨_,hc'⟩
   ·obtain ⟨w2,z2⟩:=I.cell y c' e
    exact ⟨w2,z2.sameBut hs hcc⟩
  ·obtain ⟨e,n,ne,nf,d⟩:=I.pin p hp
   refine ⟨(hs.2 p.1 ?_).trans e,n,ne,nf,d⟩
   intro q
   rw [q,hoc] at e
   have q' : oc = p.2:=Option.some.inj e
   exact d w' (by rw [<- q']; exact hocd)
theorem zr5 {M : Model} {A : Around} {E : Value -> Shared -> Prop} {i : Nat} {x : Str} {v : V} {u : Value} {Q : Unit -> Shared -> Prop} (I : Inv X pins σ H s) (hN : X.N.Nodup) (hi : X.N[i]? = some x) (hx : Loc X.env.scope x) (r : zaw v u)
  (h : ∀ s',Inv X pins (σ.set i (some v)) H s' -> Q () s') (hf : X.fn x = true \/ X.env.scope.names.lookup x = some .local:=by first | exact .inl rfl | exact .inr rfl | assumption) : wpAny M A (storeName X.env x u) Q E s :=
 zt2 I hN hi hx r (fun s' I' _=>h s' I') hf
theorem Inv.call' {s' : Shared} {ch : List Addr} (I : Inv X pins σ H s) (ho : s'.os = s.os) (u : Un (frs X.stack) ch H H' s.heap s'.heap) (hok : HOk X.prog X.w H' s'.heap) (hg : AllBare s'.gens)
  (hch : ∀ b ∈ ch,(b ∈ X.ex \/ X.s₀.heap.objs.size <= b) /\ b ≠ X.env.locals /\ (∀ x c,X.env.cells.lookup x = some c -> c ≠ b) /\ ∀ p ∈ X.pn ++ pins,p.1 ≠ b) : Inv X pins σ H' s':=by
 obtain ⟨h',g',d',t',o'⟩:=s'
 have e : o' = s.os:=ho
 subst e
 exact I.call (g':=g') (t':=t') (d':=d') u hok hg hch
end
noncomputable abbrev XK:=Value -> Option Addr -> Hp -> Prop
noncomputable abbrev St:=List (Option V)
noncomputable abbrev VK:=V -> Hp -> Prop
noncomputable abbrev TE:=St -> Hp -> VK -> Prop
noncomputable abbrev TT:=St -> Hp -> (Bool -> Hp -> Prop) -> Prop
noncomputable abbrev TA:=St -> Hp -> (List V -> Hp -> Prop) -> Prop
structure zhc where
 nx : St -> Hp -> Prop
 rt : VK
 bk : St -> Hp -> Prop:=fun _ _=>False
 ct : St -> Hp -> Prop:=fun _ _=>False
noncomputable abbrev TS:=zhc -> St -> Hp -> Prop
noncomputable def EP (X : Cx) (pins : List (Addr × Obj)) (σ : St) (Q : VK) (u : Value) (s' : Shared) : Prop:=∃ v H',Inv X pins σ H' s' /\ zaw v u /\ Q v H'
noncomputable def TP (X : Cx) (pins : List (Addr × Obj)) (σ : St) (Q : Bool -> Hp -> Prop) (b : Bool) (s' : Shared) : Prop:=∃ H',Inv X pins σ H' s' /\ Q b H'
noncomputable def AP (X : Cx) (pins : List (Addr × Obj)) (σ : St) (Q : List V -> Hp -> Prop) (us : List Value) (s' : Shared) : Prop:=∃ vs H',Inv X pins σ H' s' /\ zas vs us /\ Q vs H'
noncomputable def SP (X : Cx) (pins : List (Addr × Obj)) (D : zhc) (f : Flow) (s' : Shared) : Prop :=
 match f with
 | .next=>∃ σ' H',Inv X pins σ' H' s' /\ D.nx σ' H'
 | .brk=>∃ σ' H',Inv X pins σ' H' s' /\ D.bk σ' H'
 | .cont=>∃ σ' H',Inv X pins σ' H' s' /\ D.ct σ' H'
 | .ret u=>∃ v σ' H',Inv X pins σ' H' s' /\ zaw v u /\ D.rt v H'
noncomputable def PE (X : Cx) (e : Expr) (t : TE) : Prop :=
 ∀ (pins : List (Addr × Obj)) (s : Shared) (σ : St) (H : Hp) (Q : VK),Inv X pins σ H s -> t σ H Q -> wpAny (model X.prog X.w) X.A (eval e X.env) (EP X pins σ Q) X.xe s
noncomputable def PT (X : Cx) (e : Expr) (t : TT) : Prop :=
 ∀ (pins : List (Addr × Obj)) (s : Shared) (σ : St) (H : Hp) (Q : Bool -> Hp -> Prop),Inv X pins σ H s -> t σ H Q -> wpAny (model X.prog X.w) X.A (isTrue e X.env (eval e X.env)) (TP X pins σ Q) X.xe s
noncomputable def PW (X : Cx) (e : Expr) (t : TT) : Prop :=
 ∀ (whole : Sem Value) (pins : List (Addr × Obj)) (s : Shared) (σ : St) (H : Hp) (Q : Bool -> Hp -> Prop),Inv X pins σ H s -> t σ H Q -> wpAny (model X.prog X.w) X.A (isTrue e X.env whole) (TP X pins σ Q) X.xe s
theorem PW.pt {X : Cx} {e : Expr} {t : TT} (h : PW X e t) : PT X e t:=h _
noncomputable def PA (X : Cx) (es : List Expr) (t : TA) : Prop :=
 ∀ (pos : Pos) (pins : List (Addr × Obj)) (s : Shared) (σ : St) (H : Hp) (Q : List V -> Hp -> Prop),Inv X pins σ H s -> t σ H Q -> wpAny (model X.prog X.w) X.A (spliced (backTo pos (starEach es X.env))) (AP X pins σ Q) X.xe s
noncomputable def PS (X : Cx) (st : Stmt) (t : TS) : Prop :=
 ∀ (pins : List (Addr × Obj)) (s : Shared) (σ : St) (H : Hp) (D : zhc),Inv X pins σ H s -> t D σ H -> wpAny (model X.prog X.w) X.A (exec st X.env) (SP X pins D) X.xe s
noncomputable def PSs (X : Cx) (st : List Stmt) (t : TS) : Prop :=
 ∀ (pins : List (Addr × Obj)) (s : Shared) (σ : St) (H : Hp) (D : zhc),Inv X pins σ H s -> t D σ H -> wpAny (model X.prog X.w) X.A (execs st X.env) (SP X pins D) X.xe s
theorem thn {α : Type} {t : Sem α} {Q Q' : α -> Shared -> Prop} {M : Model} {A : Around} {E : Value -> Shared -> Prop} {s : Shared} (h : wpAny M A t Q E s) (hQ : ∀ a s,Q a s -> Q' a s) : wpAny M A t Q' E s:=wpAny_mono h hQ fun _ _ x=>x
section
variable {X : Cx}
noncomputable def zd8 (i : Nat) : TE:=fun σ H Q=>∃ v,σ[i]? = some (some v) /\ Q v H
noncomputable def tC (v : V) : TE:=fun _ H Q=>Q v H
theorem zhj {i : Nat} {x : Str} {pos : Pos} (hN : X.N[i]? = some x) (hv : Vis X.env.scope x) (hd : (x == ("__debug__" : Str)) = false:=by decide) (hcd : (x == ("__classdict__" : Str)) = false:=by decide) : PE X (.Name x pos) (zd8 i):=by
 intro pins s σ H Q I h
 obtain ⟨v,e,h⟩:=h
 obtain ⟨m,hn,hl⟩:=I.loc
 obtain ⟨u,r,l⟩:=hl i x v hN e hv
 have fin : EP X pins σ Q u s:=⟨v,H,I,r,h⟩
 rcases l with ⟨hk,hm⟩ | ⟨hk,c,hc,hcell⟩
 ·exact wpAny_Name (wpAny_loadName_local I.ok.kind hk hn hm fin) hd
 ·rcases hk with hk | hk
  ·exact wpAny_Name (wpAny_loadName_cell I.ok.kind hk hc hcell fin) hd
  ·exact wpAny_Name (wpAny_loadName_free I.ok.kind hk hc hcell fin hcd) hd
theorem zvy {i j pos} : PE X (.Constant (.int i) j pos) (tC (.int i)):=fun _ _ _ H _ I h=>wpAny_Constant_int ⟨.int i,H,I.tok _,⟨_,rfl⟩,h⟩
theorem z8u {b j pos} : PE X (.Constant (.bool b) j pos) (tC (.bl b)):=fun _ _ _ H _ I h=>Constant_bool ⟨.bl b,H,I,rfl,h⟩
theorem z6e {j pos} : PE X (.Constant .none j pos) (tC .non):=fun _ _ _ H _ I h=>Constant_none ⟨.non,H,I,rfl,h⟩
theorem z1x {x j pos} : PE X (.Constant (.str x) j pos) (tC (.str x)):=fun _ _ _ H _ I h=>Calls.Constant_str ⟨.str x,H,I.tok _,⟨_,rfl⟩,h⟩
noncomputable def Gl (X : Cx) (x : Str) : Prop:=X.env.kindOf x = some .globalImplicit
theorem zss {E : Value -> Shared -> Prop} {pins : List (Addr × Obj)} {s : Shared} {σ : St} {H : Hp} {x : Str} {u : Value} {pos : Pos} {Q : Value -> Shared -> Prop} (I : Inv X pins σ H s) (hg : Gl X x) (hm : X.mg x = some u) (h : Q u s)
  (hd : (x == ("__debug__" : Str)) = false:=by decide) : wpAny (model X.prog X.w) X.A (eval (.Name x pos) X.env) Q E s :=
 Calls.Name_function_global I.ok.kind hg (Calls.loadGlobal_global (by rw [I.ok.glob]; exact I.mod.glob.keeps I.bk) hm h) hd
theorem zf5 {E : Value -> Shared -> Prop} {pins : List (Addr × Obj)} {s : Shared} {σ : St} {H : Hp} {x : Str} {u : Value} {pos : Pos} {Q : Value -> Shared -> Prop} (I : Inv X pins σ H s) (hg : Gl X x) (hm : X.mg x = none) (hv : bootBuiltins x = some u) (h : Q u s)
  (hn : x ≠ "__name__":=by decide) (hd : (x == ("__debug__" : Str)) = false:=by decide) : wpAny (model X.prog X.w) X.A (eval (.Name x pos) X.env) Q E s:=by
 obtain ⟨mb,h1,h2⟩:=I.mod.blt
 exact Calls.Name_function_global I.ok.kind hg (Calls.loadGlobal_builtin (by rw [I.ok.glob]; exact I.mod.glob.keeps I.bk) hm (by rw [I.ok.blt]; exact h1.keeps I.bk) ((h2 x hn).trans hv) h) hd
theorem zxp {x : Str} {v : V} {u : Value} {pos : Pos} (hg : Gl X x) (hm : X.mg x = none) (hv : bootBuiltins x = some u) (r : zaw v u) (hn : x ≠ "__name__":=by decide) (hd : (x == ("__debug__" : Str)) = false:=by decide) : PE X (.Name x pos) (tC v) :=
 fun _ _ _ H _ I h=>zf5 I hg hm hv ⟨v,H,I,r,h⟩ hn hd
variable {a b : Expr} {ta tb : TE} {pos : Pos}
noncomputable def PC (X : Cx) (op : CmpOp) (a b : Expr) (t : TE) : Prop :=
 ∀ (pins : List (Addr × Obj)) (s : Shared) (σ : St) (H : Hp) (Q : VK),Inv X pins σ H s -> t σ H Q ->
  wpAny (model X.prog X.w) X.A (eval a X.env) (fun v s₁=>wpAny (model X.prog X.w) X.A (eval b X.env) (fun u s₂=>wpAny (model X.prog X.w) X.A (compareOp op v u) (EP X pins σ Q) X.xe s₂) X.xe s₁) X.xe s
theorem zr8 (b : Expr) {op : CmpOp} (h : op ≠ .In) (h2 : op ≠ .NotIn) : behindInMarks op b = false:=by
 have e1 : (op == CmpOp.In) = false:=by cases op <;> first | rfl | exact absurd rfl h
 have e2 : (op == CmpOp.NotIn) = false:=by cases op <;> first | rfl | exact absurd rfl h2
 cases b <;> simp [behindInMarks,e1,e2]
theorem z0m {op : CmpOp} {t : TE} (h : PC X op a b t) (h1 : behindInMarks op b = false:=by first | exact zr8 _ (by decide) (by decide) | rfl) : PE X (.Compare a [op] [b] pos) t:=fun pins s σ H Q I hw=>wpAny_Compare1 (h pins s σ H Q I hw) h1
variable {tA tB' : TT} {zcd : List Expr}
noncomputable def zxw (t u : TT) : TT:=fun σ H Q=>t σ H fun c H1=>if c = true then u σ H1 Q else Q false H1
noncomputable def tOr (t u : TT) : TT:=fun σ H Q=>t σ H fun c H1=>if c = true then Q true H1 else u σ H1 Q
noncomputable def z0u (t : TT) : TT:=fun σ H Q=>t σ H fun c H1=>Q (!c) H1
theorem z3z (ha : PT X a tA) : PW X (.BoolOp .And [a] pos) tA:=by
 intro wh pins s σ H Q I h
 refine isTrue_and (thn (ha pins s σ H Q I h) fun c s1 e=>?_)
 cases c with
 | true=>exact isTrue_and_nil e
 | false=>exact e
theorem z72 (ha : PT X a tA) : PW X (.BoolOp .Or [a] pos) tA:=by
 intro wh pins s σ H Q I h
 refine isTrue_or (thn (ha pins s σ H Q I h) fun c s1 e=>?_)
 cases c with
 | false=>exact isTrue_or_nil e
 | true=>exact e
theorem z4m (ha : PT X a tA) (hb : PW X (.BoolOp .And (b :: zcd) pos) tB') : PW X (.BoolOp .And (a :: b :: zcd) pos) (zxw tA tB'):=by
 intro wh pins s σ H Q I h
 refine isTrue_and (thn (ha pins s σ H _ I h) fun c s1 ⟨H1,I1,q1⟩=>?_)
 cases c with
 | true=>exact hb wh pins s1 σ H1 Q I1 q1
 | false=>exact ⟨H1,I1,q1⟩
theorem zxl (ha : PT X a tA) (hb : PW X (.BoolOp .Or (b :: zcd) pos) tB') : PW X (.BoolOp .Or (a :: b :: zcd) pos) (tOr tA tB'):=by
 intro wh pins s σ H Q I h
 refine isTrue_or (thn (ha pins s σ H _ I h) fun c s1 ⟨H1,I1,q1⟩=>?_)
 cases c with
 | true=>exact ⟨H1,I1,q1⟩
 | false=>exact hb wh pins s1 σ H1 Q I1 q1
theorem zvs (ha : PT X a tA) : PT X (.UnaryOp .Not a pos) (z0u tA):=by
 intro pins s σ H Q I h
 exact isTrue_not (ha pins s σ H (fun c H1=>Q (!c) H1) I h)
noncomputable def z28 (ta tb : TE) : TE:=fun σ H Q=>ta σ H fun x H1=>∃ c,x = .bl c /\ if c = true then tb σ H1 Q else Q (.bl false) H1
noncomputable def zyi (ta tb : TE) : TE:=fun σ H Q=>ta σ H fun x H1=>∃ c,x = .bl c /\ if c = true then Q (.bl true) H1 else tb σ H1 Q
noncomputable def zzr (ta : TE) : TE:=fun σ H Q=>ta σ H fun x H1=>∃ c,x = .bl c /\ Q (.bl (!c)) H1
theorem zzy {op} {t : TE} (h : PE X a t) : PE X (.BoolOp op [a] pos) t:=fun pins s σ H Q I hw=>BoolOp_one (h pins s σ H Q I hw)
theorem zz2 (ha : PE X a ta) (hb : PE X (.BoolOp .And (b :: zcd) pos) tb) : PE X (.BoolOp .And (a :: b :: zcd) pos) (z28 ta tb):=by
 intro pins s σ H Q I h
 refine BoolOp_and (thn (ha pins s σ H _ I h) fun v s1 ⟨x,H1,I1,r1,q1⟩=>?_)
 obtain ⟨c,rfl,q1⟩:=q1
 cases r1
 refine wpAny_truthy_bool ?_
 cases c with
 | true=>exact hb pins s1 σ H1 Q I1 q1
 | false=>exact ⟨.bl false,H1,I1,rfl,q1⟩
theorem zx1 (ha : PE X a ta) (hb : PE X (.BoolOp .Or (b :: zcd) pos) tb) : PE X (.BoolOp .Or (a :: b :: zcd) pos) (zyi ta tb):=by
 intro pins s σ H Q I h
 refine BoolOp_or (thn (ha pins s σ H _ I h) fun v s1 ⟨x,H1,I1,r1,q1⟩=>?_)
 obtain ⟨c,rfl,q1⟩:=q1
 cases r1
 refine wpAny_truthy_bool ?_
 cases c with
 | false=>exact hb pins s1 σ H1 Q I1 q1
 | true=>exact ⟨.bl true,H1,I1,rfl,q1⟩
theorem z5r (ha : PE X a ta) : PE X (.UnaryOp .Not a pos) (zzr ta):=by
 intro pins s σ H Q I h
 refine UnaryOp_ (thn (ha pins s σ H _ I h) fun v s1 ⟨x,H1,I1,r1,q1⟩=>?_)
 obtain ⟨c,rfl,q1⟩:=q1
 cases r1
 exact not_of (wpAny_truthy_bool ⟨.bl (!c),H1,I1,rfl,q1⟩)
end
noncomputable def SqL (K : PySem.W.Frag) (H : Hp) (a : Addr) (xs : List V) : Prop :=
 Rd H a (.lst xs) \/
  ∃ (o : Obj) (its : Array Value) (n : Nat),K.lookup a = some o /\ o.cls = .type "list" /\ o.dict = none /\ o.data = .seq its n /\ its.size <= sizeLine /\ zas xs its.toList
noncomputable def SqT (K : PySem.W.Frag) (H : Hp) (a : Addr) (xs : List V) : Prop :=
 Rd H a (.tup xs) \/
  ∃ (o : Obj) (its : Array Value) (n : Nat),K.lookup a = some o /\ o.cls = .type "tuple" /\ o.data = .seq its n /\ its.size <= sizeLine /\ zas xs its.toList
noncomputable def zwu : Value -> Option V
 | .none=>some .non
 | .bool b=>some (.bl b)
 | .int i _=>some (.int i)
 | .str x _=>some (.str x)
 | .bytes b _=>some (.byt b)
 | .float b _=>some (.flt b)
 | .ref a=>some (.ref a)
 | .type n=>some (.ty n)
 | _=>none
theorem zaw.abs {x : V} {u : Value} (r : zaw x u) : zwu u = some x:=by
 cases x with
 | non=>cases r; rfl
 | bl _=>cases r; rfl
 | int _=>obtain ⟨t,rfl⟩:=r; rfl
 | str _=>obtain ⟨t,rfl⟩:=r; rfl
 | byt _=>obtain ⟨t,rfl⟩:=r; rfl
 | flt _=>obtain ⟨t,rfl⟩:=r; rfl
 | ref _=>cases r; rfl
 | ty _=>cases r; rfl
theorem zaw.inj {x y : V} {u : Value} (r : zaw x u) (q : zaw y u) : x = y:=Option.some.inj (r.abs.symm.trans q.abs)
theorem zas.inj : ∀ {xs ys : List V} {us : List Value},zas xs us -> zas ys us -> xs = ys
 | _,_,_,.nil,.nil=>rfl
 | _,_,_,.cons r t,.cons r' t'=>by rw [r.inj r',zas.inj t t']
section
variable {X : Cx} {pins : List (Addr × Obj)} {σ : St} {H : Hp} {s : Shared} {a : Addr} {xs ys : List V}
theorem SqL.of {K : PySem.W.Frag} (h : H a = some (.lst xs)) : SqL K H a xs:=.inl (.inl h)
theorem SqT.of {K : PySem.W.Frag} (h : H a = some (.tup xs)) : SqT K H a xs:=.inl (.inl h)
theorem Inv.list (I : Inv X pins σ H s) (h : SqL X.K H a xs) : ∃ its : List Value,zas xs its /\ PlainL s.heap a its.toArray /\ xs.length <= sizeLine:=by
 rcases h with h | ⟨o,its,n,hk,hc,hd,hs,hz,r⟩
 ·obtain ⟨z,its,n,r,e⟩:=h.ok I.hok
  exact ⟨its,r,⟨_,n,e,rfl,rfl,rfl⟩,z⟩
 ·refine ⟨its.toList,r,⟨o,n,I.kIn a o hk,hc,hd,by simpa using hs⟩,?_⟩
  have e:=r.length
  simp only [Array.length_toList] at e
  omega
theorem Inv.tuple (I : Inv X pins σ H s) (h : SqT X.K H a xs) : ∃ its : List Value,zas xs its /\ IsTup s.heap a its.toArray /\ xs.length <= sizeLine:=by
 rcases h with h | ⟨o,its,n,hk,hc,hs,hz,r⟩
 ·obtain ⟨z,its,r,p⟩:=h.ok I.hok
  exact ⟨its,r,p,z⟩
 ·refine ⟨its.toList,r,⟨o,I.kIn a o hk,hc,n,by simpa using hs⟩,?_⟩
  have e:=r.length
  simp only [Array.length_toList] at e
  omega
theorem Inv.list_inj (I : Inv X pins σ H s) (h : SqL X.K H a xs) (h' : SqL X.K H a ys) : xs = ys:=by
 obtain ⟨its,r,⟨o,n,e,_,_,d⟩,_⟩:=I.list h
 obtain ⟨its',r',⟨o',n',e',_,_,d'⟩,_⟩:=I.list h'
 rw [e] at e'; cases e'
 rw [d] at d'
 injection d' with d1 _
 have : its = its':=by simpa using congrArg Array.toList d1
 subst this
 exact r.inj r'
theorem Inv.tuple_inj (I : Inv X pins σ H s) (h : SqT X.K H a xs) (h' : SqT X.K H a ys) : xs = ys:=by
 obtain ⟨its,r,⟨o,e,_,n,d⟩,_⟩:=I.tuple h
 obtain ⟨its',r',⟨o',e',_,n',d'⟩,_⟩:=I.tuple h'
 rw [e] at e'; cases e'
 rw [d] at d'
 injection d' with d1 _
 have : its = its':=by simpa using congrArg Array.toList d1
 subst this
 exact r.inj r'
end
noncomputable abbrev Cx.wish (X : Cx) (E : Value -> Shared -> Prop) : Cx:={ X with xe:=E }
noncomputable abbrev Cx.nox (X : Cx) : Cx:=X.wish fun _ _=>False
theorem Cx.Ok.wish {X : Cx} (ok : X.Ok) (E : Value -> Shared -> Prop) : (X.wish E).Ok :=
 ⟨ok.mod,ok.kind,ok.glob,ok.blt,ok.above,ok.inj,ok.has,ok.cab,ok.hd,ok.frames,ok.stk,ok.exf,ok.bs,ok.bsz,ok.noex,ok.exfs,ok.funs,ok.frf⟩
theorem Cx.Ok.unwish {X : Cx} {E : Value -> Shared -> Prop} (ok : (X.wish E).Ok) : X.Ok :=
 ⟨ok.mod,ok.kind,ok.glob,ok.blt,ok.above,ok.inj,ok.has,ok.cab,ok.hd,ok.frames,ok.stk,ok.exf,ok.bs,ok.bsz,ok.noex,ok.exfs,ok.funs,ok.frf⟩
section
variable {X : Cx} {pins : List (Addr × Obj)} {σ : St} {H : Hp} {s : Shared} {E : Value -> Shared -> Prop}
theorem Inv.wish (I : Inv X pins σ H s) (E : Value -> Shared -> Prop) : Inv (X.wish E) pins σ H s:=⟨I.ok.wish E,I.os,I.bare,I.base,I.loc,I.cell,I.free,I.freeC,I.pin,I.hok,I.len⟩
theorem Inv.unwish (I : Inv (X.wish E) pins σ H s) : Inv X pins σ H s:=⟨I.ok.unwish,I.os,I.bare,I.base,I.loc,I.cell,I.free,I.freeC,I.pin,I.hok,I.len⟩
theorem SP.unwish {D : zhc} {f : Flow} {s' : Shared} (h : SP (X.wish E) pins D f s') : SP X pins D f s':=by
 cases f with
 | next=>obtain ⟨σ',H',I,q⟩:=h; exact ⟨σ',H',I.unwish,q⟩
 | brk=>obtain ⟨σ',H',I,q⟩:=h; exact ⟨σ',H',I.unwish,q⟩
 | cont=>obtain ⟨σ',H',I,q⟩:=h; exact ⟨σ',H',I.unwish,q⟩
 | ret u=>obtain ⟨v,σ',H',I,r,q⟩:=h; exact ⟨v,σ',H',I.unwish,r,q⟩
theorem PE.nox {e : Expr} {t : TE} (h : PE X.nox e t) : PE X e t:=fun pins s σ H Q I hw =>
 wpAny_mono (h pins s σ H Q (I.wish _) hw) (fun _ _ ⟨v,H',I',r,q⟩=>⟨v,H',I'.unwish,r,q⟩) fun _ _ z=>False.elim z
theorem PT.nox {e : Expr} {t : TT} (h : PT X.nox e t) : PT X e t:=fun pins s σ H Q I hw =>
 wpAny_mono (h pins s σ H Q (I.wish _) hw) (fun _ _ ⟨H',I',q⟩=>⟨H',I'.unwish,q⟩) fun _ _ z=>False.elim z
theorem PSs.nox {st : List Stmt} {t : TS} (h : PSs X.nox st t) : PSs X st t:=fun pins s σ H D I hw =>
 wpAny_mono (h pins s σ H D (I.wish _) hw) (fun _ _ q=>q.unwish) fun _ _ z=>False.elim z
end
section
variable {X : Cx} {st : Stmt} {zcd : List Stmt} {t u : TS} {e : Expr} {te : TE} {pos : Pos}
noncomputable def zw5 : TS:=fun D σ H=>D.nx σ H
noncomputable def zy8 (t u : TS) : TS:=fun D σ H=>t { D with nx:=u D } σ H
theorem zqu : PSs X [] zw5:=fun _ _ σ H _ I h=>wpAny_execs_nil ⟨σ,H,I,h⟩
theorem zu7 (h1 : PS X st t) (h2 : PSs X zcd u) : PSs X (st :: zcd) (zy8 t u):=by
 intro pins s σ H D I h
 refine wpAny_execs_cons (thn (h1 pins s σ H { D with nx:=u D } I h) fun f s1 q=>?_)
 cases f with
 | next =>
  obtain ⟨σ',H',I',q⟩:=q
  exact h2 pins s1 σ' H' D I' q
 | ret v=>exact q
 | brk=>exact q
 | cont=>exact q
theorem zxz (h1 : PS X st t) : PSs X [st] t:=by
 intro pins s σ H D I h
 refine wpAny_execs_cons (thn (h1 pins s σ H D I h) fun f s1 q=>?_)
 cases f with
 | next=>exact wpAny_execs_nil q
 | ret v=>exact q
 | brk=>exact q
 | cont=>exact q
theorem Inv.quiet {pins : List (Addr × Obj)} {σ : St} {H : Hp} {s : Shared} (I : Inv X pins σ H s) : interactive X.env = false:=by simp [interactive,I.ok.kind]
noncomputable def zqb (te : TE) : TS:=fun D σ H=>te σ H fun _ H1=>D.nx σ H1
theorem zfl (he : PE X e te) (hs : swapsWith e none pos.line X.env = pure false:=by rfl) : PS X (.Expr e pos) (zqb te):=by
 intro pins s σ H D I h
 exact wpAny_Expr_any (thn (he pins s σ H _ I h) fun v s1 ⟨x,H1,I1,r1,q1⟩=>⟨σ,H1,I1,q1⟩) I.quiet hs
noncomputable def z3s (te : TE) : TS:=fun D σ H=>te σ H D.rt
theorem zni (he : PE X e te) : PS X (.Return (some e) pos) (z3s te):=by
 intro pins s σ H D I h
 exact wpAny_Return_some (thn (he pins s σ H _ I h) fun v s1 ⟨x,H1,I1,r1,q1⟩=>⟨x,σ,H1,I1,r1,q1⟩)
noncomputable def zwv (c : TT) (t u : TS) : TS:=fun D σ H=>c σ H fun b H1=>if b = true then t D σ H1 else u D σ H1
theorem zwo {c : Expr} {a b : List Stmt} {tc : TT} (hc : PT X c tc) (ha : PSs X a t) (hb : PSs X b u) : PS X (.If c a b pos) (zwv tc t u):=by
 intro pins s σ H D I h
 refine wpAny_If (thn (hc pins s σ H _ I h) fun d s1 ⟨H1,I1,q1⟩=>?_)
 cases d with
 | true=>exact ha pins s1 σ H1 D I1 q1
 | false=>exact hb pins s1 σ H1 D I1 q1
end
noncomputable abbrev TG:=V -> St -> Hp -> (St -> Hp -> Prop) -> Prop
noncomputable abbrev TGs:=List V -> St -> Hp -> (St -> Hp -> Prop) -> Prop
noncomputable def PG (X : Cx) (target : Expr) (t : TG) : Prop :=
 ∀ (pins : List (Addr × Obj)) (s : Shared) (σ : St) (H : Hp) (v : V) (u : Value) (Q : St -> Hp -> Prop),Inv X pins σ H s -> zaw v u -> t v σ H Q ->
  wpAny (model X.prog X.w) X.A (assign target X.env u) (fun _ s'=>∃ σ' H',Inv X pins σ' H' s' /\ Q σ' H') X.xe s
noncomputable def PGs (X : Cx) (ts : List Expr) (t : TGs) : Prop :=
 ∀ (pins : List (Addr × Obj)) (s : Shared) (σ : St) (H : Hp) (vs : List V) (us : List Value) (Q : St -> Hp -> Prop),Inv X pins σ H s -> zas vs us -> t vs σ H Q ->
  wpAny (model X.prog X.w) X.A (assignInOrder ((assignEach ts X.env).map (·.2)) us) (fun _ s'=>∃ σ' H',Inv X pins σ' H' s' /\ Q σ' H') X.xe s
noncomputable abbrev znj:=V -> V -> V -> Hp -> (Hp -> Prop) -> Prop
noncomputable def zu4 (X : Cx) (t : znj) : Prop :=
 ∀ (pins : List (Addr × Obj)) (s : Shared) (σ : St) (H : Hp) (o i v : V) (ov iv u : Value) (Q : Hp -> Prop),Inv X pins σ H s -> zaw o ov -> zaw i iv -> zaw v u -> t o i v H Q ->
  wpAny (model X.prog X.w) X.A (setItem ov iv u) (fun _ s'=>∃ H',Inv X pins σ H' s' /\ Q H') X.xe s
section
variable {X : Cx} {pos : Pos}
noncomputable def zhb (i : Nat) : TG:=fun v σ H Q=>Q (σ.set i (some v)) H
theorem zu9 {i : Nat} {x : Str} (hN : X.N.Nodup) (hi : X.N[i]? = some x) (hx : Loc X.env.scope x) (hf : X.fn x = true \/ X.env.scope.names.lookup x = some .local:=by first | exact .inl rfl | exact .inr rfl | assumption) : PG X (.Name x pos) (zhb i):=by
 intro pins s σ H v u Q I r h
 exact wpAny_assign_Name (zr5 I hN hi hx r (fun s' I'=>⟨_,H,I',h⟩) hf)
noncomputable def zye : TGs:=fun vs σ H Q=>vs = [] /\ Q σ H
noncomputable def z7g (t : TG) (u : TGs) : TGs:=fun vs σ H Q=>∃ v r,vs = v :: r /\ t v σ H fun σ' H'=>u r σ' H' Q
theorem z7s : PGs X [] zye:=by
 intro pins s σ H vs us Q I r h
 obtain ⟨e,h⟩:=h
 subst e
 cases r
 exact assignInOrder_nil ⟨σ,H,I,h⟩
theorem z0c {e : Expr} {es : List Expr} {t : TG} {u : TGs} (h1 : PG X e t) (h2 : PGs X es u)
  (hs : (assignEach (e :: es) X.env).map (·.2) = assign e X.env :: (assignEach es X.env).map (·.2):=by rfl) : PGs X (e :: es) (z7g t u):=by
 intro pins s σ H vs us Q I r h
 obtain ⟨v,vr,e1,h⟩:=h
 subst e1
 cases r with
 | cons r rr =>
  rw [hs]
  refine assignInOrder_cons (thn (h1 pins s σ H _ _ _ I r h) fun _ s1 ⟨σ1,H1,I1,q1⟩=>?_)
  exact h2 pins s1 σ1 H1 _ _ Q I1 rr q1
noncomputable def zym (K : PySem.W.Frag) (n : Nat) (t : TGs) : TG:=fun v σ H Q=>∃ a xs,v = .ref a /\ SqT K H a xs /\ xs.length = n /\ t xs σ H Q
theorem z1s {es : List Expr} {k : Nat} {t : TGs} {n : Nat} (hc : X.calm = true) (h : PGs X es t)
  (hn : (assignEach es X.env).length = n:=by rfl) (hst : (assignEach es X.env).findIdx? (·.1) = none:=by rfl) : PG X (.Tuple es k pos) (zym X.K n t):=by
 intro pins s σ H v u Q I r hw
 obtain ⟨a,xs,e1,hq,hl,hw⟩:=hw
 subst e1
 cases r
 obtain ⟨its,rv,ht,hz⟩:=I.tuple hq
 refine assign_Tuple_tuple (I.ok.hd hc) ht (by simp [hn,<- hl,rv.length]) hst fun h' hx=>?_
 have I1 : Inv X pins σ H { s with heap:=h' }:=I.kept (t':=s.toks) fun b o e=>hx b o (Nat.ne_of_lt (Heap.lt_size e)) e
 exact h pins _ σ H xs _ Q I1 (by simpa using rv) hw
noncomputable def zud (to ti : TE) (t : znj) : TG:=fun v σ H Q=>to σ H fun o H1=>ti σ H1 fun i H2=>t o i v H2 fun H3=>Q σ H3
theorem z5m {o i : Expr} {to ti : TE} {t : znj} (ho : PE X o to) (hi : PE X i ti) (hs : zu4 X t)
  (ha : ∀ v,assign (.Subscript o i pos) X.env v = (do
   let ov <- holding [v] (eval o X.env)
   let iv <- holding [v,ov] (eval i X.env)
   standAt pos
   holding [v,ov,iv] (setItem ov iv v)
   release [v,ov,iv] []):=by intro _; rfl) : PG X (.Subscript o i pos) (zud to ti t):=by
 intro pins s σ H v u Q I r h
 rw [ha]
 refine wpAny_bind (wpAny_holding (thn (ho pins s σ H _ I h) fun ov s1 ⟨x,H1,I1,r1,q1⟩=>?_))
 refine wpAny_bind (wpAny_holding (thn (hi pins s1 σ H1 _ I1 q1) fun iv s2 ⟨y,H2,I2,r2,q2⟩=>?_))
 refine wpAny_bind (wpAny_standAt (wpAny_bind (wpAny_holding (thn (hs pins s2 σ H2 x y v ov iv u _ I2 r1 r2 r q2) fun _ s3 ⟨H3,I3,q3⟩=>?_))))
 exact wpAny_release ⟨σ,H3,I3,q3⟩
noncomputable def zh5 (te : TE) (g : TG) : TS:=fun D σ H=>te σ H fun x H1=>g x σ H1 D.nx
theorem zsy {tg e : Expr} {te : TE} {g : TG} (he : PE X e te) (hg : PG X tg g) (hs : swapsWithSole [tg] e pos.line X.env = pure false:=by rfl) (hw : swappedStores [tg] e X.env = pure none:=by rfl)
  (h1 : (assignEach [tg] X.env).map (·.2) = [assign tg X.env]:=by rfl) : PS X (.Assign [tg] e pos) (zh5 te g):=by
 intro pins s σ H D I h
 refine wpAny_Assign_stores (thn (he pins s σ H _ I h) fun v s1 ⟨x,H1,I1,r1,q1⟩=>?_) hs hw
 rw [h1]
 exact thn (hg pins s1 σ H1 x v _ I1 r1 q1) fun _ s2 q=>q
theorem znh {i : Nat} {x : Str} {e : Expr} {te : TE} {pos' : Pos} (hN : X.N.Nodup) (hi : X.N[i]? = some x) (hx : Loc X.env.scope x) (he : PE X e te) (hs : swapsWith e (some (.Name x pos')) pos.line X.env = pure false:=by rfl) (hf : X.fn x = true \/ X.env.scope.names.lookup x = some .local:=by first | exact .inl rfl | exact .inr rfl | assumption) :
  PS X (.Assign [.Name x pos'] e pos) (zh5 te (zhb i)):=by
 intro pins s σ H D I h
 refine wpAny_Assign_Name (thn (he pins s σ H _ I h) fun v s1 ⟨y,H1,I1,r1,q1⟩=>?_) hs
 exact zr5 I1 hN hi hx r1 (fun s2 I2=>⟨_,H1,I2,q1⟩) hf
end
section
variable {X : Cx} {pos : Pos}
end
structure It where
 go : Nat -> Hp -> Prop
 yld : Nat -> Hp -> V -> Hp -> Prop
 stop : Nat -> Hp -> Prop
noncomputable def zdz (X : Cx) (pins : List (Addr × Obj)) (H : Hp) (b : Addr) : Prop :=
 H b = none /\ b ≠ X.env.locals /\ b ∉ X.fs /\ (b ∈ X.ex \/ X.s₀.heap.objs.size <= b) /\ (∀ x c,X.env.cells.lookup x = some c -> c ≠ b) /\ ∀ p ∈ X.pn ++ pins,p.1 ≠ b
theorem Inv.fpOk {X : Cx} {pins : List (Addr × Obj)} {σ : St} {H H' : Hp} {s : Shared} {b : Addr} (I : Inv X pins σ H s) (hb : s.heap.objs.size <= b) (hn : H' b = none) : zdz X pins H' b:=by
 refine ⟨hn,Nat.ne_of_gt (Nat.lt_of_lt_of_le I.lt hb),I.nofs hb,.inr (Nat.le_trans I.sz hb),fun x c e z=>?_,fun p hp z=>?_⟩
 ·obtain ⟨v,q⟩:=I.cell x c e
  exact absurd (Nat.lt_of_lt_of_le q.lt (by rw [z]; exact hb)) (Nat.lt_irrefl _)
 ·exact absurd (Nat.lt_of_lt_of_le (Heap.lt_size (I.pin p hp).1) (by rw [z]; exact hb)) (Nat.lt_irrefl _)
structure zhs (P : Program) (w : World) (K : PySem.W.Frag) (tg : Expr) (J : It) (fp : List Addr) (it : Addr) (tn : Nat -> Heap -> Prop) : Prop where
 mem : it ∈ fp
 obj : ∀ i h,tn i h -> ∀ b ∈ fp,∃ o,h.get? b = some o /\ ∀ v,o.data ≠ .cell v
 keep : ∀ i h h',tn i h -> (∀ b ∈ fp,∀ o,h.get? b = some o -> h'.get? b = some o) -> tn i h'
 item : ∀ (X : Cx),X.prog = P -> X.w = w -> X.K = K -> X.calm = true -> ∀ (i : Nat) (pins : List (Addr × Obj)) (s : Shared) (σ : St) (H : Hp) (E : Value -> Shared -> Prop),Inv X pins σ H s -> (∀ b ∈ fp,zdz X pins H b) -> tn i s.heap -> J.go i H ->
  wpAny (model P w) X.A (pyNext (.ref it)) (fun r s1=>∃ u,r = some u /\
   wpAny (model P w) X.A (letOwnedTupleGo tg (.ref it) u) (fun _ s2=>∃ x H',Inv X pins σ H' s2 /\ zaw x u /\ J.yld i H x H' /\ tn (i + 1) s2.heap /\ ∀ b ∈ fp,H' b = none) E s1) E s
 done : ∀ (X : Cx),X.prog = P -> X.w = w -> X.K = K -> X.calm = true -> ∀ (i : Nat) (pins : List (Addr × Obj)) (s : Shared) (σ : St) (H : Hp) (E : Value -> Shared -> Prop),Inv X pins σ H s -> (∀ b ∈ fp,zdz X pins H b) -> tn i s.heap -> J.stop i H ->
  wpAny (model P w) X.A (pyNext (.ref it)) (fun r s1=>r = none /\ Inv X pins σ H s1) E s
 self : ∀ (A : Around) (i : Nat) (s : Shared) (Q : Value -> Shared -> Prop) (E : Value -> Shared -> Prop),tn i s.heap -> Q (.ref it) s -> wpAny (model P w) A (pyIter (.ref it)) Q E s
noncomputable abbrev TI:=St -> Hp -> (It -> Hp -> Prop) -> Prop
noncomputable def PIE (X : Cx) (pins : List (Addr × Obj)) (σ : St) (tg : Expr) (R : It -> Hp -> Prop) (itv : Value) (s2 : Shared) : Prop :=
 ∃ (it : Addr) (fp : List Addr) (tn : Nat -> Heap -> Prop) (J : It) (H' : Hp),itv = .ref it /\ Inv X pins σ H' s2 /\ zhs X.prog X.w X.K tg J fp it tn /\ tn 0 s2.heap /\ (∀ b ∈ fp,zdz X pins H' b) /\ R J H'
noncomputable def PI (X : Cx) (tg iter : Expr) (wi : TI) : Prop :=
 ∀ (pins : List (Addr × Obj)) (s : Shared) (σ : St) (H : Hp) (R : It -> Hp -> Prop),Inv X pins σ H s -> wi σ H R ->
  wpAny (model X.prog X.w) X.A (eval iter X.env) (fun v s1=>wpAny (model X.prog X.w) X.A (pyIter v) (PIE X pins σ tg R) X.xe s1) X.xe s
theorem znm {M : Model} {A : Around} {E : Value -> Shared -> Prop} {s : Shared} {tg : Expr} {it : Addr} {u : Value} {o : Obj} {n : String} {vs : Array Value} {Q : Unit -> Shared -> Prop} (ho : s.heap.get? it = some o) (hc : o.cls = .type n) (hd : o.data = .fields vs)
    (hn : ["enumerate", "zip", "dict_itemiterator", "dict_reverseitemiterator", "odict_iterator", "itertools.zip_longest", "itertools.pairwise"].contains n = false) (hQ : Q () s) : wpAny M A (letOwnedTupleGo tg (.ref it) u) Q E s := by
  unfold letOwnedTupleGo
  cases tg <;> first
    | exact wpAny_pure hQ
    | (cases u <;> first
        | exact wpAny_pure hQ
        | (refine wpAny_bind (wpAny_load ho ?_)
           rw [hc, hd]
           show wpAny M A (if (["enumerate", "zip", "dict_itemiterator", "dict_reverseitemiterator", "odict_iterator", "itertools.zip_longest", "itertools.pairwise"].contains n && vs[0]? == some (rawInt _)) = true then _ else _) Q E s
           rw [if_neg (by intro h; rw [hn, Bool.false_and] at h; cases h)]
           exact wpAny_pure hQ))
noncomputable def Itl (K : PySem.W.Frag) (a : Addr) : It :=
 ⟨fun i H=>∃ xs x,SqL K H a xs /\ xs[i]? = some x,fun i H x H'=>H' = H /\ ∀ xs,SqL K H a xs -> xs[i]? = some x,fun i H=>∃ xs,SqL K H a xs /\ xs.length <= i⟩
noncomputable def Itt (K : PySem.W.Frag) (a : Addr) : It :=
 ⟨fun i H=>∃ xs x,SqT K H a xs /\ xs[i]? = some x,fun i H x H'=>H' = H /\ ∀ xs,SqT K H a xs -> xs[i]? = some x,fun i H=>∃ xs,SqT K H a xs /\ xs.length <= i⟩
noncomputable def Itr (lo : Int) (n : Nat) : It:=⟨fun i _=>i < n,fun i H x H'=>H' = H /\ x = .int (lo + i),fun i _=>n <= i⟩
theorem z4r {P : Program} {w : World} {K : PySem.W.Frag} {tg : Expr} (a it : Addr) : zhs P w K tg (Itl K a) [it] it (fun i h=>h.IsListIter it a i) where
 mem:=by simp
 obj:=fun i h st b hb=>by
  have e : b = it:=by simpa using hb
  subst e
  obtain ⟨o,e,c,d⟩:=st
  exact ⟨o,e,fun v z=>by rw [d] at z; cases z⟩
 keep:=fun i h h' st k=>st.at fun o e=>k it (by simp) o e
 item:=by
  intro X hP hw hK hc i pins s σ H E I hf st hg
  subst hP hw hK
  obtain ⟨xs,x,hq,hx⟩:=hg
  obtain ⟨its,rv,p,hz⟩:=I.list hq
  obtain ⟨u,hu,ru⟩:=rv.get hx
  obtain ⟨f0,f1,f2,f3,f4,f5⟩:=hf it (by simp)
  refine wpAny_pyNext_list_item st p.isList (x:=u) (by simpa using hu) fun h' st' sb=>?_
  have I1 : Inv X pins σ H { s with heap:=h' }:=I.turned (t':=s.toks) (fun b o hb e=>(sb.2 b hb).trans e) f0 f1 f3 f4 f5
  obtain ⟨o,e,c,d⟩:=id st'
  exact ⟨u,rfl,znm (s:={ s with heap:=h' }) e c d (by decide) ⟨x,H,I1,ru,⟨rfl,fun ys hy=>by rw [I.list_inj hy hq]; exact hx⟩,st',fun b hb=>(hf b hb).1⟩⟩
 done:=by
  intro X hP hw hK hc i pins s σ H E I hf st hg
  subst hP hw hK
  obtain ⟨xs,hq,hx⟩:=hg
  obtain ⟨its,rv,p,hz⟩:=I.list hq
  obtain ⟨f0,f1,f2,f3,f4,f5⟩:=hf it (by simp)
  have hl:=rv.length
  exact wpAny_pyNext_list_end (I.ok.hd hc) st p.isList (by simp; omega) fun h' eb=>⟨rfl,I.turned (t':=s.toks) (fun b o hb e=>eb b o hb e) f0 f1 f3 f4 f5⟩
 self:=fun _ _ _ _ _ st h=>wpAny_pyIter_listiter st h
theorem zzp {P : Program} {w : World} {K : PySem.W.Frag} {tg : Expr} (a it : Addr) : zhs P w K tg (Itt K a) [it] it (fun i h=>h.IsTupleIter it a i) where
 mem:=by simp
 obj:=fun i h st b hb=>by
  have e : b = it:=by simpa using hb
  subst e
  obtain ⟨o,e,c,d⟩:=st
  exact ⟨o,e,fun v z=>by rw [d] at z; cases z⟩
 keep:=fun i h h' st k=>st.at fun o e=>k it (by simp) o e
 item:=by
  intro X hP hw hK hc i pins s σ H E I hf st hg
  subst hP hw hK
  obtain ⟨xs,x,hq,hx⟩:=hg
  obtain ⟨its,rv,p,hz⟩:=I.tuple hq
  obtain ⟨u,hu,ru⟩:=rv.get hx
  obtain ⟨f0,f1,f2,f3,f4,f5⟩:=hf it (by simp)
  refine wpAny_pyNext_tuple_item st (show s.heap.IsTuple a its.toArray from p) (x:=u) (by simpa using hu) fun h' st' sb=>?_
  have I1 : Inv X pins σ H { s with heap:=h' }:=I.turned (t':=s.toks) (fun b o hb e=>(sb.2 b hb).trans e) f0 f1 f3 f4 f5
  obtain ⟨o,e,c,d⟩:=id st'
  exact ⟨u,rfl,znm (s:={ s with heap:=h' }) e c d (by decide) ⟨x,H,I1,ru,⟨rfl,fun ys hy=>by rw [I.tuple_inj hy hq]; exact hx⟩,st',fun b hb=>(hf b hb).1⟩⟩
 done:=by
  intro X hP hw hK hc i pins s σ H E I hf st hg
  subst hP hw hK
  obtain ⟨xs,hq,hx⟩:=hg
  obtain ⟨its,rv,p,hz⟩:=I.tuple hq
  obtain ⟨f0,f1,f2,f3,f4,f5⟩:=hf it (by simp)
  have hl:=rv.length
  exact wpAny_pyNext_tuple_end (I.ok.hd hc) st (show s.heap.IsTuple a its.toArray from p) (by simp; omega) fun h' eb=>⟨rfl,I.turned (t':=s.toks) (fun b o hb e=>eb b o hb e) f0 f1 f3 f4 f5⟩
 self:=fun _ _ _ _ _ st h=>wpAny_pyIter_tupleiter st h
theorem z30 {P : Program} {w : World} {K : PySem.W.Frag} {tg : Expr} (it : Addr) (lo : Int) (n : Nat) : zhs P w K tg (Itr lo n) [it] it (fun i h=>IsRangeIter h it (lo + (i : Nat) * 1) ((n : Int) - (i : Nat)) 1) where
 mem:=by simp
 obj:=fun i h st b hb=>by
  have e : b = it:=by simpa using hb
  subst e
  exact ⟨_,st,fun v z=>by
   have z' : Data.fields _ = Data.cell v:=z
   cases z'⟩
 keep:=fun i h h' st k=>k it (by simp) _ st
 item:=by
  intro X hP hw hK hc i pins s σ H E I hf st hg
  subst hP hw hK
  obtain ⟨f0,f1,f2,f3,f4,f5⟩:=hf it (by simp)
  have W:=Walks.range (prog:=X.prog) (w:=X.w) (I.ok.hd hc) it lo 1 n
  refine W.item i s _ _ hg st fun v h' tk hv st' kk=>?_
  obtain ⟨t,rfl⟩:=hv
  have I1 : Inv X pins σ H { s with heap:=h',toks:=tk }:=I.turned (fun b o hb e=>kk b o (by simpa using hb) e) f0 f1 f3 f4 f5
  refine ⟨_,rfl,znm (s:={ s with heap:=h',toks:=tk }) (n:="range_iterator") st' rfl rfl (by decide) ⟨.int (lo + i),H,I1,⟨t,?_⟩,⟨rfl,rfl⟩,st',fun b hb=>(hf b hb).1⟩⟩
  rw [Int.mul_one]
 done:=by
  intro X hP hw hK hc i pins s σ H E I hf st hg
  subst hP hw hK
  obtain ⟨f0,f1,f2,f3,f4,f5⟩:=hf it (by simp)
  exact wpAny_pyNext_range_end (I.ok.hd hc) st (by have : n <= i:=hg; omega) fun h' eb=>⟨rfl,I.turned (t':=s.toks) (fun b o hb e=>eb b o hb e) f0 f1 f3 f4 f5⟩
 self:=fun _ _ _ _ _ st h=>wpAny_pyIter_rangeiter st h
section
variable {X : Cx} {tg : Expr}
noncomputable def z1v (K : PySem.W.Frag) (tl : TE) : TI:=fun σ H R=>tl σ H fun x H1=>∃ a,x = .ref a /\ (∃ xs,SqL K H1 a xs) /\ R (Itl K a) H1
noncomputable def zvz (K : PySem.W.Frag) (tl : TE) : TI:=fun σ H R=>tl σ H fun x H1=>∃ a,x = .ref a /\ (∃ xs,SqT K H1 a xs) /\ R (Itt K a) H1
theorem zun {l : Expr} {tl : TE} (hl : PE X l tl) : PI X tg l (z1v X.K tl):=by
 intro pins s σ H R I h
 refine thn (hl pins s σ H _ I h) fun v s1 ⟨x,H1,I1,r1,q1⟩=>?_
 obtain ⟨a,e,⟨xs,hq⟩,q⟩:=q1
 subst e
 cases r1
 obtain ⟨its,rv,p,hz⟩:=I1.list hq
 refine wpAny_pyIter_list p.isList ?_
 refine ⟨s1.heap.objs.size,[s1.heap.objs.size],_,_,H1,rfl,I1.kept (t':=s1.toks) fun b o e=>Heap.get?_push_of_some _ e,z4r a _,⟨_,Heap.get?_push_size _ rfl,rfl,rfl⟩,fun b hb=>?_,q⟩
 have e : b = s1.heap.objs.size:=by simpa using hb
 subst e
 exact I1.fpOk (Nat.le_refl _) (I1.hok.fresh (Nat.le_refl _))
theorem z6w {l : Expr} {tl : TE} (hl : PE X l tl) : PI X tg l (zvz X.K tl):=by
 intro pins s σ H R I h
 refine thn (hl pins s σ H _ I h) fun v s1 ⟨x,H1,I1,r1,q1⟩=>?_
 obtain ⟨a,e,⟨xs,hq⟩,q⟩:=q1
 subst e
 cases r1
 obtain ⟨its,rv,p,hz⟩:=I1.tuple hq
 refine wpAny_pyIter_tuple (show s1.heap.IsTuple a its.toArray from p) ?_
 refine ⟨s1.heap.objs.size,[s1.heap.objs.size],_,_,H1,rfl,I1.kept (t':=s1.toks) fun b o e=>Heap.get?_push_of_some _ e,zzp a _,⟨_,Heap.get?_push_size _ rfl,rfl,rfl⟩,fun b hb=>?_,q⟩
 have e : b = s1.heap.objs.size:=by simpa using hb
 subst e
 exact I1.fpOk (Nat.le_refl _) (I1.hok.fresh (Nat.le_refl _))
theorem z52 {pins : List (Addr × Obj)} {σ : St} {H : Hp} {s : Shared} {R : It -> Hp -> Prop} {E : Value -> Shared -> Prop} {lo hi : Int} {t u v : Tok} {tk : Nat} (I : Inv X pins σ H s) (h1 : -(2 ^ 62) <= lo) (h2 : lo < 2 ^ 62) (h3 : -(2 ^ 62) <= hi) (h4 : hi < 2 ^ 62)
  (q : R (Itr lo (hi - lo).toNat) H) : wpAny (model X.prog X.w) X.A (pyIter (.ref s.heap.objs.size)) (PIE X pins σ tg R) E { s with heap:=s.heap.push { cls:=.type "range",data:=.fields #[.int lo t,.int hi u,.int 1 v] },toks:=tk }:=by
 refine wpAny_pyIter_range (IsRange.new ..) (small_one h1 h2 h3 h4) ?_
 have I1 : Inv X pins σ H { s with heap:=s.heap.push { cls:=.type "range",data:=.fields #[.int lo t,.int hi u,.int 1 v] },toks:=tk }:=I.kept fun b o e=>Heap.get?_push_of_some _ e
 refine ⟨(s.heap.push { cls:=.type "range",data:=.fields #[.int lo t,.int hi u,.int 1 v] }).objs.size,[(s.heap.push { cls:=.type "range",data:=.fields #[.int lo t,.int hi u,.int 1 v] }).objs.size],_,_,H,rfl,
  I1.kept (t':=tk) fun b o e=>Heap.get?_push_of_some _ e,z30 _ lo (hi - lo).toNat,?_,fun b hb=>?_,q⟩
 ·have e1 : lo + ((0 : Nat) : Int) * 1 = lo:=by simp
  have e2 : (((hi - lo).toNat : Nat) : Int) - ((0 : Nat) : Int) = Builtin.Range.rangeSize lo hi 1:=by rw [rangeSize_one]; split <;> omega
  show IsRangeIter _ _ (lo + ((0 : Nat) : Int) * 1) ((((hi - lo).toNat : Nat) : Int) - ((0 : Nat) : Int)) 1
  rw [e1,e2]
  exact Heap.get?_push_size _ rfl
 ·have e : b = (s.heap.push { cls:=.type "range",data:=.fields #[.int lo t,.int hi u,.int 1 v] }).objs.size:=by simpa using hb
  subst e
  exact I1.fpOk (Nat.le_refl _) (I1.hok.fresh (Nat.le_refl _))
noncomputable def z17 (ta : TA) : TI:=fun σ H R=>ta σ H fun vs H1=>∃ j : Int,vs = [.int j] /\ -(2 ^ 62) <= j /\ j < 2 ^ 62 /\ R (Itr 0 j.toNat) H1
theorem z61 {a : Expr} {ta : TA} {p pos : Pos} (hg : Gl X "range") (hm : X.mg "range" = none) (ha : PA X [a] ta) (hs : starEach [a] X.env = [(false,eval a X.env)]:=by rfl) : PI X tg (.Call (.Name "range" p) [a] [] pos) (z17 ta):=by
 intro pins s σ H R I h
 refine Call_ (zf5 I hg hm boot_range (PyProof.Rows.callWith_type1 (thn (ha pos pins s σ H _ I h) fun us s1 ⟨vs,H1,I1,r1,q1⟩=>?_) hs rfl))
 obtain ⟨j,e,q1,q2,q⟩:=q1
 subst e
 cases r1 with
 | cons r rr =>
  cases rr
  obtain ⟨t,rfl⟩:=r
  exact call_range_1 (z52 I1 (by omega) (by omega) q1 q2 (by simpa using q))
noncomputable def zv8 (wi : TI) (g : TG) (tb : TS) : TS:=fun D σ H=>wi σ H fun J H1=>∃ W : Nat -> Nat -> St -> Hp -> Prop,(∃ m,W 0 m σ H1) /\ ∀ i m σ H,W i m σ H ->
 (J.stop i H /\ D.nx σ H) \/ (J.go i H /\ ∃ N : St -> Hp -> Prop,(∀ σ' H',N σ' H' -> ∃ m',m' < m /\ W (i + 1) m' σ' H') /\ ∀ x H',J.yld i H x H' -> g x σ H' fun σ2 H2=>tb { D with nx:=N,ct:=N,bk:=D.nx } σ2 H2)
noncomputable def zk5 (fp : List Addr) (h : Heap) : List (Addr × Obj):=fp.filterMap fun b=>(h.get? b).map fun o=>(b,o)
theorem zm6 {fp : List Addr} {h : Heap} {b : Addr} {o : Obj} (hb : b ∈ fp) (e : h.get? b = some o) : (b,o) ∈ zk5 fp h:=List.mem_filterMap.mpr ⟨b,hb,by rw [e]; rfl⟩
theorem z5l {fp : List Addr} {h : Heap} {p : Addr × Obj} (hp : p ∈ zk5 fp h) : p.1 ∈ fp /\ h.get? p.1 = some p.2:=by
 obtain ⟨b,hb,e⟩:=List.mem_filterMap.mp hp
 cases q : h.get? b with
 | none=>rw [q] at e; cases e
 | some o =>
  rw [q] at e
  have e' : (b,o) = p:=Option.some.inj e
  subst e'
  exact ⟨hb,q⟩
theorem Inv.pinned {pins : List (Addr × Obj)} {σ : St} {H : Hp} {s : Shared} {fp : List Addr} (I : Inv X pins σ H s) (hf : ∀ b ∈ fp,zdz X pins H b) (ho : ∀ b ∈ fp,∃ o,s.heap.get? b = some o /\ ∀ v,o.data ≠ .cell v) : Inv X (pins ++ zk5 fp s.heap) σ H s :=
 I.pins_of fun p hp=>(List.mem_append.mp hp).elim (fun z=>I.pin p (List.mem_append_right _ z)) fun z=>by
  obtain ⟨hb,e⟩:=z5l z
  obtain ⟨f0,f1,f2,_⟩:=hf p.1 hb
  obtain ⟨o,e',d⟩:=ho p.1 hb
  rw [e] at e'; cases e'
  exact ⟨e,f0,f1,f2,d⟩
theorem Inv.unpinned {pins pl : List (Addr × Obj)} {σ : St} {H : Hp} {s : Shared} (I : Inv X (pins ++ pl) σ H s) : Inv X pins σ H s:=I.pins_of fun p hp=>I.pin p (List.mem_append_right _ (List.mem_append_left _ hp))
theorem z8e {iter : Expr} {body : List Stmt} {wi : TI} {g : TG} {tb : TS} {pos : Pos} (hp : PassesOwn (model X.prog X.w) X.A X.env X.xe) (hc : X.calm = true) (hi : PI X tg iter wi) (hg : PG X tg g) (hb : PSs X body tb)
  (hs : ∀ x,foldedSetIterable iter X.env x = pure x:=by intro _; rfl) : PS X (.For tg iter body [] pos) (zv8 wi g tb):=by
 intro pins s σ H D I h
 refine wpAny_For (thn (hi pins s σ H _ I h) fun v s1 h1=>thn h1 fun itv s2 h2=>?_) hs
 obtain ⟨it,fp,tn,J,H2,e,I2,T,st2,f2,W,⟨m0,w0⟩,turn⟩:=h2
 subst e
 have stat : ∀ {H' : Hp},(∀ b ∈ fp,H' b = none) -> ∀ b ∈ fp,zdz X pins H' b:=fun hn b hb=>⟨hn b hb,(f2 b hb).2⟩
 refine codeAny_forLoop_any (fun n s'=>∃ i σ' H',Inv X pins σ' H' s' /\ tn i s'.heap /\ (∀ b ∈ fp,H' b = none) /\ W i n σ' H') ?_ m0 ⟨0,σ,H2,I2,st2,fun b hb=>(f2 b hb).1,w0⟩
 rintro n s3 ⟨i,σ3,H3,I3,st3,fr3,w3⟩
 rcases turn i n σ3 H3 w3 with ⟨stop,qn⟩ | ⟨go,N,hN,step⟩
 ·refine wpAny_passesOwn hp (thn (T.done X rfl rfl rfl hc i pins s3 σ3 H3 X.xe I3 (stat fr3) st3 stop) fun r s4 ⟨hr,I4⟩=>?_)
  subst hr
  exact wpAny_execs_nil ⟨σ3,H3,I4,qn⟩
 ·refine wpAny_passesOwn hp (thn (T.item X rfl rfl rfl hc i pins s3 σ3 H3 X.xe I3 (stat fr3) st3 go) fun r s4 ⟨u,hr,h4⟩=>?_)
  subst hr
  refine wpAny_passesOwn hp (thn h4 fun _ s5 ⟨x,H5,I5,r5,y5,st5,fr5⟩=>?_)
  have I5':=I5.pinned (stat fr5) (T.obj _ _ st5)
  refine wpAny_passesOwn hp (thn (hg _ s5 σ3 H5 x u _ I5' r5 (step x H5 y5)) fun _ s6 ⟨σ6,H6,I6,q6⟩=>?_)
  refine wpAny_passesOwn hp (thn (hb _ s6 σ6 H6 _ I6 q6) fun f s7 q7=>?_)
  have again : ∀ {σ7 : St} {H7 : Hp},Inv X (pins ++ zk5 fp s5.heap) σ7 H7 s7 -> N σ7 H7 -> ∃ m,m < n /\ ∃ i σ' H',Inv X pins σ' H' s7 /\ tn i s7.heap /\ (∀ b ∈ fp,H' b = none) /\ W i m σ' H':=fun {σ7 H7} I7 n7=>by
   obtain ⟨m',hm,w7⟩:=hN σ7 H7 n7
   refine ⟨m',hm,i + 1,σ7,H7,I7.unpinned,T.keep _ _ _ st5 fun b hb o e=>(I7.pin (b,o) (List.mem_append_right _ (List.mem_append_right _ (zm6 hb e)))).1,fun b hb=>?_,w7⟩
   obtain ⟨o,e,d⟩:=T.obj _ _ st5 b hb
   exact (I7.pin (b,o) (List.mem_append_right _ (List.mem_append_right _ (zm6 hb e)))).2.1
  cases f with
  | next=>obtain ⟨σ7,H7,I7,n7⟩:=q7; exact again I7 n7
  | cont=>obtain ⟨σ7,H7,I7,n7⟩:=q7; exact again I7 n7
  | brk=>obtain ⟨σ7,H7,I7,q7⟩:=q7; exact ⟨σ7,H7,I7.unpinned,q7⟩
  | ret v=>obtain ⟨x7,σ7,H7,I7,r7,q7⟩:=q7; exact ⟨x7,σ7,H7,I7.unpinned,r7,q7⟩
end
noncomputable abbrev R2:=V -> V -> Hp -> VK -> Prop
noncomputable def OpR (X : Cx) (f : Value -> Value -> Sem Value) (r : R2) : Prop :=
 ∀ (pins : List (Addr × Obj)) (s : Shared) (σ : St) (H : Hp) (x y : V) (v u : Value) (Q : VK),Inv X pins σ H s -> zaw x v -> zaw y u -> r x y H Q ->
  wpAny (model X.prog X.w) X.A (f v u) (EP X pins σ Q) X.xe s
noncomputable def UnR (X : Cx) (f : Value -> Sem Value) (r : V -> Hp -> VK -> Prop) : Prop :=
 ∀ (pins : List (Addr × Obj)) (s : Shared) (σ : St) (H : Hp) (x : V) (v : Value) (Q : VK),Inv X pins σ H s -> zaw x v -> r x H Q ->
  wpAny (model X.prog X.w) X.A (f v) (EP X pins σ Q) X.xe s
noncomputable def zdp (X : Cx) (f : Value) (r : List V -> Hp -> VK -> Prop) : Prop :=
 ∀ (pins : List (Addr × Obj)) (s : Shared) (σ : St) (H : Hp) (xs : List V) (us : List Value) (Q : VK),Inv X pins σ H s -> zas xs us -> r xs H Q ->
  wpAny (model X.prog X.w) X.A (call f us) (EP X pins σ Q) X.xe s
noncomputable def z1h (X : Cx) (r : V -> Hp -> (Bool -> Hp -> Prop) -> Prop) : Prop :=
 ∀ (pins : List (Addr × Obj)) (s : Shared) (σ : St) (H : Hp) (x : V) (v : Value) (Q : Bool -> Hp -> Prop),Inv X pins σ H s -> zaw x v -> r x H Q ->
  wpAny (model X.prog X.w) X.A (truthy v) (TP X pins σ Q) X.xe s
noncomputable def tOp (r : R2) (ta tb : TE) : TE:=fun σ H Q=>ta σ H fun x H1=>tb σ H1 fun y H2=>r x y H2 Q
noncomputable def tUn (r : V -> Hp -> VK -> Prop) (ta : TE) : TE:=fun σ H Q=>ta σ H fun x H1=>r x H1 Q
noncomputable def rI (C : Int -> Int -> Prop) (g : Int -> Int -> V) : R2:=fun x y H Q=>∃ i j,x = .int i /\ y = .int j /\ C i j /\ Q (g i j) H
noncomputable def rI0 (g : Int -> Int -> V) : R2:=fun x y H Q=>∃ i j,x = .int i /\ y = .int j /\ Q (g i j) H
noncomputable def rU (g : Int -> V) : V -> Hp -> VK -> Prop:=fun x H Q=>∃ i,x = .int i /\ Q (g i) H
section
variable {X : Cx} {a b c : Expr} {ta tb tc : TE} {pos : Pos}
theorem zpg (ha : PE X a ta) (hb : PE X b tb) {pins : List (Addr × Obj)} {s : Shared} {σ : St} {H : Hp} {R : V -> V -> Hp -> Prop} (I : Inv X pins σ H s)
  (h : ta σ H fun x H1=>tb σ H1 fun y H2=>R x y H2) {Q : Value -> Shared -> Prop} {f : Value -> Value -> Sem Value}
  (hf : ∀ v u s2 x y H2,Inv X pins σ H2 s2 -> zaw x v -> zaw y u -> R x y H2 -> wpAny (model X.prog X.w) X.A (f v u) Q X.xe s2) :
  wpAny (model X.prog X.w) X.A (eval a X.env) (fun v s₁=>wpAny (model X.prog X.w) X.A (eval b X.env) (fun u s₂=>wpAny (model X.prog X.w) X.A (f v u) Q X.xe s₂) X.xe s₁) X.xe s:=by
 refine thn (ha pins s σ H _ I h) fun v s1 ⟨x,H1,I1,r1,q1⟩=>?_
 refine thn (hb pins s1 σ H1 _ I1 q1) fun u s2 ⟨y,H2,I2,r2,q2⟩=>?_
 exact hf v u s2 x y H2 I2 r1 r2 q2
theorem zvh {op : Operator} {r : R2} (ho : OpR X (binaryOp op) r) (ha : PE X a ta) (hb : PE X b tb) : PE X (.BinOp a op b pos) (tOp r ta tb):=by
 intro pins s σ H Q I h
 exact wpAny_BinOp (zpg ha hb I h fun v u s2 x y H2 I2 rx ry q=>ho pins s2 σ H2 x y v u Q I2 rx ry q)
theorem z0d {op : UnaryOp} {r : V -> Hp -> VK -> Prop} (ho : UnR X (unaryOp op) r) (ha : PE X a ta) : PE X (.UnaryOp op a pos) (tUn r ta):=by
 intro pins s σ H Q I h
 exact UnaryOp_ (thn (ha pins s σ H _ I h) fun v s1 ⟨x,H1,I1,r1,q1⟩=>ho pins s1 σ H1 x v Q I1 r1 q1)
theorem opI {f : Value -> Value -> Sem Value} {C : Int -> Int -> Prop} {g : Int -> Int -> Int}
  (rule : ∀ (i j : Int) (t u : Tok) (s : Shared) (Q : Value -> Shared -> Prop) (E : Value -> Shared -> Prop),C i j -> Q (.int (g i j) s.toks) { s with toks:=s.toks + 1 } -> wpAny (model X.prog X.w) X.A (f (.int i t) (.int j u)) Q E s) :
  OpR X f (rI C fun i j=>.int (g i j)):=by
 intro pins s σ H x y v u Q I rx ry h
 obtain ⟨i,j,rfl,rfl,hc,q⟩:=h
 obtain ⟨t,rfl⟩:=rx
 obtain ⟨t',rfl⟩:=ry
 exact rule i j t t' s _ _ hc ⟨.int (g i j),H,I.tok _,⟨_,rfl⟩,q⟩
theorem zq3 {f : Value -> Value -> Sem Value} {g : Int -> Int -> Int}
  (rule : ∀ (i j : Int) (t u : Tok) (s : Shared) (Q : Value -> Shared -> Prop) (E : Value -> Shared -> Prop),Q (.int (g i j) s.toks) { s with toks:=s.toks + 1 } -> wpAny (model X.prog X.w) X.A (f (.int i t) (.int j u)) Q E s) :
  OpR X f (rI0 fun i j=>.int (g i j)):=by
 intro pins s σ H x y v u Q I rx ry h
 obtain ⟨i,j,rfl,rfl,q⟩:=h
 obtain ⟨t,rfl⟩:=rx
 obtain ⟨t',rfl⟩:=ry
 exact rule i j t t' s _ _ ⟨.int (g i j),H,I.tok _,⟨_,rfl⟩,q⟩
theorem zma {f : Value -> Value -> Sem Value} {g : Int -> Int -> Bool}
  (rule : ∀ (i j : Int) (t u : Tok) (s : Shared) (Q : Value -> Shared -> Prop) (E : Value -> Shared -> Prop),Q (.bool (g i j)) s -> wpAny (model X.prog X.w) X.A (f (.int i t) (.int j u)) Q E s) :
  OpR X f (rI0 fun i j=>.bl (g i j)):=by
 intro pins s σ H x y v u Q I rx ry h
 obtain ⟨i,j,rfl,rfl,q⟩:=h
 obtain ⟨t,rfl⟩:=rx
 obtain ⟨t',rfl⟩:=ry
 exact rule i j t t' s _ _ ⟨.bl (g i j),H,I,rfl,q⟩
noncomputable def zk2 (i j : Int) : Prop:=0 < j /\ j < 1073741824
noncomputable def zhp (i j : Int) : Prop:=0 <= j /\ j <= 1000000 /\ i.natAbs < 2 ^ 64
noncomputable def zh9 (i j : Int) : Prop:=(-(2 ^ 64) < i /\ i < 2 ^ 64) \/ (-(2 ^ 64) < j /\ j < 2 ^ 64)
theorem zh9.ok {i j : Int} (h : zh9 i j) : IntMulOk i j:=by
 rcases h with ⟨h1,h2⟩ | ⟨h1,h2⟩
 ·exact .of_left (intBits_le_64 h1 h2)
 ·exact .of_right (intBits_le_64 h1 h2)
theorem zv5 : OpR X (binaryOp .Add) (rI0 fun i j=>.int (i + j)):=zq3 fun _ _ _ _ _ _ _ q=>add_int q
theorem zyk : OpR X (binaryOp .Sub) (rI0 fun i j=>.int (i - j)):=zq3 fun _ _ _ _ _ _ _ q=>sub_int q
theorem z10 : OpR X (binaryOp .FloorDiv) (rI zk2 fun i j=>.int (i / j)):=opI fun i j _ _ _ _ _ hc q=>by
 have h1 : (0 : Int) < j:=hc.1
 have h2 : j < 1073741824:=hc.2
 exact floordiv_int (by omega) (by rw [Int.fdiv_eq_ediv_of_nonneg i (by omega)]; exact q) (.inl (PyProof.noPylong_small (by omega)))
theorem z0w : OpR X (binaryOp .Mod) (rI (fun _ j=>0 < j) fun i j=>.int (i % j)):=opI fun i j _ _ _ _ _ hc q=>by
 have h1 : (0 : Int) < j:=hc
 exact mod_int' (by omega) (by rw [Int.fmod_eq_emod_of_nonneg i (by omega)]; exact q)
theorem zya : OpR X (binaryOp .Pow) (rI zhp fun i j=>.int (i ^ j.toNat)):=opI fun _ _ _ _ _ _ _ hc q=>pow_int_small hc.1 hc.2.1 hc.2.2 q
theorem unI {f : Value -> Sem Value} {g : Int -> Int}
  (rule : ∀ (i : Int) (t : Tok) (s : Shared) (Q : Value -> Shared -> Prop) (E : Value -> Shared -> Prop),Q (.int (g i) s.toks) { s with toks:=s.toks + 1 } -> wpAny (model X.prog X.w) X.A (f (.int i t)) Q E s) :
  UnR X f (rU fun i=>.int (g i)):=by
 intro pins s σ H x v Q I rx h
 obtain ⟨i,rfl,q⟩:=h
 obtain ⟨t,rfl⟩:=rx
 exact rule i t s _ _ ⟨.int (g i),H,I.tok _,⟨_,rfl⟩,q⟩
theorem z45 : UnR X (unaryOp .USub) (rU fun i=>.int (-i)):=unI fun _ _ _ _ _ q=>neg_int q
end
noncomputable def zn9 : V -> V -> Bool
 | .non,.non=>true | .non,.int _=>true | .int _,.non=>true | .non,.bl _=>true | .bl _,.non=>true | .non,.str _=>true | .str _,.non=>true
 | .int _,.int _=>true | .bl _,.bl _=>true | .str _,.str _=>true | .byt _,.byt _=>true
 | .int _,.str _=>true | .str _,.int _=>true | .bl _,.str _=>true | .str _,.bl _=>true
 | _,_=>false
noncomputable def rEq : R2:=fun x y H Q=>zn9 x y = true /\ Q (.bl (decide (x = y))) H
noncomputable def rNe : R2:=fun x y H Q=>zn9 x y = true /\ Q (.bl (!decide (x = y))) H
theorem znr {i j : Int} : decide (V.int i = V.int j) = (i == j):=by
 rw [Bool.eq_iff_iff]
 simp
theorem zkz {i j : Bool} : decide (V.bl i = V.bl j) = (i == j):=by
 rw [Bool.eq_iff_iff]
 simp
theorem zob {i j : Str} : decide (V.str i = V.str j) = (i == j):=by
 rw [Bool.eq_iff_iff]
 simp
theorem zrm {i j : Array UInt8} : decide (V.byt i = V.byt j) = (i.toList == j.toList):=by
 rw [Bool.eq_iff_iff]
 cases i
 cases j
 simp
section
variable {X : Cx} {a b c : Expr} {ta tb tc : TE} {pos : Pos}
theorem zb1 {pins : List (Addr × Obj)} {σ : St} {H : Hp} {s : Shared} {Q : VK} {k k' : Bool} (I : Inv X pins σ H s) (q : Q (.bl k) H) (e : k = k') : EP X pins σ Q (.bool k') s:=by
 subst e
 exact ⟨.bl k,H,I,rfl,q⟩
theorem z11 : OpR X (compareOp .Eq) rEq:=by
 intro pins s σ H x y v u Q I rx ry h
 obtain ⟨hs,q⟩:=h
 cases x with
 | non =>
  cases rx
  cases y with
  | non=>cases ry; exact PySem.EqNone.eq_none_none (zb1 I q (by simp))
  | bl j=>cases ry; exact PySem.EqNone.eq_none_bool (zb1 I q (by simp))
  | int j=>obtain ⟨t',rfl⟩:=ry; exact PySem.EqNone.eq_none_int (zb1 I q (by simp))
  | str j=>obtain ⟨t',rfl⟩:=ry; exact PySem.EqNone.eq_none_str (zb1 I q (by simp))
  | _=>exact absurd (show false = true from hs) Bool.false_ne_true
 | bl i =>
  cases rx
  cases y with
  | non=>cases ry; exact PySem.EqNone.eq_bool_none (zb1 I q (by simp))
  | bl j=>cases ry; exact eq_bool (zb1 I q zkz)
  | str j=>obtain ⟨t',rfl⟩:=ry; exact PySem.EqMixed.eq_bool_str (zb1 I q (by simp))
  | _=>exact absurd (show false = true from hs) Bool.false_ne_true
 | int i =>
  obtain ⟨t,rfl⟩:=rx
  cases y with
  | non=>cases ry; exact PySem.EqNone.eq_int_none (zb1 I q (by simp))
  | int j=>obtain ⟨t',rfl⟩:=ry; exact eq_int (zb1 I q znr)
  | str j=>obtain ⟨t',rfl⟩:=ry; exact PySem.EqMixed.eq_int_str (zb1 I q (by simp))
  | _=>exact absurd (show false = true from hs) Bool.false_ne_true
 | str i =>
  obtain ⟨t,rfl⟩:=rx
  cases y with
  | non=>cases ry; exact PySem.EqNone.eq_str_none (zb1 I q (by simp))
  | bl j=>cases ry; exact PySem.EqMixed.eq_str_bool (zb1 I q (by simp))
  | int j=>obtain ⟨t',rfl⟩:=ry; exact PySem.EqMixed.eq_str_int (zb1 I q (by simp))
  | str j=>obtain ⟨t',rfl⟩:=ry; exact eq_str (zb1 I q zob)
  | _=>exact absurd (show false = true from hs) Bool.false_ne_true
 | byt i =>
  obtain ⟨t,rfl⟩:=rx
  cases y with
  | byt j=>obtain ⟨t',rfl⟩:=ry; exact PySem.W.eq_bytes (zb1 I q zrm)
  | _=>exact absurd (show false = true from hs) Bool.false_ne_true
 | _=>cases y <;> exact absurd (show false = true from hs) Bool.false_ne_true
theorem z1k : OpR X (compareOp .NotEq) rNe:=by
 intro pins s σ H x y v u Q I rx ry h
 obtain ⟨hs,q⟩:=h
 cases x with
 | non =>
  cases rx
  cases y with
  | non=>cases ry; exact PySem.EqNone.ne_none_none (zb1 I q (by simp))
  | bl j=>cases ry; exact PySem.EqNone.ne_none_bool (zb1 I q (by simp))
  | int j=>obtain ⟨t',rfl⟩:=ry; exact PySem.EqNone.ne_none_int (zb1 I q (by simp))
  | str j=>obtain ⟨t',rfl⟩:=ry; exact PySem.EqNone.ne_none_str (zb1 I q (by simp))
  | _=>exact absurd (show false = true from hs) Bool.false_ne_true
 | bl i =>
  cases rx
  cases y with
  | non=>cases ry; exact PySem.EqNone.ne_bool_none (zb1 I q (by simp))
  | bl j=>cases ry; exact ne_bool (zb1 I q (congrArg not zkz))
  | str j=>obtain ⟨t',rfl⟩:=ry; exact PySem.EqMixed.ne_bool_str (zb1 I q (by simp))
  | _=>exact absurd (show false = true from hs) Bool.false_ne_true
 | int i =>
  obtain ⟨t,rfl⟩:=rx
  cases y with
  | non=>cases ry; exact PySem.EqNone.ne_int_none (zb1 I q (by simp))
  | int j=>obtain ⟨t',rfl⟩:=ry; exact ne_int (zb1 I q (congrArg not znr))
  | str j=>obtain ⟨t',rfl⟩:=ry; exact PySem.EqMixed.ne_int_str (zb1 I q (by simp))
  | _=>exact absurd (show false = true from hs) Bool.false_ne_true
 | str i =>
  obtain ⟨t,rfl⟩:=rx
  cases y with
  | non=>cases ry; exact PySem.EqNone.ne_str_none (zb1 I q (by simp))
  | bl j=>cases ry; exact PySem.EqMixed.ne_str_bool (zb1 I q (by simp))
  | int j=>obtain ⟨t',rfl⟩:=ry; exact PySem.EqMixed.ne_str_int (zb1 I q (by simp))
  | str j=>obtain ⟨t',rfl⟩:=ry; exact ne_str (zb1 I q (congrArg not zob))
  | _=>exact absurd (show false = true from hs) Bool.false_ne_true
 | byt i =>
  obtain ⟨t,rfl⟩:=rx
  cases y with
  | byt j=>obtain ⟨t',rfl⟩:=ry; exact PySem.W.ne_bytes (zb1 I q (congrArg not zrm))
  | _=>exact absurd (show false = true from hs) Bool.false_ne_true
 | _=>cases y <;> exact absurd (show false = true from hs) Bool.false_ne_true
theorem z6b : OpR X (compareOp .Lt) (rI0 fun i j=>.bl (decide (i < j))):=zma fun _ _ _ _ _ _ _ q=>lt_int q
theorem z8w : OpR X (compareOp .LtE) (rI0 fun i j=>.bl (decide (i <= j))):=zma fun _ _ _ _ _ _ _ q=>le_int q
theorem zzw : OpR X (compareOp .Gt) (rI0 fun i j=>.bl (decide (j < i))):=zma fun _ _ _ _ _ _ _ q=>gt_int q
theorem zww : OpR X (compareOp .GtE) (rI0 fun i j=>.bl (decide (j <= i))):=zma fun _ _ _ _ _ _ _ q=>ge_int q
theorem z44 : OpR X (compareOp .Is) (fun x y H Q=>y = .non /\ Q (.bl (decide (x = .non))) H):=by
 intro pins s σ H x y v u Q I rx ry h
 obtain ⟨rfl,q⟩:=h
 cases ry
 refine is_none_gen (zb1 I q ?_)
 cases x <;> first
  | (cases rx; rfl)
  | (obtain ⟨t,rfl⟩:=rx; rfl)
theorem z2n : OpR X (compareOp .IsNot) (fun x y H Q=>y = .non /\ Q (.bl (!decide (x = .non))) H):=by
 intro pins s σ H x y v u Q I rx ry h
 obtain ⟨rfl,q⟩:=h
 cases ry
 refine isnot_none_gen (zb1 I q ?_)
 cases x <;> first
  | (cases rx; rfl)
  | (obtain ⟨t,rfl⟩:=rx; rfl)
theorem OpR.or {f : Value -> Value -> Sem Value} {r r' : R2} (h : OpR X f r) (h' : OpR X f r') : OpR X f (fun x y H Q=>r x y H Q \/ r' x y H Q):=by
 intro pins s σ H x y v u Q I rx ry q
 rcases q with q | q
 ·exact h pins s σ H x y v u Q I rx ry q
 ·exact h' pins s σ H x y v u Q I rx ry q
theorem ztx (b : Expr) {op : CmpOp} (h : op ≠ .In:=by decide) (h2 : op ≠ .NotIn:=by decide) : behindInMarks op b = false:=by
 have e1 : (op == CmpOp.In) = false:=by cases op <;> first | rfl | exact absurd rfl h
 have e2 : (op == CmpOp.NotIn) = false:=by cases op <;> first | rfl | exact absurd rfl h2
 cases b <;> simp [behindInMarks,e1,e2]
theorem zv4 {op : CmpOp} {r : R2} (ho : OpR X (compareOp op) r) (ha : PE X a ta) (hb : PE X b tb) (hm : behindInMarks op b = false) : PE X (.Compare a [op] [b] pos) (tOp r ta tb):=by
 intro pins s σ H Q I h
 exact wpAny_Compare1 (zpg ha hb I h fun v u s2 x y H2 I2 rx ry q=>ho pins s2 σ H2 x y v u Q I2 rx ry q) hm
noncomputable def zzx (t : TE) : TT:=fun σ H Q=>t σ H fun x H'=>∃ k,x = .bl k /\ Q k H'
theorem z3c {op : CmpOp} {r : R2} (ho : OpR X (compareOp op) r) (ha : PE X a ta) (hb : PE X b tb) (hm : behindInMarks op b = false) : PT X (.Compare a [op] [b] pos) (zzx (tOp r ta tb)):=by
 intro pins s σ H Q I h
 refine wpAny_isTrue_Compare1 (thn (ha pins s σ H _ I h) fun v s1 ⟨x,H1,I1,r1,q1⟩=>thn (hb pins s1 σ H1 _ I1 q1) fun u s2 ⟨y,H2,I2,r2,q2⟩ =>
  thn (ho pins s2 σ H2 x y v u _ I2 r1 r2 q2) fun c s3 ⟨z,H3,I3,r3,k,e,q3⟩=>?_) hm
 subst e
 cases r3
 exact wpAny_truthy_bool ⟨H3,I3,q3⟩
noncomputable def z29 (r r' : R2) (ta tb tc : TE) : TE:=fun σ H Q=>ta σ H fun x H1=>tb σ H1 fun y H2=>r x y H2 fun z H3=>∃ k,z = .bl k /\
 (if k = true then tc σ H3 fun w' H4=>r' y w' H4 Q else Q (.bl false) H3)
theorem z7b {op op' : CmpOp} {r r' : R2} (ho : OpR X (compareOp op) r) (ho' : OpR X (compareOp op') r') (ha : PE X a ta) (hb : PE X b tb) (hc : PE X c tc)
  (hm : lastMarks [op,op'] [b,c] = false:=by with_unfolding_all rfl) : PE X (.Compare a [op,op'] [b,c] pos) (z29 r r' ta tb tc):=by
 intro pins s σ H Q I h
 refine Compare_chain (thn (ha pins s σ H _ I h) fun v s1 ⟨x,H1,I1,r1,q1⟩=>chain_link (thn (hb pins s1 σ H1 _ I1 q1) fun u s2 ⟨y,H2,I2,r2,q2⟩ =>
  thn (ho pins s2 σ H2 x y v u _ I2 r1 r2 q2) fun d s3 ⟨z,H3,I3,r3,k,e,q3⟩=>?_)) hm
 subst e
 cases r3
 refine wpAny_truthy_bool ?_
 cases k with
 | false=>exact ite_ff ⟨.bl false,H3,I3,rfl,q3⟩
 | true=>exact ite_tt (chain_last (thn (hc pins s3 σ H3 _ I3 q3) fun w' s4 ⟨z',H4,I4,r4,q4⟩=>ho' pins s4 σ H4 y z' u w' Q I4 r2 r4 q4))
noncomputable def zn3 (K : PySem.W.Frag) (x : V) (H : Hp) (k : Bool) : Prop :=
 match x with
 | .non=>k = false
 | .bl b=>k = b
 | .int i=>k = (i != 0)
 | .str y=>y.length <= sizeLine /\ k = ((y.length : Int) != 0)
 | .byt y=>y.size <= sizeLine /\ k = ((y.size : Int) != 0)
 | .ref p=>(∃ xs,SqL K H p xs /\ k = !xs.isEmpty) \/ (∃ xs,SqT K H p xs /\ k = !xs.isEmpty) \/ ∃ kvs,H p = some (.dK kvs) /\ k = !kvs.isEmpty
 | _=>False
theorem z8j {κ : Type} {kvs : List (κ × V)} {vs : List (κ × Value)} (r : KV kvs vs) : (!vs.isEmpty) = !kvs.isEmpty:=by
 cases r <;> rfl
theorem zrd {xs : List V} {its : List Value} (r : zas xs its) : (!its.toArray.isEmpty) = !xs.isEmpty:=by
 cases r <;> simp
theorem zib : (sizeLine : Nat) < 2 ^ 63:=by rw [sizeLine_eq]; decide
theorem z4l : z1h X (fun x H Q=>∃ k,zn3 X.K x H k /\ Q k H):=by
 intro pins s σ H x v Q I rx h
 obtain ⟨k,e,q⟩:=h
 have hl:=zib
 have hs : sizeLine = 16777216:=sizeLine_eq
 cases x with
 | non =>
  cases rx
  have e' : k = false:=e
  subst e'
  exact truthy_none ⟨H,I,q⟩
 | bl b =>
  cases rx
  have e' : k = b:=e
  subst e'
  exact wpAny_truthy_bool ⟨H,I,q⟩
 | int i =>
  obtain ⟨t,rfl⟩:=rx
  have e' : k = (i != 0):=e
  subst e'
  exact PySem.P.truthy_int ⟨H,I,q⟩
 | str y =>
  obtain ⟨t,rfl⟩:=rx
  obtain ⟨hy,e'⟩ : y.length <= sizeLine /\ k = ((y.length : Int) != 0):=e
  subst e'
  exact PySem.P.truthy_str (by omega) ⟨H,I.tok _,q⟩
 | byt y =>
  obtain ⟨t,rfl⟩:=rx
  obtain ⟨hy,e'⟩ : y.size <= sizeLine /\ k = ((y.size : Int) != 0):=e
  subst e'
  exact PySem.W.truthy_bytes (by omega) ⟨H,I.tok _,q⟩
 | ref p =>
  cases rx
  have e' : (∃ xs,SqL X.K H p xs /\ k = !xs.isEmpty) \/ (∃ xs,SqT X.K H p xs /\ k = !xs.isEmpty) \/ ∃ kvs,H p = some (.dK kvs) /\ k = !kvs.isEmpty:=e
  rcases e' with ⟨xs,hx,e'⟩ | ⟨xs,hx,e'⟩ | ⟨kvs,hx,e'⟩
  ·subst e'
   obtain ⟨its,r,pl,hz⟩:=I.list hx
   have hlen:=r.length
   exact wpAny_truthy_list pl.isList (by simp only [List.size_toArray]; omega) ⟨H,I.tok _,by rw [zrd r]; exact q⟩
  ·subst e'
   obtain ⟨its,r,pl,hz⟩:=I.tuple hx
   have hlen:=r.length
   exact truthy_tuple pl (by simp only [List.size_toArray]; omega) ⟨H,I.tok _,by rw [zrd r]; exact q⟩
  ·subst e'
   obtain ⟨hz,hS,vs,r,m⟩ : kvs.length <= sizeLine /\ (p == sysModules) = false /\ ∃ vs,KV kvs vs /\ s.heap.DictOf (zej X.prog X.w) p vs:=I.hok p _ hx
   have hlen : kvs.length = vs.length:=Paired.length r
   exact wpAny_truthy_dict hS m (by omega) ⟨H,I.tok _,by rw [z8j r]; exact q⟩
 | _=>exact (show False from e).elim
theorem z0e (ha : PE X a ta) (he : ∀ whole,isTrue a X.env whole = (do let v <- whole; standAt a.pos; holding [v] (truthy v))) :
  PT X a (fun σ H Q=>ta σ H fun x H'=>∃ k,zn3 X.K x H' k /\ Q k H'):=by
 intro pins s σ H Q I h
 exact isTrue_plain (thn (ha pins s σ H _ I h) fun v s1 ⟨x,H1,I1,r1,q1⟩=>z4l pins s1 σ H1 x v Q I1 r1 q1) (he _)
theorem zx8 : OpR X (binaryOp .Add) (fun x y H Q=>∃ i j,x = .str i /\ y = .str j /\ i.length + j.length <= sizeLine /\ Q (.str (i ++ j)) H):=by
 intro pins s σ H x y v u Q I rx ry h
 obtain ⟨i,j,rfl,rfl,hz,q⟩:=h
 obtain ⟨t,rfl⟩:=rx
 obtain ⟨t',rfl⟩:=ry
 exact add_str (fun t' tk=>⟨.str (i ++ j),H,I.tok _,⟨_,rfl⟩,q⟩) hz
theorem zh2 {x : V} {us : List Value} (r : zas [x] us) : ∃ u,us = [u] /\ zaw x u:=by
 cases r with
 | cons r1 r2=>cases r2; exact ⟨_,rfl,r1⟩
theorem zy3 {x y : V} {us : List Value} (r : zas [x,y] us) : ∃ u w',us = [u,w'] /\ zaw x u /\ zaw y w':=by
 cases r with
 | cons r1 r2 =>
  cases r2 with
  | cons r3 r4=>cases r4; exact ⟨_,_,rfl,r1,r3⟩
end
structure zh3 (h : Heap) (x dx C : Addr) (mA : Str -> Option Value) : Prop where
 obj : h.get? x = some (PySem.W.instObj C dx)
 ns : h.Ns1 dx mA
 ne : dx ≠ x
theorem z06 {h : Heap} {dx : Addr} {mA : Str -> Option Value} (n : h.Ns1 dx mA) : ∃ od,h.get? dx = some od /\ ∀ name,PySem.W.lookIn name od = some (mA name):=by
 obtain ⟨o,es,ep,ho,hd,hk,_,hm⟩:=n
 refine ⟨o,ho,fun name=>?_⟩
 have e:=hm name
 unfold nsFind findBy at e
 rw [<- Array.find?_toList] at e
 unfold PySem.W.lookIn
 rw [hd]
 dsimp only
 split
 ·rename_i y q
  rw [q] at e
  exact congrArg some e
 ·rename_i q
  rw [q] at e
  have a : es.toList.any (·.refKey) = false:=by
   rw [List.any_eq_false]
   intro y hy
   obtain ⟨z,t,hkey⟩:=hk y (Array.mem_toList_iff.mp hy)
   simp [DictEntry.refKey,hkey]
  have a' : ¬ es.toList.any (·.refKey) = true:=by rw [a]; exact Bool.false_ne_true
  rw [if_neg a']
  exact congrArg some e
theorem zh3.look {h : Heap} {x dx C : Addr} {mA : Str -> Option Value} (I : zh3 h x dx C mA) : ∃ od,PySem.W.InstAt h x (PySem.W.instObj C dx) C (some od) /\ ∀ name,PySem.W.lookIn name od = some (mA name) :=
 let ⟨od,ho,hl⟩:=z06 I.ns
 ⟨od,⟨I.obj,rfl,rfl,ho⟩,hl⟩
section
variable {prog : Program} {w : World} {A : Around} {E : Value -> Shared -> Prop} {s : Shared} {K : PySem.W.Frag} {x dx C f : Addr} {mA : Str -> Option Value} {name : Str} {v : Value}
theorem z50 {expr : Bool} {Q : Value -> Shared -> Prop} (X : K.In s.heap) (I : zh3 s.heap x dx C mA) (hg : PySem.W.plainGet K C name = true) (hh : PySem.W.hasDictIn K C = true)
  (ha : PySem.W.findIn K (.ref C) name = some none) (hv : mA name = some v) (hv' : PySem.W.handedIn v = true) (h : Q v { s with toks:=s.toks + 1 }) :
  wpAny (model prog w) A (getAttr (.ref x) name expr) Q E s:=by
 obtain ⟨od,J,hl⟩:=I.look
 exact PySem.W.get_value X J (PySem.W.plainGet_of hg).1 (PySem.W.findObj_own hh ha rfl (by rw [hl,hv])) hv' h
theorem z6a {pl : Sem Bool} {Q : Value × List Value -> Shared -> Prop} (X : K.In s.heap) (I : zh3 s.heap x dx C mA) (hg : PySem.W.plainGet K C name = true)
  (hf : PySem.W.findIn K (.ref C) name = some (some (.ref f))) (ht : PySem.W.isFn K (.ref f) = true) (hv : mA name = none) (h : Q (.ref f,[.ref x]) s) :
  wpAny (model prog w) A (getMethod (.ref x) name pl) Q E s:=by
 obtain ⟨od,J,hl⟩:=I.look
 exact PySem.W.method_fn X J (PySem.W.plainGet_of hg).1 (PySem.W.plainGet_of hg).2 hf (beq_iff_eq.mp ht) (by show (PySem.W.lookIn name od).map (·.isSome) = some false; rw [hl,hv]; rfl) h
theorem z1u {ns : List Str} {Q : Unit -> Shared -> Prop} (X : K.In s.heap) (I : zh3 s.heap x dx C mA)
  (hs : PySem.W.findIn K (.ref C) "__setattr__" = some (some (.builtin "object.__setattr__"))) (hp : PySem.W.plainOver K C = true) (ht : PySem.W.takerIn K C name = some none) (hh : PySem.W.hasDictIn K C = true)
  (hw : PySem.Within mA ns) (hsz : ns.length <= sizeLine)
  (h : ∀ h',zh3 h' x dx C (fun y=>if y = name then some v else mA y) -> Heap.SameBut dx s.heap h' -> Q () { s with heap:=h',toks:=s.toks + 2 }) :
  wpAny (model prog w) A (setAttr (.ref x) name v) Q E s:=by
 obtain ⟨od,J,hl⟩:=I.look
 refine PySem.W.set_plain X J hs (PySem.W.osa_open (s:={ s with toks:=s.toks + 1 }) (r:=none) X J hp ht fun b=>?_)
 obtain ⟨cd,hc,hd'⟩:=PySem.W.any_some hh
 have hx : s.heap.get? x = some ⟨.ref C,some dx,.plain,#[]⟩:=I.obj
 refine wpAny_bind (wpAny_pure (wpAny_bind (wpAny_bind (wpAny_loadPart hx (wpAny_bind (PySem.W.Looks.here (s:={ s with toks:=s.toks + 1 }) (PySem.W.looks_clsIn X hc) ?_))))))
 rw [hd']
 refine wpAny_pure (a:=some dx) (wpAny_bind (wpAny_pure (wpAny_bind ?_)))
 refine wpAny_nsSet1 (s:={ s with toks:=s.toks + 1 }) I.ns fun h' hn2 hs2=>?_
 obtain ⟨oD,esD,epD,hoD,hdD,hcD⟩:=hn2.count (PySem.Within.cons name v hw)
 refine wpAny_bind (wpAny_lookBehind hoD (by rw [hdD]; exact pastItsLine_dict (Nat.le_trans hcD (by rw [List.length_cons]; omega))) ?_)
 exact wpAny_pure (h _ ⟨(hs2.2 _ (Ne.symm I.ne)).trans I.obj,hn2,I.ne⟩ hs2)
theorem z47 {R : Result -> Shared -> Prop} {vs : List Value} {kw : List (Str × Value)} (X : K.In s.heap) (hm : PySem.W.makesIn K C = true)
  (hi : PySem.W.findIn K (.ref C) "__init__" = some (some (.ref f))) (hf : PySem.W.typeIn K (.ref f) = some (.type "function"))
  (h : codeAny (model prog w) (A.under (.builtin "type.__call__" ⟨.ref C :: vs,kw⟩)) (.call (.ref f) ⟨.ref (s.heap.objs.size + 1) :: vs,kw⟩) (PySem.W.InitBack (s.heap.objs.size + 1) R)
   { s with heap:=(s.heap.push PySem.W.emptyDict).push (PySem.W.instObj C s.heap.objs.size) }) :
  codeAny (model prog w) A (.call (.ref C) ⟨vs,kw⟩) R s:=by
 obtain ⟨hh,g,d,t,os⟩:=s
 exact PySem.W.make_core (PySem.W.makes_of X hm) (PySem.W.looks_findIn X hi) (fun self=>PySem.W.bind_fn X self hf) (.inl rfl) h
end
noncomputable def zde (f : Str) (v : V) : List (Str × V) -> List (Str × V)
 | []=>[(f,v)]
 | (g,x) :: r=>if g = f then (g,v) :: r else (g,x) :: zde f v r
theorem zqv (f g : Str) (v : V) : ∀ fs : List (Str × V),(zde f v fs).lookup g = if g = f then some v else fs.lookup g
 | []=>by
  show List.lookup g [(f,v)] = _
  by_cases h : g = f
  ·have hb : (g == f) = true:=beq_iff_eq.mpr h
   simp only [List.lookup,hb,if_pos h]
  ·have hb : (g == f) = false:=beq_eq_false_iff_ne.mpr h
   simp only [List.lookup,hb,if_neg h]
 | (k,x) :: r=>by
  have ih:=zqv f g v r
  rw [show zde f v ((k,x) :: r) = (if k = f then (k,v) :: r else (k,x) :: zde f v r) from rfl]
  by_cases hk : k = f
  ·rw [if_pos hk]
   by_cases h : g = k
   ·have hb : (g == k) = true:=beq_iff_eq.mpr h
    simp only [List.lookup,hb,if_pos (h.trans hk)]
   ·have hb : (g == k) = false:=beq_eq_false_iff_ne.mpr h
    simp only [List.lookup,hb,if_neg (fun e : g = f=>h (e.trans hk.symm))]
  ·rw [if_neg hk]
   by_cases h : g = k
   ·have hb : (g == k) = true:=beq_iff_eq.mpr h
    simp only [List.lookup,hb,if_neg (fun e : g = f=>hk (h.symm.trans e))]
   ·have hb : (g == k) = false:=beq_eq_false_iff_ne.mpr h
    simp only [List.lookup,hb]
    exact ih
theorem zpd (f : Str) (v : V) : ∀ fs : List (Str × V),f ∈ (zde f v fs).map (·.1) /\ ∀ g,g ∈ fs.map (·.1) -> g ∈ (zde f v fs).map (·.1)
 | []=>⟨by simp [zde],fun g h=>by simp at h⟩
 | (k,x) :: r=>by
  obtain ⟨i1,i2⟩:=zpd f v r
  rw [show zde f v ((k,x) :: r) = (if k = f then (k,v) :: r else (k,x) :: zde f v r) from rfl]
  by_cases hk : k = f
  ·rw [if_pos hk]
   subst hk
   exact ⟨by simp,fun g h=>by simpa using h⟩
  ·rw [if_neg hk]
   refine ⟨?_,fun g h=>?_⟩
   ·rw [List.map_cons]
    exact List.mem_cons_of_mem _ i1
   ·rw [List.map_cons] at h ⊢
    rcases List.mem_cons.mp h with e | e
    ·exact List.mem_cons.mpr (.inl e)
    ·exact List.mem_cons_of_mem _ (i2 g e)
theorem zrj (f : Str) (v : V) : ∀ fs : List (Str × V),(zde f v fs).length <= fs.length + 1
 | []=>by simp [zde]
 | (k,x) :: r=>by
  have ih:=zrj f v r
  rw [show zde f v ((k,x) :: r) = (if k = f then (k,v) :: r else (k,x) :: zde f v r) from rfl]
  by_cases hk : k = f
  ·rw [if_pos hk,List.length_cons,List.length_cons]; omega
  ·rw [if_neg hk,List.length_cons,List.length_cons]; omega
theorem zdw.some_of {v : V} {o : Option Value} (r : zdw (some v) o) : ∃ u,o = some u /\ zaw v u:=by
 cases o with
 | none=>exact (show False from r).elim
 | some u=>exact ⟨u,rfl,r⟩
theorem zdw.none_of {o : Option Value} (r : zdw none o) : o = none:=by
 cases o with
 | none=>rfl
 | some u=>exact (show False from r).elim
theorem z6y {v : V} {u : Value} (r : zaw v u) : PySem.W.handedIn u = true:=by
 cases v with
 | non=>cases (show u = Value.none from r); rfl
 | bl b=>cases (show u = Value.bool b from r); rfl
 | int i=>obtain ⟨t,e⟩:=(show ∃ t,u = Value.int i t from r); cases e; rfl
 | str x=>obtain ⟨t,e⟩:=(show ∃ t,u = Value.str x t from r); cases e; rfl
 | byt b=>obtain ⟨t,e⟩:=(show ∃ t,u = Value.bytes b t from r); cases e; rfl
 | flt b=>obtain ⟨t,e⟩:=(show ∃ t,u = Value.float b t from r); cases e; rfl
 | ref a=>cases (show u = Value.ref a from r); rfl
 | ty n=>cases (show u = Value.type n from r); rfl
section
variable {P : Program} {w : World} {H H' : Hp} {h h' : Heap} {a C dx : Addr} {fs fs' : List (Str × V)}
theorem zmh (hok : HOk P w H h) (e : H a = some (.ins C dx fs)) : ∃ mA,zh3 h a dx C mA /\ (∀ f,zdw (fs.lookup f) (mA f)) /\ PySem.Within mA (fs.map (·.1)) /\ fs.length <= 1000 /\ H dx = some (.own a):=by
 obtain ⟨d,z,ne,ob,mA,n,r,q⟩:=(show zcl P w H h a (.ins C dx fs) from hok a _ e)
 exact ⟨mA,⟨ob,n,ne⟩,r,q,z,d⟩
end
structure Cls (K : PySem.W.Frag) (C : Addr) : Prop where
 pg : PySem.W.plainGet K C Str.empty = true
 hd : PySem.W.hasDictIn K C = true
 po : PySem.W.plainOver K C = true
 sa : PySem.W.findIn K (.ref C) "__setattr__" = some (some (.builtin "object.__setattr__"))
theorem Cls.get {K : PySem.W.Frag} {C : Addr} (c : Cls K C) (f : Str) : PySem.W.plainGet K C f = true:=c.pg
noncomputable def zc6 (K : PySem.W.Frag) (C : Addr) (f : Str) : Prop:=PySem.W.findIn K (.ref C) f = some none
theorem zc6.taker {K : PySem.W.Frag} {C : Addr} {f : Str} (n : zc6 K C f) : PySem.W.takerIn K C f = some none:=by
 unfold PySem.W.takerIn
 rw [show PySem.W.findIn K (.ref C) f = some none from n]
 rfl
structure zdb (K : PySem.W.Frag) (C : Addr) (m : Str) (f : Addr) : Prop where
 at_ : PySem.W.findIn K (.ref C) m = some (some (.ref f))
 fn : PySem.W.isFn K (.ref f) = true
 kp : PySem.W.keepIn K (.ref f) = true
section
variable {X : Cx} {pins : List (Addr × Obj)} {σ : St} {H : Hp} {s : Shared} {a C dx : Addr} {fs : List (Str × V)} {f : Str} {v : V} {A : Around} {E : Value -> Shared -> Prop}
theorem z43 {b : Bool} {Q : Value -> Shared -> Prop} (I : Inv X pins σ H s) (e : H a = some (.ins C dx fs)) (c : Cls X.K C) (n : zc6 X.K C f) (l : fs.lookup f = some v)
  (h : ∀ u s',Inv X pins σ H s' -> zaw v u -> Q u s') : wpAny (model X.prog X.w) A (getAttr (.ref a) f b) Q E s:=by
 obtain ⟨mA,O,r,_,_,_⟩:=zmh I.hok e
 obtain ⟨u,hu,ru⟩:=zdw.some_of (v:=v) (o:=mA f) (by rw [<- l]; exact r f)
 exact z50 I.kIn O (c.get f) c.hd n hu (z6y ru) (h u _ (I.tok _) ru)
theorem zy6 {m : Str} {g : Addr} {pl : Sem Bool} {Q : Value × List Value -> Shared -> Prop} (I : Inv X pins σ H s) (e : H a = some (.ins C dx fs)) (c : Cls X.K C) (k : zdb X.K C m g) (l : fs.lookup m = none)
  (h : Q (.ref g,[.ref a]) s) : wpAny (model X.prog X.w) A (getMethod (.ref a) m pl) Q E s:=by
 obtain ⟨mA,O,r,_,_,_⟩:=zmh I.hok e
 have hn : mA m = none:=zdw.none_of (by rw [<- l]; exact r m)
 exact z6a I.kIn O (c.get m) k.at_ k.fn hn h
theorem z3m {y : V} {u : Value} {Q : Unit -> Shared -> Prop} (I : Inv X pins σ H s) (e : H a = some (.ins C dx fs)) (c : Cls X.K C) (n : zc6 X.K C f) (hl : fs.length < 1000) (ry : zaw y u)
  (h : ∀ s',Inv X pins σ (upd H a (.ins C dx (zde f y fs))) s' -> Q () s') : wpAny (model X.prog X.w) A (setAttr (.ref a) f u) Q E s:=by
 obtain ⟨mA,O,r,wi,_,ho⟩:=zmh I.hok e
 have hz : (fs.map (·.1)).length <= sizeLine:=by rw [List.length_map,sizeLine_eq]; omega
 refine z1u I.kIn O c.sa c.po n.taker c.hd wi hz fun h' O' sb=>h _ ?_
 have hd : ∃ o,h'.get? dx = some o:=let ⟨o,_,_,e',_⟩:=O'.ns; ⟨o,e'⟩
 refine I.write (x:=a) (e:=dx) (by rw [e]; exact True.intro) (.inr ho) (fun b q hb z=>(sb.2 b hb).trans z) hd ?_
 refine ⟨by rw [za2 O.ne]; exact ho,?_,O.ne,O'.obj,_,O'.ns,fun g=>?_,fun g hg=>?_⟩
 ·have:=zrj f y fs; omega
 ·show zdw ((zde f y fs).lookup g) (if g = f then some u else mA g)
  rw [zqv]
  by_cases q : g = f
  ·rw [if_pos q,if_pos q]; exact ry
  ·rw [if_neg q,if_neg q]; exact r g
 ·by_cases q : g = f
  ·rw [q]; exact (zpd f y fs).1
  ·refine (zpd f y fs).2 g (wi g fun z=>hg ?_)
   show (if g = f then some u else mA g) = none
   rw [if_neg q]; exact z
theorem Inv.made (I : Inv X pins σ H s) : Inv X pins σ (upd (upd H s.heap.objs.size (.own (s.heap.objs.size + 1))) (s.heap.objs.size + 1) (.ins C s.heap.objs.size []))
  { s with heap:=(s.heap.push PySem.W.emptyDict).push (PySem.W.instObj C s.heap.objs.size) }:=by
 have e1 : (s.heap.push PySem.W.emptyDict).get? s.heap.objs.size = some PySem.W.emptyDict:=Heap.get?_push_size s.heap rfl
 have e2 : ((s.heap.push PySem.W.emptyDict).push (PySem.W.instObj C s.heap.objs.size)).get? (s.heap.objs.size + 1) = some (PySem.W.instObj C s.heap.objs.size):=by
  have:=Heap.get?_push_size (s.heap.push PySem.W.emptyDict) (o:=PySem.W.instObj C s.heap.objs.size) rfl
  rwa [Heap.size_push] at this
 have e3 : (s.heap.push PySem.W.emptyDict).Ns s.heap.objs.size (fun _=>none):=⟨PySem.W.emptyDict,#[],_,e1,rfl,(fun e he=>absurd he (by simp)),fun _=>rfl⟩
 have I1:=I.laid (a:=s.heap.objs.size) (o:=.own (s.heap.objs.size + 1)) (h':=s.heap.push PySem.W.emptyDict) (t':=s.toks) (fun b u q=>Heap.get?_push_of_some _ q) (Nat.le_refl _) ⟨_,e1⟩
 refine I1.laid (a:=s.heap.objs.size + 1) (o:=.ins C s.heap.objs.size []) (t':=s.toks) (fun b u q=>Heap.get?_push_of_some _ q) (Nat.le_of_eq (Heap.size_push _ _)) ?_
 have ne : s.heap.objs.size ≠ s.heap.objs.size + 1:=Nat.ne_of_lt (Nat.lt_succ_self _)
 refine ⟨by rw [za2 ne,zbm],Nat.zero_le _,ne,e2,fun _=>none,(Heap.Ns1.of_empty e3).at fun o q=>Heap.get?_push_of_some _ q,fun _=>True.intro,fun y hy=>absurd rfl hy⟩
theorem zw6 {prog : Program} {w : World} {env : Env} {e : Expr} {f : Str} {pos : Pos} {s : Shared} {Q : Value -> Shared -> Prop} (hb : attributeBase e f env (eval e env) = eval e env)
  (h : wpAny (model prog w) A (eval e env) (fun o s₁=>wpAny (model prog w) A (getAttr o f true) Q E s₁) E s) : wpAny (model prog w) A (eval (.Attribute e f pos) env) Q E s :=
 Attribute_any_ h (by rw [arm_eval_Attribute,hb])
end
noncomputable def z0j (K : PySem.W.Frag) (ta : TE) (f : Str) : TE:=fun σ H Q=>ta σ H fun x H1=>∃ a C dx fs v,x = .ref a /\ H1 a = some (.ins C dx fs) /\ Cls K C /\ zc6 K C f /\ fs.lookup f = some v /\ Q v H1
noncomputable def z18 (K : PySem.W.Frag) (ta tv : TE) (f : Str) : TS:=fun D σ H=>tv σ H fun y H1=>ta σ H1 fun x H2=>∃ a C dx fs,x = .ref a /\ H2 a = some (.ins C dx fs) /\ Cls K C /\ zc6 K C f /\ fs.length < 1000 /\
 D.nx σ (upd H2 a (.ins C dx (zde f y fs)))
section
variable {X : Cx} {o e value : Expr} {f : Str} {pos pos' tpos : Pos} {ta tv : TE}
theorem z01 (he : PE X e ta) (hb : attributeBase e f X.env (eval e X.env) = eval e X.env) : PE X (.Attribute e f pos) (z0j X.K ta f):=by
 intro pins s σ H Q I h
 refine zw6 hb (thn (he pins s σ H _ I h) fun u s1 ⟨x,H1,I1,rx,a,C,dx,fs,v,ex,ea,c,n,l,q⟩=>?_)
 subst ex
 obtain rfl : u = Value.ref a:=rx
 exact z43 I1 ea c n l fun u' s2 I2 ru=>⟨v,H1,I2,ru,q⟩
theorem zwz (ha : PE X o ta) (hv : PE X value tv) (hs : swapsWith value (some (.Attribute o f pos')) pos.line X.env = pure false) : PS X (.Assign [.Attribute o f pos'] value pos) (z18 X.K ta tv f):=by
 intro pins s σ H D I h
 refine plainObj_wpAny_Assign_Attribute (thn (hv pins s σ H _ I h) fun u s1 ⟨y,H1,I1,ry,q⟩=>thn (ha pins s1 σ H1 _ I1 q) fun ov s2 ⟨x,H2,I2,rx,a,C,dx,fs,ex,ea,c,n,l,q2⟩=>?_) hs
 subst ex
 obtain rfl : ov = Value.ref a:=rx
 exact z3m I2 ea c n l ry fun s3 I3=>⟨σ,_,I3,q2⟩
end
section
variable {X : Cx} {pins : List (Addr × Obj)} {σ : St} {H : Hp} {s : Shared} {A : Around} {E : Value -> Shared -> Prop} {Q : Value -> Shared -> Prop} {c : Value} {b : Bool}
inductive zed (K : PySem.W.Frag) (H : Hp) : V -> Value -> Prop where
 | non : zed K H .non (.type "NoneType")
 | bl (x : Bool) : zed K H (.bl x) (.type "bool")
 | int (i : Int) : zed K H (.int i) (.type "int")
 | str (x : Str) : zed K H (.str x) (.type "str")
 | flt (x : UInt64) : zed K H (.flt x) (.type "float")
 | lst {a : Addr} {xs : List V} (e : H a = some (.lst xs)) : zed K H (.ref a) (.type "list")
 | frz {a : Addr} {o : Obj} {xs : List V} (e : H a = some (.frz o (.lst xs))) : zed K H (.ref a) (.type "list")
 | tup {a : Addr} {xs : List V} (e : H a = some (.tup xs)) : zed K H (.ref a) (.type "tuple")
 | dK {a : Addr} {kvs : List (Key × V)} (e : H a = some (.dK kvs)) : zed K H (.ref a) (.type "dict")
 | dT {a : Addr} {kvs : List (List Key × V)} (e : H a = some (.dT kvs)) : zed K H (.ref a) (.type "dict")
 | ins {a C dx : Addr} {fs : List (Str × V)} (e : H a = some (.ins C dx fs)) (cl : Cls K C) (ha : PySem.W.findIn K (.ref C) "__class__" = some (some (.builtin "object.__class__")))
   (hn : PySem.W.specialIn K (.builtin "object.__class__") "__get__" = some (some (.builtin "getset_descriptor.__get__"))) (htk : PySem.W.takesIn K (.builtin "object.__class__") = some true)
   (hm : PySem.W.mroIn K C (.type "object") = some true) : zed K H (.ref a) (.ref C)
theorem z5e {x : V} {u t : Value} (I : Inv X pins σ H s) (rx : zaw x u) (ty : zed X.K H x t) (e : PySem.W.kitOne X.K t c = some b) (h : ∀ tk,Q (.bool b) { s with toks:=tk }) :
  wpAny (model X.prog X.w) A (call (.builtin "isinstance") [u,c]) Q E s:=by
 cases ty with
 | non=>cases (show u = Value.none from rx); exact PySem.W.kia_one PySem.W.kitx_none I.kIn True.intro e (fun z=>nomatch z) h
 | bl y=>cases (show u = Value.bool y from rx); exact PySem.W.kia_one PySem.W.kitx_bool I.kIn True.intro e (fun z=>nomatch z) h
 | int i=>obtain ⟨t,q⟩:=(show ∃ t,u = Value.int i t from rx); cases q; exact PySem.W.kia_one PySem.W.kitx_int I.kIn True.intro e (fun z=>nomatch z) h
 | str y=>obtain ⟨t,q⟩:=(show ∃ t,u = Value.str y t from rx); cases q; exact PySem.W.kia_one PySem.W.kitx_str I.kIn True.intro e (fun z=>nomatch z) h
 | flt y=>obtain ⟨t,q⟩:=(show ∃ t,u = Value.float y t from rx); cases q; exact PySem.W.kia_one PySem.W.kitx_float I.kIn True.intro e (fun z=>nomatch z) h
 | @lst a xs ea =>
  cases (show u = Value.ref a from rx)
  obtain ⟨_,_,n,_,h1⟩:=(show zcl X.prog X.w H s.heap a (.lst xs) from I.hok a _ ea)
  exact PySem.W.kia_one PySem.W.kitx_list I.kIn ⟨_,h1,rfl⟩ e (fun z=>nomatch z) h
 | @frz a ob xs ea =>
  cases (show u = Value.ref a from rx)
  obtain ⟨_,_,_,n,_,h1⟩:=(show zcl X.prog X.w H s.heap a (.frz ob (.lst xs)) from I.hok a _ ea)
  exact PySem.W.kia_one PySem.W.kitx_list I.kIn ⟨_,h1,rfl⟩ e (fun z=>nomatch z) h
 | @tup a xs ea =>
  cases (show u = Value.ref a from rx)
  obtain ⟨_,_,_,p⟩:=(show zcl X.prog X.w H s.heap a (.tup xs) from I.hok a _ ea)
  obtain ⟨o,h1,h2,_⟩:=p
  exact PySem.W.kia_one PySem.W.kitx_tuple I.kIn ⟨o,h1,h2⟩ e (fun z=>nomatch z) h
 | @dK a kvs ea =>
  cases (show u = Value.ref a from rx)
  obtain ⟨_,_,vs,_,p⟩:=(show zcl X.prog X.w H s.heap a (.dK kvs) from I.hok a _ ea)
  obtain ⟨o,es,ep,h1,h2,_⟩:=p
  exact PySem.W.kia_one PySem.W.kitx_dict I.kIn ⟨o,h1,h2.1⟩ e (fun z=>nomatch z) h
 | @dT a kvs ea =>
  cases (show u = Value.ref a from rx)
  obtain ⟨_,_,xs,_,o,es,ep,h1,h2,_⟩:=(show zcl X.prog X.w H s.heap a (.dT kvs) from I.hok a _ ea)
  exact PySem.W.kia_one PySem.W.kitx_dict I.kIn ⟨o,h1,h2.1⟩ e (fun z=>nomatch z) h
 | @ins a C dx fs ea cl ha hn htk hm =>
  cases (show u = Value.ref a from rx)
  obtain ⟨mA,O,_⟩:=zmh I.hok ea
  obtain ⟨od,J,_⟩:=O.look
  exact PySem.W.kia_one (PySem.W.kitx_own (cl.get _) cl.hd ha hn htk hm) I.kIn J e (fun z=>nomatch z) h
end
structure zb2 (k : Nat) (A : Around) : Prop where
 hd : A.handled = none
 dp : A.depth + 3 * k + 5 < recursionLimit
 un : A.units + 16 * k + 200 < cLine
theorem zb2.mono {j k : Nat} {A : Around} (r : zb2 k A) (h : j <= k) : zb2 j A:=⟨r.hd,by have:=r.dp; omega,by have:=r.un; omega⟩
theorem zb2.deeper {k : Nat} {A : Around} (r : zb2 (k + 1) A) (env : Env) : zb2 k (A.deeper env) :=
 ⟨r.hd,by have:=r.dp; show A.depth + 1 + 3 * k + 5 < _; omega,by have:=r.un; show A.units + 3 + 16 * k + 200 < _; omega⟩
theorem zb2.in1 {k : Nat} {A : Around} (r : zb2 (k + 1) A) : zb2 k A.in1 :=
 ⟨r.hd,by have:=r.dp; show A.depth + 3 * k + 5 < _; omega,by have:=r.un; show A.units + 1 + 16 * k + 200 < _; omega⟩
theorem z04 {A : Around} {C : Addr} {us : List Value} {kw : List (Str × Value)} : (A.under (.builtin "type.__call__" ⟨.ref C :: us,kw⟩)).depth = A.depth + 1:=by
 first | rfl | simp [Around.under,Code.weight,Code.isCreation,Code.isGuard,Code.isCaller,Code.frames,Code.isFrame,guardIds]
theorem z1m {A : Around} {C : Addr} {us : List Value} {kw : List (Str × Value)} : (A.under (.builtin "type.__call__" ⟨.ref C :: us,kw⟩)).units = A.units + 1:=by
 first | rfl | simp [Around.under,Code.cUnits,Code.frames,Code.isFrame]
theorem zb2.make {k : Nat} {A : Around} (r : zb2 (k + 1) A) (C : Addr) (us : List Value) (kw : List (Str × Value)) : zb2 k (A.under (.builtin "type.__call__" ⟨.ref C :: us,kw⟩)) :=
 ⟨r.hd,by have:=r.dp; rw [z04]; omega,by have:=r.un; rw [z1m]; omega⟩
theorem zb2.depth {k : Nat} {A : Around} (r : zb2 k A) : A.depth < recursionLimit:=by have:=r.dp; omega
theorem zb2.units {k : Nat} {A : Around} (r : zb2 k A) : A.units + 64 < cLine:=by have:=r.un; omega
noncomputable def zlc : TA:=fun _ H Q=>Q [] H
noncomputable def zl9 (ta : TE) (tr : TA) : TA:=fun σ H Q=>ta σ H fun x H1=>tr σ H1 fun xs H2=>Q (x :: xs) H2
section
variable {X : Cx} {e : Expr} {es : List Expr} {te : TE} {t : TA} {pos : Pos}
theorem zdy : PA X [] zlc:=fun _ _ _ _ H Q I h=>Calls.spliced_nil ⟨[],H,I,.nil,h⟩
theorem zdr (ha : PE X e te) (hr : PA X es t) (hs : starEach (e :: es) X.env = (false,eval e X.env) :: starEach es X.env:=by rfl) : PA X (e :: es) (zl9 te t):=by
 intro pos pins s σ H Q I h
 rw [hs]
 show wpAny _ _ (spliced ((false,eval e X.env) :: backTo pos (starEach es X.env))) _ _ s
 refine Calls.spliced_cons (thn (ha pins s σ H _ I h) fun u s1 ⟨x,H1,I1,r1,q1⟩=>?_)
 exact thn (hr pos pins s1 σ H1 _ I1 q1) fun us s2 ⟨xs,H2,I2,r2,q2⟩=>⟨x :: xs,H2,I2,.cons r1 r2,q2⟩
noncomputable def z3i (t : TA) : TE:=fun σ H Q=>t σ H fun xs H1=>xs.length <= sizeLine /\ ∀ p,H1 p = none -> Q (.ref p) (upd H1 p (.tup xs))
noncomputable def z76 (t : TA) : TE:=fun σ H Q=>t σ H fun xs H1=>xs.length <= sizeLine /\ ∀ p,H1 p = none -> Q (.ref p) (upd H1 p (.lst xs))
theorem zzk {x1} (h : PA X es t) : PE X (.Tuple es x1 pos) (z3i t):=by
 intro pins s σ H Q I hq
 refine wpAny_Tuple_spliced (thn (h pos pins s σ H _ I hq) fun us s1 ⟨xs,H1,I1,r,z,q⟩=>⟨by rw [<- r.length]; exact z,?_⟩)
 have hf : H1 s1.heap.objs.size = none:=I1.hok.fresh (Nat.le_refl _)
 refine ⟨.ref s1.heap.objs.size,upd H1 s1.heap.objs.size (.tup xs),I1.laid (t':=s1.toks) (fun b u e=>Heap.get?_push_of_some _ e) (Nat.le_refl _) ?_,rfl,q _ hf⟩
 exact ⟨z,us,r,⟨_,Heap.get?_push_size _ rfl,rfl,_,rfl⟩⟩
theorem zzc (h : PA X es t) : PE X (.List es pos) (z76 t):=by
 intro pins s σ H Q I hq
 refine wpAny_List_spliced (thn (h pos pins s σ H _ I hq) fun us s1 ⟨xs,H1,I1,r,z,q⟩=>⟨by rw [<- r.length]; exact z,?_⟩)
 have hf : H1 s1.heap.objs.size = none:=I1.hok.fresh (Nat.le_refl _)
 refine ⟨.ref s1.heap.objs.size,upd H1 s1.heap.objs.size (.lst xs),I1.laid (t':=s1.toks) (fun b u e=>Heap.get?_push_of_some _ e) (Nat.le_refl _) ?_,rfl,q _ hf⟩
 exact ⟨z,us,0,r,Heap.get?_push_size _ rfl⟩
end
noncomputable abbrev Sp:=List V -> Hp -> VK -> XK -> Prop
noncomputable abbrev CXT:=List Env -> Hp -> Shared -> XK -> Value -> Shared -> Prop
structure zf1 (P : Program) (w : World) (K : PySem.W.Frag) (mg : Str -> Option Value) (base : Heap) (A : Around) (outer : List Env) (s : Shared) (H : Hp) : Prop where
 frames : A.frames = some outer
 mod : Mod K mg base
 bs : ∀ b o,base.get? b = some o -> s.heap.get? b = some o /\ H b = none
 bsz : base.objs.size <= s.heap.objs.size
 funs : s.heap.FunFrames base outer
 frf : ∀ b ∈ frs outer,H b = none
 hok : HOk P w H s.heap
 bare : AllBare s.gens
noncomputable def CE (outer : List Env) (P : Program) (w : World) (H : Hp) (s : Shared) (Q : VK) (u : Value) (s' : Shared) : Prop :=
 ∃ v H',s'.os = s.os /\ AllBare s'.gens /\ Un (frs outer) [] H H' s.heap s'.heap /\ HOk P w H' s'.heap /\ zaw v u /\ Q v H'
noncomputable def CR (CX : CXT) (outer : List Env) (P : Program) (w : World) (H : Hp) (s : Shared) (Q : VK) (E : XK) (r : Result) (s' : Shared) : Prop :=
 match r with
 | .ok (.ret u)=>CE outer P w H s Q u s'
 | .ok _=>False
 | .error e=>CX outer H s E e s'
structure zax (P : Program) (w : World) (K : PySem.W.Frag) (mg : Str -> Option Value) (base : Heap) (CX : CXT) (k : Nat) (f : Addr) (fd : FuncData) (ps : List Str) (sp : Sp) : Prop where
 len : ∀ vs H Q E,sp vs H Q E -> vs.length = ps.length
 run : ∀ (A : Around) (outer : List Env) (s : Shared) (H : Hp) (args : Args) (us : List Value) (vs : List V) (Q : VK) (E : XK),zb2 k A -> zf1 P w K mg base A outer s H -> BindsTo s fd args (ps.zip us) -> zas vs us -> sp vs H Q E ->
  codeAny (model P w) A (.call (.ref f) args) (CR CX outer P w H s Q E) s
theorem zax.mono {P : Program} {w : World} {K : PySem.W.Frag} {mg : Str -> Option Value} {base : Heap} {CX : CXT} {j k : Nat} {f : Addr} {fd : FuncData} {ps : List Str} {sp : Sp} (F : zax P w K mg base CX j f fd ps sp) (h : j <= k) :
  zax P w K mg base CX k f fd ps sp:=⟨F.len,fun A outer s H args us vs Q E hr=>F.run A outer s H args us vs Q E (hr.mono h)⟩
theorem zax.imp {P : Program} {w : World} {K : PySem.W.Frag} {mg : Str -> Option Value} {base : Heap} {CX : CXT} {k : Nat} {f : Addr} {fd : FuncData} {ps : List Str} {sp sp' : Sp} (F : zax P w K mg base CX k f fd ps sp)
  (h : ∀ vs H Q E,sp' vs H Q E -> sp vs H Q E) : zax P w K mg base CX k f fd ps sp' :=
 ⟨fun vs H Q E q=>F.len vs H Q E (h _ _ _ _ q),fun A outer s H args us vs Q E hr he hb hv hs=>F.run A outer s H args us vs Q E hr he hb hv (h _ _ _ _ hs)⟩
theorem zf1.make {P : Program} {w : World} {K : PySem.W.Frag} {mg : Str -> Option Value} {base : Heap} {A : Around} {outer : List Env} {s : Shared} {H : Hp} (e : zf1 P w K mg base A outer s H) (C : Addr) (us : List Value) (kw : List (Str × Value)) :
  zf1 P w K mg base (A.under (.builtin "type.__call__" ⟨.ref C :: us,kw⟩)) outer s H:=⟨by first | exact e.frames | (simpa [Around.under,Code.envs,Code.isFrame,pushEnvs] using e.frames),e.mod,e.bs,e.bsz,e.funs,e.frf,e.hok,e.bare⟩
theorem zf1.in1 {P : Program} {w : World} {K : PySem.W.Frag} {mg : Str -> Option Value} {base : Heap} {A : Around} {outer : List Env} {s : Shared} {H : Hp} (e : zf1 P w K mg base A outer s H) :
  zf1 P w K mg base A.in1 outer s H:=⟨e.frames,e.mod,e.bs,e.bsz,e.funs,e.frf,e.hok,e.bare⟩
section
variable {X : Cx} {pins : List (Addr × Obj)} {σ : St} {H : Hp} {s s' : Shared}
theorem Inv.env0 (I : Inv X pins σ H s) : zf1 X.prog X.w X.K X.mg X.base X.A X.stack s H :=
 ⟨I.ok.frames,I.ok.mod,I.bs,Nat.le_trans I.ok.bsz I.sz,I.stack,I.stkFree,I.hok,I.bare⟩
theorem Inv.after {Q : VK} {u : Value} (I : Inv X pins σ H s) (h : CE X.stack X.prog X.w H s Q u s') : EP X pins σ Q u s':=by
 obtain ⟨v,H',os,bare,un,hok,r,q⟩:=h
 obtain ⟨hh,g,d,t,os'⟩:=s'
 obtain rfl : os' = s.os:=os
 exact ⟨v,H',I.call (h':=hh) (g':=g) (d':=d) (t':=t) (ch:=[]) un hok bare (fun b z=>absurd z (by simp)),r,q⟩
end
noncomputable def z4g (sp : Sp) (dvs : List V) (E : XK) (t : TA) : TE:=fun σ H Q=>t σ H fun vs H1=>sp (vs ++ dvs) H1 Q E
noncomputable def zz6 (C : Addr) (m : Str) (sp : Sp) (dvs : List V) (E : XK) (ta : TE) (t : TA) : TE:=fun σ H Q=>ta σ H fun x H1=>∃ a dx fs,x = .ref a /\ H1 a = some (.ins C dx fs) /\ fs.lookup m = none /\
 t σ H1 fun vs H2=>sp (x :: (vs ++ dvs)) H2 Q E
noncomputable def zxu (C : Addr) (sp : Sp) (dvs : List V) (E : XK) (t : TA) : TE:=fun σ H Q=>t σ H fun vs H1=>∀ x dx,H1 x = none -> H1 dx = none -> dx ≠ x ->
 sp (.ref x :: (vs ++ dvs)) (upd (upd H1 dx (.own x)) x (.ins C dx [])) (fun v H2=>v = .non /\ Q (.ref x) H2) E
noncomputable def za3 (K : PySem.W.Frag) (fd : FuncData) (ps : List Str) (ds : List Value) : Prop :=
 ∀ (s : Shared) (us : List Value),K.In s.heap -> (us ++ ds).length = ps.length -> BindsTo s fd ⟨us,[]⟩ (ps.zip (us ++ ds))
theorem za3.all {K : PySem.W.Frag} {fd : FuncData} {ps : List Str} (h : ∀ us : List Value,us.length = ps.length -> bindArgs fd ⟨us,[]⟩ = pure (ps.zip us)) : za3 K fd ps []:=fun s us _ hl=>by
 rw [List.append_nil] at hl ⊢
 exact .of_eq (h us hl)
noncomputable def zi2 (CX : CXT) (X : Cx) (E : XK) : Prop:=∀ (pins : List (Addr × Obj)) (σ : St) (H : Hp) (s : Shared) (e : Value) (s' : Shared),Inv X pins σ H s -> CX X.stack H s E e s' -> X.xe e s'
section
variable {X : Cx} {CX : CXT} {k : Nat} {f C : Addr} {fd : FuncData} {ps : List Str} {sp : Sp} {dvs : List V} {ds : List Value} {E : XK} {x m : Str} {p pos apos : Pos} {e o : Expr} {es : List Expr} {ta : TE} {t : TA}
theorem zrw {pins : List (Addr × Obj)} {σ : St} {H : Hp} {s : Shared} {Q : VK} {us : List Value} {vs : List V} (F : zax X.prog X.w X.K X.mg X.base CX k f fd ps sp) (hr : zb2 k X.A) (hb : za3 X.K fd ps ds) (hd : zas dvs ds) (hx : zi2 CX X E)
  (I : Inv X pins σ H s) (r : zas vs us) (h : sp (vs ++ dvs) H Q E) : wpAny (model X.prog X.w) X.A (call (.ref f) us) (EP X pins σ Q) X.xe s:=by
 have r2 : zas (vs ++ dvs) (us ++ ds):=r.append hd
 have hl : (us ++ ds).length = ps.length:=by rw [<- r2.length]; exact F.len _ _ _ _ h
 refine wpAny_call (codeAny_mono (F.run X.A X.stack s H ⟨us,[]⟩ (us ++ ds) (vs ++ dvs) Q E hr I.env0 (hb s us I.kIn hl) r2 h) fun r s' hq=>?_)
 cases r with
 | error e=>exact hx pins σ H s e s' I hq
 | ok fl =>
  cases fl with
  | ret u=>exact I.after hq
  | next=>exact False.elim hq
  | brk=>exact False.elim hq
  | cont=>exact False.elim hq
theorem zlg (F : zax X.prog X.w X.K X.mg X.base CX k f fd ps sp) (hr : zb2 k X.A) (hg : Gl X x) (hm : X.mg x = some (.ref f)) (hk : PySem.W.keepIn X.K (.ref f) = true) (hb : za3 X.K fd ps ds) (hd : zas dvs ds) (hx : zi2 CX X E)
  (ha : PA X (e :: es) t) (hdb : (x == ("__debug__" : Str)) = false:=by decide) (he : starEach (e :: es) X.env = (false,eval e X.env) :: starEach es X.env:=by rfl) (hpl : (backTo pos (starEach es X.env)).any (·.1) = false:=by rfl) :
  PE X (.Call (.Name x p) (e :: es) [] pos) (z4g sp dvs E t):=by
 intro pins s σ H Q I h
 refine wpAny_Call_Name_kw (zss I hg hm ?_ hdb)
 refine PySem.W.callWith_K (h₀:=X.base) I.ok.mod.kin hk (thn (ha pos pins s σ H _ I h) fun us s1 ⟨vs,H1,I1,r,q⟩=>⟨I1.kIn,?_⟩) he hpl
 exact zrw F hr hb hd hx I1 r q
theorem z0t {pl : Sem Bool} (he : PE X o ta) (c : Cls X.K C) (hm : zdb X.K C m f) (F : zax X.prog X.w X.K X.mg X.base CX k f fd ps sp) (hr : zb2 k X.A) (hb : za3 X.K fd ps ds) (hd : zas dvs ds) (hx : zi2 CX X E) (ha : PA X (e :: es) t)
  (hst : starEach (e :: es) X.env = (false,eval e X.env) :: starEach es X.env:=by rfl) (hpl : (backTo pos (starEach es X.env)).any (·.1) = false:=by rfl)
  (ht : eval (.Call (.Attribute o m apos) (e :: es) [] pos) X.env = (do
   let ov <- eval o X.env
   standAt apos.atName
   let (f,first) <- holding [ov] (getMethod ov m pl)
   callWith pos f first (backTo pos (starEach (e :: es) X.env)) (backToKw pos (keywordEach [] X.env))):=by rfl) :
  PE X (.Call (.Attribute o m apos) (e :: es) [] pos) (zz6 C m sp dvs E ta t):=by
 intro pins s σ H Q I h
 refine PySem.W.methodCall_KW (pl:=pl) (thn (he pins s σ H _ I h) fun u s1 ⟨x,H1,I1,rx,a,dx,fs,ex,ea,l,q⟩=>?_) ht
 subst ex
 obtain rfl : u = Value.ref a:=rx
 refine zy6 I1 ea c hm l ?_
 refine PySem.W.callWith_K (first:=[.ref a]) (h₀:=X.base) I.ok.mod.kin hm.kp (thn (ha pos pins s1 σ H1 _ I1 q) fun us s2 ⟨vs,H2,I2,r,q2⟩=>⟨I2.kIn,?_⟩) hst hpl
 exact zrw (us:=.ref a :: us) (vs:=.ref a :: vs) F hr hb hd hx I2 (.cons rfl r) q2
structure Mk (K : PySem.W.Frag) (C f : Addr) : Prop where
 makes : PySem.W.makesIn K C = true
 init : PySem.W.findIn K (.ref C) "__init__" = some (some (.ref f))
 fn : PySem.W.isFn K (.ref f) = true
 kp : PySem.W.keepIn K (.ref C) = true
theorem z03 {pins : List (Addr × Obj)} {σ : St} {H : Hp} {s : Shared} {Q : VK} {us : List Value} {vs : List V} (M : Mk X.K C f) (F : zax X.prog X.w X.K X.mg X.base CX k f fd ps sp) (hr : zb2 (k + 1) X.A) (hb : za3 X.K fd ps ds) (hd : zas dvs ds)
  (hx : zi2 CX X E) (I : Inv X pins σ H s) (r : zas vs us)
  (h : ∀ x dx,H x = none -> H dx = none -> dx ≠ x -> sp (.ref x :: (vs ++ dvs)) (upd (upd H dx (.own x)) x (.ins C dx [])) (fun v H2=>v = .non /\ Q (.ref x) H2) E) :
  wpAny (model X.prog X.w) X.A (call (.ref C) us) (EP X pins σ Q) X.xe s:=by
 have hq:=h (s.heap.objs.size + 1) s.heap.objs.size (I.hok.fresh (Nat.le_succ _)) (I.hok.fresh (Nat.le_refl _)) (Nat.ne_of_lt (Nat.lt_succ_self _))
 have I2:=Inv.made (C:=C) I
 have r2 : zas (V.ref (s.heap.objs.size + 1) :: (vs ++ dvs)) (Value.ref (s.heap.objs.size + 1) :: (us ++ ds)):=.cons rfl (r.append hd)
 have hl : (Value.ref (s.heap.objs.size + 1) :: us ++ ds).length = ps.length:=by
  have e:=r2.length
  rw [F.len _ _ _ _ hq] at e
  exact e.symm
 refine wpAny_call (z47 (f:=f) I.kIn M.makes M.init (beq_iff_eq.mp M.fn) (codeAny_mono (F.run _ X.stack _ _ ⟨Value.ref (s.heap.objs.size + 1) :: us,[]⟩ (Value.ref (s.heap.objs.size + 1) :: (us ++ ds)) _ _ E (hr.make C us [])
  (I2.env0.make C us []) (hb _ (Value.ref (s.heap.objs.size + 1) :: us) I2.kIn hl) r2 hq) fun r s' hq'=>?_))
 cases r with
 | error e=>exact hx pins σ _ _ e s' I2 hq'
 | ok fl =>
  cases fl with
  | ret u =>
   obtain ⟨v,H',I3,rv,ev,q3⟩:=I2.after hq'
   subst ev
   exact ⟨rv,⟨V.ref (s.heap.objs.size + 1),H',I3,rfl,q3⟩⟩
  | next=>exact False.elim hq'
  | brk=>exact False.elim hq'
  | cont=>exact False.elim hq'
theorem z3k (M : Mk X.K C f) (F : zax X.prog X.w X.K X.mg X.base CX k f fd ps sp) (hr : zb2 (k + 1) X.A) (hg : Gl X x) (hm : X.mg x = some (.ref C)) (hb : za3 X.K fd ps ds) (hd : zas dvs ds) (hx : zi2 CX X E)
  (ha : PA X (e :: es) t) (hdb : (x == ("__debug__" : Str)) = false:=by decide) (he : starEach (e :: es) X.env = (false,eval e X.env) :: starEach es X.env:=by rfl) (hpl : (backTo pos (starEach es X.env)).any (·.1) = false:=by rfl) :
  PE X (.Call (.Name x p) (e :: es) [] pos) (zxu C sp dvs E t):=by
 intro pins s σ H Q I h
 refine wpAny_Call_Name_kw (zss I hg hm ?_ hdb)
 refine PySem.W.callWith_K (h₀:=X.base) I.ok.mod.kin M.kp (thn (ha pos pins s σ H _ I h) fun us s1 ⟨vs,H1,I1,r,q⟩=>⟨I1.kIn,?_⟩) he hpl
 exact z03 M F hr hb hd hx I1 r q
end
section
variable {X : Cx} {CX : CXT} {k : Nat} {f C : Addr} {fd : FuncData} {ps ks : List Str} {sp : Sp} {E : XK} {x m : Str} {p pos apos kpos : Pos} {e o : Expr} {es : List Expr} {kws : List Keyword} {te ta : TE} {t tk : TA} {nm : Option Str}
variable {g : List Value -> List Value -> List Value} {gV : List V -> List V -> List V}
end
structure za6 (N P : List Str) (sc : Scope) : Prop where
 kind : sc.kind = .function
 co : sc.isCoroutine = false
 gen : sc.isGenerator = false
 nd : N.Nodup
 pre : N.take P.length = P
 par : ∀ x ∈ P,sc.names.lookup x = some .local \/ sc.names.lookup x = some .cell
 nofree : ∀ y ∈ sc.names,y.2 ≠ .free
theorem zuk {kindOf : Str -> Option NameKind} {x : Str} : ∀ {binds : List (Str × Value)} {m : Str -> Option Value},(∀ v,(x,v) ∉ binds) -> bindL kindOf binds m x = m x
 | [],_,_=>rfl
 | (n,v) :: r,m,h=>by
  unfold bindL
  rw [zuk fun w hw=>h w (List.mem_cons_of_mem _ hw)]
  split
  ·have : x ≠ n:=by rintro rfl; exact h v List.mem_cons_self
   simp [this]
  ·rfl
theorem zu6 {kindOf : Str -> Option NameKind} {x : Str} : ∀ {binds : List (Str × Value)} {m : Str -> Option Value},(∀ v,(x,v) ∉ binds) -> bindC kindOf binds m x = m x
 | [],_,_=>rfl
 | (n,v) :: r,m,h=>by
  unfold bindC
  rw [zu6 fun w hw=>h w (List.mem_cons_of_mem _ hw)]
  split
  ·rfl
  ·have : x ≠ n:=by rintro rfl; exact h v List.mem_cons_self
   simp [this]
theorem zr2 {kindOf : Str -> Option NameKind} {x : Str} {v : Value} : ∀ {P : List Str} {vs : List Value} {i : Nat} {m : Str -> Option Value},P.Nodup -> P[i]? = some x -> vs[i]? = some v -> kindOf x = some .local ->
  bindL kindOf (P.zip vs) m x = some v
 | [],_,_,_,_,h,_,_=>by simp at h
 | _ :: _,[],_,_,_,_,h,_=>by simp at h
 | p :: P,w :: vs,0,m,nd,h1,h2,hk=>by
  simp at h1 h2; subst h1; subst h2
  show bindL kindOf ((p,w) :: P.zip vs) m p = _
  unfold bindL
  rw [zuk fun v hv=>(List.nodup_cons.mp nd).1 (List.of_mem_zip hv).1,if_pos hk]
  simp
 | p :: P,w :: vs,i + 1,m,nd,h1,h2,hk=>by
  show bindL kindOf ((p,w) :: P.zip vs) m x = _
  unfold bindL
  exact zr2 (i:=i) (List.nodup_cons.mp nd).2 (by simpa using h1) (by simpa using h2) hk
theorem zru {kindOf : Str -> Option NameKind} {x : Str} {v : Value} : ∀ {P : List Str} {vs : List Value} {i : Nat} {m : Str -> Option Value},P.Nodup -> P[i]? = some x -> vs[i]? = some v -> kindOf x ≠ some .local ->
  bindC kindOf (P.zip vs) m x = some v
 | [],_,_,_,_,h,_,_=>by simp at h
 | _ :: _,[],_,_,_,_,h,_=>by simp at h
 | p :: P,w :: vs,0,m,nd,h1,h2,hk=>by
  simp at h1 h2; subst h1; subst h2
  show bindC kindOf ((p,w) :: P.zip vs) m p = _
  unfold bindC
  rw [zu6 fun v hv=>(List.nodup_cons.mp nd).1 (List.of_mem_zip hv).1,if_neg hk]
  simp
 | p :: P,w :: vs,i + 1,m,nd,h1,h2,hk=>by
  show bindC kindOf ((p,w) :: P.zip vs) m x = _
  unfold bindC
  exact zru (i:=i) (List.nodup_cons.mp nd).2 (by simpa using h1) (by simpa using h2) hk
noncomputable def start (N : List Str) (vs : List V) : St:=vs.map some ++ List.replicate (N.length - vs.length) none
noncomputable def zf8 (CX : CXT) (P : Program) (w : World) (K : PySem.W.Frag) (mg : Str -> Option Value) (base : Heap) (N : List Str) (qual : Str) (scope : Scope) (f : Addr) (cd : Value) (A : Around) (outer : List Env) (s : Shared) (H : Hp) (E : XK) : Cx where
 prog:=P
 w:=w
 K:=K
 mg:=mg
 base:=base
 A:=A.deeper (envOfC qual scope s.heap.objs.size f cd)
 N:=N
 s₀:=s
 H₀:=H
 env:=envOfC qual scope s.heap.objs.size f cd
 outer:=outer
 stack:=envOfC qual scope s.heap.objs.size f cd :: outer
 ex:=[]
 calm:=true
 fn:=fun _=>true
 pn:=[]
 xe:=fun e s'=>wpAny (model P w) (A.deeper (envOfC qual scope s.heap.objs.size f cd)) (leaving (envOfC qual scope s.heap.objs.size f cd) e) (fun _ s''=>CX outer H s E e s'') (fun e' s''=>CX outer H s E e' s'') s'
theorem zqj {sc : Scope} {n : Nat} {x : Str} (h : sc.names.lookup x = some .cell) : ∃ c,(cellsFrom n sc.names []).lookup x = some c:=by
 have q:=PySem.W.cellsFrom_some sc.names n [] (.inl h)
 exact Option.isSome_iff_exists.mp q
theorem z2x {CX : CXT} {P : Program} {w : World} {K : PySem.W.Frag} {mg : Str -> Option Value} {base : Heap} {N ps : List Str} {qual : Str} {scope : Scope} {f : Addr} {cd : Value} {A : Around} {outer : List Env} {s s1 : Shared} {H : Hp} {E : XK} {us : List Value} {vs : List V}
  (S : za6 N ps scope) (hd : A.handled = none) (e0 : zf1 P w K mg base A outer s H) (hl : vs.length = ps.length) (r : zas vs us)
  (x : InCallC s s.heap.objs.size (bindL (envOfC qual scope s.heap.objs.size f cd).kindOf (ps.zip us) fun _=>none) (cellsFrom (s.heap.objs.size + 1) scope.names []) (bindC (envOfC qual scope s.heap.objs.size f cd).kindOf (ps.zip us) fun _=>none) s1) :
  Inv (zf8 CX P w K mg base N qual scope f cd A outer s H E) [] (start N vs) H s1:=by
 have hpl : ps.length <= N.length:=by have:=congrArg List.length S.pre; rw [List.length_take] at this; omega
 obtain ⟨h1,tk,rfl,hk⟩:=x.done
 have noA : ∀ b : Addr,b ∉ (zf8 CX P w K mg base N qual scope f cd A outer s H E).ex:=fun b z=>absurd (show b ∈ ([] : List Addr) from z) (by simp)
 refine ⟨⟨e0.mod,S.kind,rfl,rfl,Nat.le_refl _,fun y z c h1 h2=>?_,fun y hy=>?_,fun y c _ h=>?_,fun _=>hd,Around.frames_deeper e0.frames,.inr ⟨rfl,rfl⟩,fun b z=>absurd z (noA b),e0.bs,e0.bsz,fun b _ _=>noA b,fun b z=>absurd z (noA b),e0.funs,e0.frf⟩,
  rfl,e0.bare,Un.kept hk,⟨_,x.toInCall.ns,fun i y v h1 h2 h3=>?_⟩,fun y c h=>⟨_,x.cell y c h⟩,e0.hok.fresh (Nat.le_refl _),fun y c h=>?_,fun p hp=>absurd (show p ∈ ([] : List (Addr × Obj)) from hp) (by simp),e0.hok.kept hk,?_⟩
 ·exact name_of_addr x.apart (PySem.mem_of_lookup h1) (PySem.mem_of_lookup h2)
 ·have hy : scope.names.lookup y = some .cell \/ scope.names.lookup y = some .free:=hy
  rcases hy with hy | hy
  ·exact zqj hy
  ·exact absurd rfl (S.nofree _ (PySem.mem_of_lookup hy))
 ·exact Nat.le_of_lt (x.above y c (PySem.mem_of_lookup h))
 ·have hi : i < vs.length:=by
   unfold start at h2
   by_cases hi : i < vs.length
   ·exact hi
   ·rw [List.getElem?_append_right (by simpa using hi)] at h2
    rw [List.getElem?_replicate] at h2
    split at h2 <;> cases h2
  have ha : vs[i]? = some v:=by
   unfold start at h2
   rw [List.getElem?_append_left (by simpa using hi),List.getElem?_map] at h2
   cases e : vs[i]? with
   | none=>rw [e] at h2; cases h2
   | some a=>rw [e] at h2; cases h2; rfl
  obtain ⟨u,hu,rv⟩:=r.get ha
  have hp : ps[i]? = some y:=by
   rw [<- S.pre,List.getElem?_take_of_lt (by omega)]; exact h1
  have ndP : ps.Nodup:=by rw [<- S.pre]; exact S.nd.sublist (List.take_sublist _ _)
  refine ⟨u,rv,?_⟩
  rcases S.par y (List.mem_of_getElem? hp) with k | k
  ·exact .inl ⟨k,zr2 ndP hp hu k⟩
  ·obtain ⟨c,e⟩:=zqj (n:=s.heap.objs.size + 1) k
   refine .inr ⟨.inl k,c,e,?_⟩
   have q:=x.cell y c e
   rw [zru ndP hp hu (by show scope.names.lookup y ≠ _; rw [k]; decide)] at q
   exact q
 ·exact e0.hok.fresh (Nat.le_of_lt (x.above y c (PySem.mem_of_lookup h)))
 ·unfold start
  show _ = N.length
  rw [List.length_append,List.length_map,List.length_replicate]
  omega
theorem z8l {CX : CXT} {P : Program} {w : World} {K : PySem.W.Frag} {mg : Str -> Option Value} {base : Heap} {k : Nat} {f : Addr} {name qual : Str} {params : Arguments} {body : List Stmt} {scope : Scope} {dV kV doc pm cdv ct oc : Value} {an od : Option Addr}
  {osl : Array (Option Value)} {N ps : List Str} {sp : Sp} (lk : K.lookup f = some ⟨oc,od,.func (PySem.W.fnOf name qual params body scope dV kV doc pm an cdv ct),osl⟩) (hcd : PySem.W.codeIn K cdv qual = true) (S : za6 N ps scope)
  (len : ∀ vs H Q E,sp vs H Q E -> vs.length = ps.length)
  (hbody : ∀ (A : Around) (outer : List Env) (s : Shared) (H : Hp) (vs : List V) (Q : VK) (E : XK),zb2 k (A.deeper (envOfC qual scope s.heap.objs.size f cdv)) -> sp vs H Q E ->
   ∃ t,PSs (zf8 CX P w K mg base N qual scope f cdv A outer s H E) body t /\ t { nx:=fun _ H'=>Q .non H',rt:=Q } (start N vs) H) :
  zax P w K mg base CX (k + 1) f (PySem.W.fnOf name qual params body scope dV kV doc pm an cdv ct) ps sp:=by
 refine ⟨len,fun A outer s H args us vs Q E hr e0 hb r hsp=>?_⟩
 have hl:=len _ _ _ _ hsp
 have KX : K.In s.heap:=e0.mod.kin.keeps fun b o e=>(e0.bs b o e).1
 have lim : s.heap.NoLimit:=e0.mod.nolimit.keeps fun b o e=>(e0.bs b o e).1
 have hkind : ∀ y ∈ ps.zip us,scope.names.lookup y.1 = some .local \/ (scope.names.lookup y.1 = some .cell /\ ((cellsFrom (s.heap.objs.size + 1) scope.names []).lookup y.1).isSome = true):=fun ⟨n,v⟩ hy=>by
  rcases S.par n (List.of_mem_zip hy).1 with q | q
  ·exact .inl q
  ·exact .inr ⟨q,PySem.W.cellsFrom_some _ _ _ (.inl q)⟩
 refine codeAny_call_function hr.depth (KX _ _ lk) rfl S.co S.gen rfl (PySem.W.codeRec_of KX hcd) (hb _ _ _ _ ?_)
 refine wpAny_newFunctionEnv_cells S.kind hkind fun env he s1 x=>?_
 subst he
 refine ⟨lim.keeps x.toInCall.keep,codeAny_func ?_⟩
 obtain ⟨t,ht,hq⟩:=hbody A outer s H vs Q E (hr.deeper _) hsp
 have I : Inv (zf8 CX P w K mg base N qual scope f cdv A outer s H E) [] (start N vs) H s1:=z2x S hr.hd e0 hl r x
 refine wpAny_mono (ht [] s1 (start N vs) H _ I hq) (fun fl s' hs=>?_) fun e s' hs=>hs
 have fin : ∀ {σ' : St} {H' : Hp} {v : V} {u : Value},Inv (zf8 CX P w K mg base N qual scope f cdv A outer s H E) [] σ' H' s' -> zaw v u -> Q v H' -> CE outer P w H s Q u s' :=
  fun {σ' H' v u} J rv q=>⟨v,H',J.os,J.bare,J.base,J.hok,rv,q⟩
 cases fl with
 | ret u =>
  obtain ⟨v,σ',H',J,rv,q⟩:=hs
  exact fin J rv q
 | next =>
  obtain ⟨σ',H',J,q⟩:=hs
  exact fin (v:=V.non) (u:=Value.none) J rfl q
 | brk =>
  obtain ⟨_,_,_,q⟩:=hs
  exact False.elim q
 | cont =>
  obtain ⟨_,_,_,q⟩:=hs
  exact False.elim q
section
variable {X : Cx} {x : Str} {p pos : Pos} {e : Expr} {es : List Expr} {t : TA} {id T : String} {r : List V -> Hp -> VK -> Prop}
noncomputable def tCB (r : List V -> Hp -> VK -> Prop) (t : TA) : TE:=fun σ H Q=>t σ H fun vs H1=>r vs H1 Q
theorem zne (hc : zdp X (.builtin id) r) (hg : Gl X x) (hm : X.mg x = none) (hv : bootBuiltins x = some (.builtin id)) (ha : PA X (e :: es) t) (hn : x ≠ "__name__":=by decide) (hdb : (x == ("__debug__" : Str)) = false:=by decide)
  (he : starEach (e :: es) X.env = (false,eval e X.env) :: starEach es X.env:=by rfl) (hpl : (backTo pos (starEach es X.env)).any (·.1) = false:=by rfl) : PE X (.Call (.Name x p) (e :: es) [] pos) (tCB r t):=by
 intro pins s σ H Q I h
 refine wpAny_Call_Name_kw (zf5 I hg hm hv ?_ hn hdb)
 exact PyProof.Rows.callWith_builtin1 (thn (ha pos pins s σ H _ I h) fun us s1 ⟨vs,H1,I1,r1,q1⟩=>hc pins s1 σ H1 vs us Q I1 r1 q1) he hpl
theorem z7i (hc : zdp X (.type T) r) (hg : Gl X x) (hm : X.mg x = none) (hv : bootBuiltins x = some (.type T)) (ha : PA X (e :: es) t) (hn : x ≠ "__name__":=by decide) (hdb : (x == ("__debug__" : Str)) = false:=by decide)
  (he : starEach (e :: es) X.env = (false,eval e X.env) :: starEach es X.env:=by rfl) (hpl : (backTo pos (starEach es X.env)).any (·.1) = false:=by rfl) : PE X (.Call (.Name x p) (e :: es) [] pos) (tCB r t):=by
 intro pins s σ H Q I h
 refine wpAny_Call_Name_kw (zf5 I hg hm hv ?_ hn hdb)
 exact PyProof.Rows.callWith_type1 (thn (ha pos pins s σ H _ I h) fun us s1 ⟨vs,H1,I1,r1,q1⟩=>hc pins s1 σ H1 vs us Q I1 r1 q1) he hpl
end
end L2
namespace HT
open PySem PyProof.Rows
section
open PySem.SeqAt
open PySem.AutoSeq1 (wpAny_loadPart')
open PySem.MeetsSeq PySem.MeetsSeq2 PySem.MeetsSeq3
end
section
variable {prog : Program} {w : World} {A : Around} {E : Value -> Shared -> Prop} {s : Shared}
noncomputable def sIx (n d : Nat) : Option Int -> Nat
 | none=>d
 | some v=>if v < 0 then (v + (n : Int)).toNat else min v.toNat n
theorem sIx_none (n d : Nat) : sIx n d none = d:=rfl
theorem sIx_nat (n d k : Nat) : sIx n d (some (k : Int)) = min k n:=by
 show (if (k : Int) < 0 then ((k : Int) + (n : Int)).toNat else min (k : Int).toNat n) = min k n
 rw [if_neg (by omega),Int.toNat_natCast]
end
end HT
namespace L2
open PySem PySem.Spec PyProof.Rows
noncomputable abbrev TO:=St -> Hp -> (Option Int -> Hp -> Prop) -> Prop
noncomputable def PO (X : Cx) (e : Option Expr) (t : TO) : Prop :=
 ∀ (pins : List (Addr × Obj)) (s : Shared) (σ : St) (H : Hp) (Q : Option Int -> Hp -> Prop),Inv X pins σ H s -> t σ H Q ->
  wpAny (model X.prog X.w) X.A (evalPart e X.env) (fun u s'=>∃ o H',Inv X pins σ H' s' /\ IsPart u o /\ Q o H') X.xe s
noncomputable def z3o : TO:=fun _ H Q=>Q none H
noncomputable def z5k (t : TE) : TO:=fun σ H Q=>t σ H fun x H1=>∃ i,x = .int i /\ Q (some i) H1
theorem z48 {ns : List Int} : ∀ {us : List Value},zas (ns.map V.int) us -> IntsAre us ns:=by
 induction ns with
 | nil=>intro us r; rw [List.map_nil] at r; cases r; exact .nil
 | cons n ns ih =>
  intro us r
  rw [List.map_cons] at r
  cases r with
  | cons r1 r2 =>
   obtain ⟨t,e⟩:=r1
   subst e
   exact .cons n t (ih r2)
section
variable {X : Cx} {e : Expr} {te : TE} {lo hi : Option Expr} {tl th : TO} {pos p2 : Pos}
theorem zyr : PO X none z3o:=by
 intro pins s σ H Q I h
 rw [evalPart_none]
 exact wpAny_pure ⟨none,H,I,.none,h⟩
theorem z42 (h : PE X e te) : PO X (some e) (z5k te):=by
 intro pins s σ H Q I hw
 rw [evalPart_some]
 refine thn (h pins s σ H _ I hw) fun u s1 ⟨x,H1,I1,r1,q1⟩=>?_
 obtain ⟨i,rfl,q⟩:=q1
 obtain ⟨t,rfl⟩:=r1
 exact ⟨some i,H1,I1,.int i t,q⟩
noncomputable def SlR (X : Cx) (r : V -> Option Int -> Option Int -> Hp -> VK -> Prop) : Prop :=
 ∀ (pins : List (Addr × Obj)) (s : Shared) (σ : St) (H : Hp) (x : V) (v vl vu : Value) (lo hi : Option Int) (sl : Addr) (Q : VK),Inv X pins σ H s -> zaw x v -> s.heap.IsSliceOf sl vl vu .none -> IsPart vl lo -> IsPart vu hi -> r x lo hi H Q ->
  ∃ T id,typeLookup (.type T) "__getitem__" = pure (some (.builtin id)) /\ s.TypeIs v T /\ wpAny (model X.prog X.w) X.A (getItem v (.ref sl)) (EP X pins σ Q) X.xe s
theorem SlR.or {r r' : V -> Option Int -> Option Int -> Hp -> VK -> Prop} (h : SlR X r) (h' : SlR X r') : SlR X (fun x lo hi H Q=>r x lo hi H Q \/ r' x lo hi H Q):=by
 intro pins s σ H x v vl vu lo hi sl Q I rx hs pl pu q
 rcases q with q | q
 ·exact h pins s σ H x v vl vu lo hi sl Q I rx hs pl pu q
 ·exact h' pins s σ H x v vl vu lo hi sl Q I rx hs pl pu q
noncomputable def tSl (r : V -> Option Int -> Option Int -> Hp -> VK -> Prop) (te : TE) (tl th : TO) : TE:=fun σ H Q=>te σ H fun x H1=>tl σ H1 fun l H2=>th σ H2 fun u H3=>r x l u H3 Q
theorem z0g {r : V -> Option Int -> Option Int -> Hp -> VK -> Prop} (hr : SlR X r) (he : PE X e te) (hl : PO X lo tl) (hu : PO X hi th) : PE X (.Subscript e (.Slice lo hi none p2) pos) (tSl r te tl th):=by
 intro pins s σ H Q I h
 refine Subscript_ (thn (he pins s σ H _ I h) fun v s1 ⟨x,H1,I1,r1,q1⟩=>?_)
 refine wpAny_Slice (thn (hl pins s1 σ H1 _ I1 q1) fun vl s2 ⟨l,H2,I2,pl,q2⟩=>thn (hu pins s2 σ H2 _ I2 q2) fun vu s3 ⟨u,H3,I3,pu,q3⟩=>?_)
 rw [evalPart_none]
 refine wpAny_pure ?_
 have I4 : Inv X pins σ H3 { s3 with heap:=s3.heap.push { cls:=.type "slice",data:=.fields #[vl,vu,.none] } }:=I3.kept (t':=s3.toks) fun b ob q=>Heap.get?_push_of_some _ q
 obtain ⟨T,id,hT,ht,hg⟩:=hr pins { s3 with heap:=s3.heap.push { cls:=.type "slice",data:=.fields #[vl,vu,.none] } } σ H3 x v vl vu l u s3.heap.objs.size Q I4 r1 (Heap.IsSliceOf.new ..) pl pu q3
 show wpAny (model X.prog X.w) X.A (subscriptTail e (.Slice lo hi none p2) v (.ref s3.heap.objs.size)) (EP X pins σ Q) X.xe { s3 with heap:=s3.heap.push { cls:=.type "slice",data:=.fields #[vl,vu,.none] } }
 exact tail_any (ops:=[.ref s3.heap.objs.size,v]) ht hT hg (by with_unfolding_all rfl)
noncomputable def zg6 (xs : List V) (lo hi : Option Int) : List V:=(xs.drop (HT.sIx xs.length 0 lo)).take (HT.sIx xs.length xs.length hi - HT.sIx xs.length 0 lo)
theorem z0h (xs : List V) (lo hi : Option Int) : (zg6 xs lo hi).length <= xs.length:=by
 unfold zg6
 rw [List.length_take,List.length_drop]
 omega
end
noncomputable def ixN (n : Nat) (i : Int) : Option Nat:=if 0 <= i then (if i < n then some i.toNat else none) else if -(n : Int) <= i then some (i + n).toNat else none
noncomputable def atI {α : Type} (xs : List α) (i : Int) : Option α:=(ixN xs.length i).bind fun j=>xs[j]?
theorem zr1 {n : Nat} {i : Int} {j : Nat} (h : ixN n i = some j) : seqIndex? i n = some j /\ j < n /\ -(n : Int) <= i /\ i < n:=by
 unfold ixN at h
 by_cases h0 : 0 <= i
 ·rw [if_pos h0] at h
  by_cases h1 : i < n
  ·rw [if_pos h1] at h
   have e : i.toNat = j:=Option.some.inj h
   exact ⟨by rw [seqIndex_of h0 h1,e],by omega,by omega,h1⟩
  ·rw [if_neg h1] at h; cases h
 ·rw [if_neg h0] at h
  by_cases h1 : -(n : Int) <= i
  ·rw [if_pos h1] at h
   have e : (i + n).toNat = j:=Option.some.inj h
   exact ⟨by rw [seqIndex_neg (by omega) h1,e],by omega,h1,by omega⟩
  ·rw [if_neg h1] at h; cases h
theorem zsf {α : Type} {xs : List α} {i : Int} {v : α} (h : atI xs i = some v) : ∃ j,seqIndex? i xs.length = some j /\ xs[j]? = some v /\ j < xs.length /\ -(xs.length : Int) <= i /\ i < xs.length:=by
 unfold atI at h
 cases e : ixN xs.length i with
 | none=>rw [e] at h; cases h
 | some j =>
  rw [e] at h
  obtain ⟨h1,h2,h3,h4⟩:=zr1 e
  exact ⟨j,h1,h,h2,h3,h4⟩
theorem z6r {α : Type} {xs : List α} {j : Nat} {v : α} (h : xs[j]? = some v) : atI xs (j : Int) = some v:=by
 have hj : j < xs.length:=(List.getElem?_eq_some_iff.mp h).1
 have e : ixN xs.length (j : Int) = some j:=by
  unfold ixN
  rw [if_pos (by omega),if_pos (by omega)]; simp
 unfold atI; rw [e]; exact h
noncomputable def zuo (b : Expr) : Prop:=∀ o i,subscripted b false o i = operate [o,i] (getItem o i)
noncomputable def IxR (X : Cx) (r : R2) : Prop :=
 ∀ (value slice : Expr) (pins : List (Addr × Obj)) (s : Shared) (σ : St) (H : Hp) (x y : V) (v u : Value) (Q : VK),Inv X pins σ H s -> zaw x v -> zaw y u -> r x y H Q ->
  subscripted slice false v u = operate [v,u] (getItem v u) -> wpAny (model X.prog X.w) X.A (subscriptTail value slice v u) (EP X pins σ Q) X.xe s
noncomputable def MtR (X : Cx) (id : String) (r : V -> List V -> Hp -> VK -> Prop) : Prop :=
 ∀ (pins : List (Addr × Obj)) (s : Shared) (σ : St) (H : Hp) (x : V) (xs : List V) (v : Value) (us : List Value) (Q : VK),Inv X pins σ H s -> zaw x v -> zas xs us -> r x xs H Q ->
  wpAny (model X.prog X.w) X.A (call (.builtin id) (v :: us)) (EP X pins σ Q) X.xe s
section
variable {X : Cx} {a b : Expr} {ta tb : TE} {pos : Pos}
theorem IxR.or {r r' : R2} (h : IxR X r) (h' : IxR X r') : IxR X (fun x y H Q=>r x y H Q \/ r' x y H Q):=by
 intro value slice pins s σ H x y v u Q I rx ry q hs
 rcases q with q | q
 ·exact h value slice pins s σ H x y v u Q I rx ry q hs
 ·exact h' value slice pins s σ H x y v u Q I rx ry q hs
theorem MtR.or {id : String} {r r' : V -> List V -> Hp -> VK -> Prop} (h : MtR X id r) (h' : MtR X id r') : MtR X id (fun x xs H Q=>r x xs H Q \/ r' x xs H Q):=by
 intro pins s σ H x xs v us Q I rx rs q
 rcases q with q | q
 ·exact h pins s σ H x xs v us Q I rx rs q
 ·exact h' pins s σ H x xs v us Q I rx rs q
theorem z6u {r : R2} (hr : IxR X r) (ha : PE X a ta) (hb : PE X b tb) (hs : zuo b) : PE X (.Subscript a b pos) (tOp r ta tb):=by
 intro pins s σ H Q I h
 exact Subscript_ (zpg ha hb I h fun v u s2 x y H2 I2 rx ry q=>hr a b pins s2 σ H2 x y v u Q I2 rx ry q (hs _ _))
noncomputable def zyw (K : PySem.W.Frag) : R2:=fun x y H Q=>∃ p xs i v,x = .ref p /\ y = .int i /\ SqL K H p xs /\ atI xs i = some v /\ Q v H
noncomputable def z7v (K : PySem.W.Frag) : R2:=fun x y H Q=>∃ p xs i v,x = .ref p /\ y = .int i /\ SqT K H p xs /\ atI xs i = some v /\ Q v H
theorem z74 : IxR X (zyw X.K):=by
 intro value slice pins s σ H x y v u Q I rx ry h hs
 obtain ⟨p,xs,i,z,rfl,rfl,hq,he,q⟩:=h
 cases rx
 obtain ⟨t,rfl⟩:=ry
 obtain ⟨its,r,pl,hz⟩:=I.list hq
 obtain ⟨j,h1,h2,h3,h4,h5⟩:=zsf he
 obtain ⟨w,ew,rw'⟩:=r.get h2
 have hl:=r.length
 have hn:=zib
 have fin : EP X pins σ Q w s:=⟨z,H,I,rw',q⟩
 by_cases h0 : 0 <= i
 ·have hj : i.toNat = j:=by
   rw [seqIndex_of h0 h5] at h1
   exact Option.some.inj h1
  exact item_listR pl.isList h0 (by omega) (by rw [hj]; simpa using ew) fin hs
 ·have hj : (i + (its.toArray.size : Int)).toNat = j:=by
   rw [seqIndex_neg (by omega) h4] at h1
   rw [List.size_toArray,<- hl]
   exact Option.some.inj h1
  exact subscriptTail_builtinR (x:=w) pl.isList.typeIs slot_list_getitem.lookup
   (wpAny_getItem_list_neg (Q:=fun r s'=>r = w /\ EP X pins σ Q r s') pl.isList (by omega) (by rw [List.size_toArray] <;> omega) (by omega) (by rw [hj]; simpa using ew) ⟨rfl,fin⟩) hs
theorem z41 : IxR X (z7v X.K):=by
 intro value slice pins s σ H x y v u Q I rx ry h hs
 obtain ⟨p,xs,i,z,rfl,rfl,hq,he,q⟩:=h
 cases rx
 obtain ⟨t,rfl⟩:=ry
 obtain ⟨its,r,pl,hz⟩:=I.tuple hq
 obtain ⟨j,h1,h2,h3,h4,h5⟩:=zsf he
 obtain ⟨w,ew,rw'⟩:=r.get h2
 have hl:=r.length
 have hn:=zib
 have fin : EP X pins σ Q w s:=⟨z,H,I,rw',q⟩
 exact subscriptTail_builtinR (x:=w) pl.typeIs slot_tuple_getitem.lookup
  (getItem_tuple (j:=j) (Q:=fun r s'=>r = w /\ EP X pins σ Q r s') pl (by omega) (by omega) (by rw [List.size_toArray,<- hl]; exact h1) (by simpa using ew) ⟨rfl,fin⟩) hs
theorem zzh (its : List Value) (n j : Nat) (u : Value) : Obj.mapSeq (·.setIfInBounds j u) { cls:=.type "list",data:=.seq its.toArray n } = { cls:=.type "list",data:=.seq (its.set j u).toArray n }:=by
 simp [Obj.mapSeq]
theorem Inv.lst {pins : List (Addr × Obj)} {σ : St} {H : Hp} {s : Shared} {p : Addr} {xs : List V} (I : Inv X pins σ H s) (h : H p = some (.lst xs)) :
  ∃ (its : List Value) (n : Nat),zas xs its /\ s.heap.get? p = some { cls:=.type "list",data:=.seq its.toArray n } /\ xs.length <= sizeLine:=by
 obtain ⟨z,its,n,r,e⟩:=I.hok p _ h
 exact ⟨its,n,r,e,z⟩
theorem Inv.lstUpd {pins : List (Addr × Obj)} {σ : St} {H : Hp} {s : Shared} {p : Addr} {xs ys : List V} {its its' : List Value} {n n' : Nat} {f : Obj -> Obj} (I : Inv X pins σ H s) (h : H p = some (.lst xs))
  (ho : s.heap.get? p = some { cls:=.type "list",data:=.seq its.toArray n }) (hf : f { cls:=.type "list",data:=.seq its.toArray n } = { cls:=.type "list",data:=.seq its'.toArray n' }) (r : zas ys its') (hz : ys.length <= sizeLine) (t : Nat) :
  Inv X pins σ (upd H p (.lst ys)) { s with heap:=s.heap.update p f,toks:=t }:=by
 have e : (s.heap.update p f).get? p = some { cls:=.type "list",data:=.seq its'.toArray n' }:=by
  rw [Heap.get?_update_self f ho (by rw [hf] <;> rfl),hf]
 refine I.write (x:=p) (e:=p) (by rw [h]; trivial) (.inl rfl) (fun b u hb q=>(Heap.get?_update_other _ _ (Ne.symm hb)).trans q) ⟨_,e⟩ ?_
 exact ⟨hz,its',n',r,e⟩
noncomputable def zq5 : V -> V -> V -> Hp -> (Hp -> Prop) -> Prop:=fun o i v H Q=>∃ p xs k j,o = .ref p /\ i = .int k /\ H p = some (.lst xs) /\ ixN xs.length k = some j /\ Q (upd H p (.lst (xs.set j v)))
theorem zxb : zu4 X zq5:=by
 intro pins s σ H o i v ov iv u Q I ro ri rv h
 obtain ⟨p,xs,k,j,rfl,rfl,hp,hj,q⟩:=h
 cases ro
 obtain ⟨t,rfl⟩:=ri
 obtain ⟨its,n,r,ho,hz⟩:=I.lst hp
 obtain ⟨h1,h2,h3,h4⟩:=zr1 hj
 have hl:=r.length
 have hn:=zib
 have I' : Inv X pins σ (upd H p (.lst (xs.set j v))) { s with heap:=s.heap.update p (Obj.mapSeq (·.setIfInBounds j u)) } :=
  I.lstUpd hp ho (zzh its n j u) (r.set rv j) (by rw [List.length_set]; exact hz) s.toks
 by_cases h0 : 0 <= k
 ·have hk : k.toNat = j:=by
   rw [seqIndex_of h0 h4] at h1
   exact Option.some.inj h1
  exact PySem.W.ki_setAt ho h0 (by omega) (by rw [List.size_toArray,<- hl]; exact h4) (by rw [hk]; exact ⟨_,I',q⟩)
 ·have hk : (k + (its.toArray.size : Int)).toNat = j:=by
   rw [seqIndex_neg (by omega) h3] at h1
   rw [List.size_toArray,<- hl]
   exact Option.some.inj h1
  exact PySem.W.ki_setBack ho (by omega) (by rw [List.size_toArray,<- hl]; exact h3) (by omega) (by rw [hk]; exact ⟨_,I',q⟩)
theorem z75 (lo hi : Option Int) (n : Nat) : (sliceBounds lo hi none n).1 = ((HT.sIx n 0 lo : Nat) : Int) /\ (sliceBounds lo hi none n).2.1 = ((HT.sIx n n hi : Nat) : Int) /\ (sliceBounds lo hi none n).2.2 = 1:=by
 refine ⟨?_,?_,rfl⟩
 ·cases lo with
  | none=>simp [sliceBounds,HT.sIx]
  | some i =>
   simp only [sliceBounds,HT.sIx,Option.getD_none,show (1 : Int) > 0 by decide,if_true]
   by_cases h : i < 0
   ·simp only [h,if_true] <;> omega
   ·simp only [h,if_false] <;> omega
 ·cases hi with
  | none=>simp [sliceBounds,HT.sIx]
  | some i =>
   simp only [sliceBounds,HT.sIx,Option.getD_none,show (1 : Int) > 0 by decide,if_true]
   by_cases h : i < 0
   ·simp only [h,if_true] <;> omega
   ·simp only [h,if_false] <;> omega
theorem z1q (its : List Value) (lo hi : Option Int) : slicePick its.toArray lo hi none = ((its.drop (HT.sIx its.length 0 lo)).take (HT.sIx its.length its.length hi - HT.sIx its.length 0 lo)).toArray:=by
 obtain ⟨h1,h2,h3⟩:=z75 lo hi its.toArray.size
 unfold slicePick
 rw [h1,h2,h3]
 simp only [sliceRange_one,pick_run,List.size_toArray] <;> rfl
noncomputable def z7m (K : PySem.W.Frag) : V -> Option Int -> Option Int -> Hp -> VK -> Prop:=fun x lo hi H Q=>∃ a xs,x = .ref a /\ SqL K H a xs /\ ∀ p,H p = none -> Q (.ref p) (upd H p (.lst (zg6 xs lo hi)))
theorem z3f : SlR X (z7m X.K):=by
 intro pins s σ H x v vl vu lo hi sl Q I rx hs pl pu h
 obtain ⟨a,xs,rfl,hx,q⟩:=h
 cases rx
 obtain ⟨its,r,ht,hz⟩:=I.list hx
 have hlen:=r.length
 refine ⟨"list",_,slot_list_getitem.lookup,ht.isList.typeIs,?_⟩
 refine wpAny_getItem_list_slice ht.isList hs pl pu .none (by simp) ?_ (by rw [List.size_toArray] <;> omega)
 rw [z1q,<- hlen]
 refine ⟨.ref s.heap.objs.size,_,I.laid (t':=s.toks) (o:=.lst (zg6 xs lo hi)) (fun b ob q=>Heap.get?_push_of_some _ q) (Nat.le_refl _) ?_,rfl,q _ (I.hok.fresh (Nat.le_refl _))⟩
 exact ⟨Nat.le_trans (z0h xs lo hi) hz,_,0,(r.drop (HT.sIx xs.length 0 lo)).take (HT.sIx xs.length xs.length hi - HT.sIx xs.length 0 lo),Heap.get?_push_size _ rfl⟩
noncomputable def zdv : V -> Bool
 | .non=>true
 | .bl _=>true
 | .int _=>true
 | .str _=>true
 | _=>false
noncomputable def eqV : V -> V -> Bool
 | .non,.non=>true
 | .bl a,.bl b=>a == b
 | .bl a,.int b=>(if a then 1 else 0) == b
 | .int a,.bl b=>a == (if b then 1 else 0)
 | .int a,.int b=>a == b
 | .str a,.str b=>a == b
 | _,_=>false
theorem ztk {A : Around} {s : Shared} {y x : V} {u v : Value} (ry : zaw y u) (rx : zaw x v) (fy : zdv y = true) (fx : zdv x = true) : SeqAt.EqAt A s u v (eqV y x):=by
 cases y with
 | non =>
  cases ry
  cases x with
  | non=>cases rx; exact SeqAt.EqAt.same _
  | bl b=>cases rx; exact SeqAt.EqAt.none_bool b
  | int b=>obtain ⟨t,rfl⟩:=rx; exact SeqAt.EqAt.none_int b t
  | str b=>obtain ⟨t,rfl⟩:=rx; exact SeqAt.EqAt.none_str b t
  | _=>exact absurd (show false = true from fx) Bool.false_ne_true
 | bl a =>
  cases ry
  cases x with
  | non=>cases rx; exact SeqAt.EqAt.bool_none a
  | bl b=>cases rx; exact SeqAt.EqAt.bool_bool a b
  | int b=>obtain ⟨t,rfl⟩:=rx; exact SeqAt.EqAt.bool_int a b t
  | str b=>obtain ⟨t,rfl⟩:=rx; exact SeqAt.EqAt.bool_str a b t
  | _=>exact absurd (show false = true from fx) Bool.false_ne_true
 | int a =>
  obtain ⟨t',rfl⟩:=ry
  cases x with
  | non=>cases rx; exact SeqAt.EqAt.int_none a t'
  | bl b=>cases rx; exact SeqAt.EqAt.int_bool a t' b
  | int b=>obtain ⟨t,rfl⟩:=rx; exact SeqAt.EqAt.int_int a t' b t
  | str b=>obtain ⟨t,rfl⟩:=rx; exact SeqAt.EqAt.int_str a t' b t
  | _=>exact absurd (show false = true from fx) Bool.false_ne_true
 | str a =>
  obtain ⟨t',rfl⟩:=ry
  cases x with
  | non=>cases rx; exact SeqAt.EqAt.str_none a t'
  | bl b=>cases rx; exact SeqAt.EqAt.str_bool a t' b
  | int b=>obtain ⟨t,rfl⟩:=rx; exact SeqAt.EqAt.str_int a t' b t
  | str b=>obtain ⟨t,rfl⟩:=rx; exact SeqAt.EqAt.str_str a t' b t
  | _=>exact absurd (show false = true from fx) Bool.false_ne_true
 | _=>exact absurd (show false = true from fy) Bool.false_ne_true
noncomputable def eqU (x : V) (u : Value) : Bool:=match u with
 | .none=>eqV .non x
 | .bool b=>eqV (.bl b) x
 | .int i _=>eqV (.int i) x
 | .str z _=>eqV (.str z) x
 | _=>false
theorem ztm {x y : V} {u : Value} (r : zaw y u) (f : zdv y = true) : eqU x u = eqV y x:=by
 cases y with
 | non=>cases r; rfl
 | bl b=>cases r; rfl
 | int i=>obtain ⟨t,rfl⟩:=r; rfl
 | str z=>obtain ⟨t,rfl⟩:=r; rfl
 | _=>exact absurd (show false = true from f) Bool.false_ne_true
theorem zn2 {x : V} : ∀ {xs : List V} {us : List Value},zas xs us -> xs.all zdv = true -> us.any (eqU x) = xs.any fun y=>eqV y x
 | _,_,.nil,_=>rfl
 | y :: xs,u :: us,.cons r t,f=>by
  rw [List.all_cons,Bool.and_eq_true] at f
  rw [List.any_cons,List.any_cons,ztm r f.1,zn2 t f.2]
theorem zpe {A : Around} {s : Shared} {x : V} {v : Value} (rx : zaw x v) (fx : zdv x = true) : ∀ {xs : List V} {us : List Value},zas xs us -> xs.all zdv = true -> ∀ u ∈ us,SeqAt.EqAt A s u v (eqU x u)
 | _,_,.nil,_=>fun u hu=>by cases hu
 | y :: xs,u :: us,.cons r t,f=>fun u' hu=>by
  rw [List.all_cons,Bool.and_eq_true] at f
  rcases List.mem_cons.mp hu with rfl | hu
  ·rw [ztm r f.1]; exact ztk r rx f.1 fx
  ·exact zpe rx fx t f.2 u' hu
noncomputable def inV (x : V) (xs : List V) : Bool:=xs.any fun y=>eqV y x
noncomputable def rIn (K : PySem.W.Frag) (neg : Bool) : R2:=fun x y H Q=>∃ p xs,y = .ref p /\ (SqL K H p xs \/ SqT K H p xs) /\ zdv x = true /\ xs.all zdv = true /\ Q (.bl (if neg then !inV x xs else inV x xs)) H
theorem z13 : OpR X (compareOp .In) (rIn X.K false):=by
 intro pins s σ H x y v u Q I rx ry h
 obtain ⟨p,xs,rfl,hq,fx,fs,q⟩:=h
 cases ry
 rcases hq with hq | hq
 ·obtain ⟨its,r,pl,hz⟩:=I.list hq
  refine SeqAt.in_listAt (eqU x) pl.isList (fun w hw=>zpe rx fx r fs w (by simpa using hw)) ⟨.bl _,H,I,rfl,?_⟩
  rw [show its.toArray.any (eqU x) = its.any (eqU x) by simp,zn2 r fs]
  exact q
 ·obtain ⟨its,r,pl,hz⟩:=I.tuple hq
  refine SeqAt.in_tupleAt (eqU x) pl (fun w hw=>zpe rx fx r fs w (by simpa using hw)) ⟨.bl _,H,I,rfl,?_⟩
  rw [show its.toArray.any (eqU x) = its.any (eqU x) by simp,zn2 r fs]
  exact q
theorem zxn : zdp X (.builtin "len") (fun xs H Q=>∃ p ys,xs = [.ref p] /\ (SqL X.K H p ys \/ SqT X.K H p ys) /\ Q (.int ys.length) H):=by
 intro pins s σ H xs us Q I r h
 obtain ⟨p,ys,rfl,hq,q⟩:=h
 obtain ⟨u,rfl,rx⟩:=zh2 r
 cases rx
 have hn:=zib
 rcases hq with hq | hq
 ·obtain ⟨its,r',pl,hz⟩:=I.list hq
  have hlen:=r'.length
  exact Calls.call_len_list pl.isList (by simp only [List.size_toArray] <;> omega) ⟨.int ys.length,H,I.tok _,⟨s.toks + 1,by rw [List.size_toArray,hlen]⟩,q⟩
 ·obtain ⟨its,r',pl,hz⟩:=I.tuple hq
  have hlen:=r'.length
  exact len_tuple pl (by simp only [List.size_toArray] <;> omega) ⟨.int ys.length,H,I.tok _,⟨s.toks + 1,by rw [List.size_toArray,hlen]⟩,q⟩
theorem z12 : zdp X (.builtin "len") (fun xs H Q=>∃ z,xs = [.str z] /\ z.length <= sizeLine /\ Q (.int z.length) H):=by
 intro pins s σ H xs us Q I r h
 obtain ⟨z,rfl,hz,q⟩:=h
 obtain ⟨u,rfl,t,rfl⟩:=zh2 r
 have hn:=zib
 exact len_str (by omega) ⟨.int z.length,H,I.tok _,⟨_,rfl⟩,q⟩
theorem zdp.or {f : Value} {r r' : List V -> Hp -> VK -> Prop} (h : zdp X f r) (h' : zdp X f r') : zdp X f (fun xs H Q=>r xs H Q \/ r' xs H Q):=by
 intro pins s σ H xs us Q I rs q
 rcases q with q | q
 ·exact h pins s σ H xs us Q I rs q
 ·exact h' pins s σ H xs us Q I rs q
theorem zv1 : zdp X (.type "list") (fun xs H Q=>∃ p ys,xs = [.ref p] /\ (SqL X.K H p ys \/ SqT X.K H p ys) /\ ∀ l,H l = none -> Q (.ref l) (upd H l (.lst ys))):=by
 intro pins s σ H xs us Q I r h
 obtain ⟨p,ys,rfl,hq,q⟩:=h
 obtain ⟨u,rfl,rx⟩:=zh2 r
 cases rx
 have fin : ∀ (its : List Value),zas ys its -> ys.length <= sizeLine -> ∀ (h' : Heap) (c' : Nat),(∀ b o',s.heap.get? b = some o' -> h'.get? b = some o') ->
   h'.get? s.heap.objs.size = some { cls:=.type "list",dict:=none,data:=.seq its.toArray c',slots:=#[] } -> EP X pins σ Q (.ref s.heap.objs.size) { s with heap:=h' }:=fun its r' hz h' c' kp e =>
  ⟨.ref s.heap.objs.size,_,I.laid (t':=s.toks) kp (Nat.le_refl _) (show zcl X.prog X.w _ h' _ (.lst ys) from ⟨hz,its,c',r',e⟩),rfl,q _ (I.hok.fresh (Nat.le_refl _))⟩
 rcases hq with hq | hq
 ·obtain ⟨its,r',pl,hz⟩:=I.list hq
  have hlen:=r'.length
  obtain ⟨o,ho,hc,n,hd⟩:=pl.isList
  exact call_list_seq p (.inl rfl) ho hc hd (fun h' c' kp e=>fin its r' hz h' c' kp e) (by simp only [List.size_toArray] <;> omega)
 ·obtain ⟨its,r',pl,hz⟩:=I.tuple hq
  have hlen:=r'.length
  obtain ⟨o,ho,hc,n,hd⟩:=pl
  exact call_list_seq p (.inr rfl) ho hc hd (fun h' c' kp e=>fin its r' hz h' c' kp e) (by simp only [List.size_toArray] <;> omega)
noncomputable def tyV (K : PySem.W.Frag) (T : String) (x : V) (H : Hp) : Prop:=match x with
 | .str _=>T = "str"
 | .int _=>T = "int"
 | .ref p=>(T = "list" /\ ∃ xs,SqL K H p xs) \/ (T = "tuple" /\ ∃ o,K.lookup p = some o /\ o.cls = .type "tuple" /\ o.dict = none) \/
   (T = "dict" /\ ((∃ kvs,H p = some (.dK kvs)) \/ ∃ kvs,H p = some (.dT kvs))) \/ (T = "set" /\ ∃ S n,H p = some (.set S n))
 | _=>False
theorem z3t {pins : List (Addr × Obj)} {σ : St} {H : Hp} {s : Shared} {T : String} {x : V} {v : Value} (I : Inv X pins σ H s) (r : zaw x v) (ty : tyV X.K T x H) :
  s.TypeIs v T /\ ∀ a,v = .ref a -> ∃ ob,s.heap.get? a = some ob /\ ob.dict = none:=by
 cases x with
 | str z =>
  obtain ⟨t,rfl⟩:=r
  cases (show T = "str" from ty)
  exact ⟨typeIs_str s z t,fun _ e=>nomatch e⟩
 | int i =>
  obtain ⟨t,rfl⟩:=r
  cases (show T = "int" from ty)
  exact ⟨typeIs_int s i t,fun _ e=>nomatch e⟩
 | ref p =>
  cases r
  rcases ty with ⟨rfl,xs,hq⟩ | ⟨rfl,o,hk,hc,hd⟩ | ⟨rfl,hk⟩ | ⟨rfl,S,n,hk⟩
  ·obtain ⟨its,_,pl,_⟩:=I.list hq
   refine ⟨pl.isList.typeIs,fun a e=>?_⟩
   cases e
   obtain ⟨o,n,e,c,hd,_⟩:=pl
   exact ⟨o,e,hd⟩
  ·refine ⟨⟨o,I.kIn p o hk,hc⟩,fun a e=>?_⟩
   cases e
   exact ⟨o,I.kIn _ o hk,hd⟩
  ·have z : ∃ o,s.heap.get? p = some o /\ o.ExactDict:=by
    rcases hk with ⟨kvs,hk⟩ | ⟨kvs,hk⟩
    ·obtain ⟨_,_,_,_,o,_,_,e,ex,_⟩:=I.hok p _ hk
     exact ⟨o,e,ex⟩
    ·obtain ⟨_,_,_,_,o,_,_,e,ex,_⟩:=I.hok p _ hk
     exact ⟨o,e,ex⟩
   obtain ⟨o,e,ex⟩:=z
   refine ⟨⟨o,e,ex.1⟩,fun a e2=>?_⟩
   cases e2
   exact ⟨o,e,ex.2.1⟩
  ·obtain ⟨o,_,_,_,e,ex,_⟩:=I.hok p _ hk
   refine ⟨⟨o,e,ex.1⟩,fun a e2=>?_⟩
   cases e2
   exact ⟨o,e,ex.2.1⟩
 | _=>exact False.elim ty
noncomputable def tBM (K : PySem.W.Frag) (T : String) (r : V -> List V -> Hp -> VK -> Prop) (to : TE) (t : TA) : TE:=fun σ H Q=>to σ H fun x H1=>tyV K T x H1 /\ t σ H1 fun xs H2=>r x xs H2 Q
variable {o e : Expr} {es : List Expr} {to : TE} {t : TA} {name : Str} {apos cpos : Pos} {T id : String} {r : V -> List V -> Hp -> VK -> Prop}
theorem ze5 (pa : PlainAttrs T) (slot : Slot T name id) (hty : typeOf (.builtin id) = pure (.type "method_descriptor")) (hm : MtR X id r) (ho : PE X o to) (ha : PA X (e :: es) t)
  (hbase : attributeBase o name X.env (eval o X.env) = eval o X.env:=by rfl)
  (hfew : ((backTo cpos (starEach (e :: es) X.env)).all (fun x=>!x.1) && (backToKw cpos (keywordEach [] X.env)).all (fun x=>x.1.isSome)
   && decide ((e :: es).length + ([] : List Keyword).length + (if ([] : List Keyword).isEmpty then 0 else 1) < 30)) = true:=by rfl)
  (hline : (apos.endLine == cpos.line) = true:=by rfl) (hs : starEach (e :: es) X.env = (false,eval e X.env) :: starEach es X.env:=by rfl) (hplain : (backTo cpos (starEach es X.env)).any (·.1) = false:=by rfl) :
  PE X (.Call (.Attribute o name apos) (e :: es) [] cpos) (tBM X.K T r to t):=by
 intro pins s σ H Q I h
 refine wpAny_Call_method_late hbase hfew hline rfl (thn (ho pins s σ H _ I h) fun v s1 ⟨x,H1,I1,r1,ty,q1⟩=>?_)
 obtain ⟨h1,h2⟩:=z3t I1 r1 ty
 refine ⟨T,id,pa,slot,hty,h1,h2,?_⟩
 have hA:=ha cpos pins s1 σ H1 _ I1 q1
 rw [hs] at hA ⊢
 refine Calls.callWith_builtin (by show (false || (backTo cpos (starEach es X.env)).any (·.1)) = false; rw [hplain] <;> rfl) (Calls.evalArgs_plain ?_)
 exact thn hA fun us s2 ⟨vs,H2,I2,r2,q2⟩=>hm pins s2 σ H2 x vs v us Q I2 r1 r2 q2
end
noncomputable def MtM (X : Cx) (id : String) (r : V -> List V -> Hp -> VK -> Prop) : Prop :=
 ∀ (pins : List (Addr × Obj)) (s : Shared) (σ : St) (H : Hp) (x : V) (xs : List V) (v : Value) (us : List Value) (Q : VK),Inv X pins σ H s -> zaw x v -> zas xs us -> r x xs H Q ->
  wpAny (model X.prog X.w) X.A (call (.builtin id) (v :: us)) (EP X pins σ Q) X.xe s
theorem zas.one : ∀ {x : V} {us : List Value},zas [x] us -> ∃ u,us = [u] /\ zaw x u
 | _,_,.cons r .nil=>⟨_,rfl,r⟩
theorem zas.two : ∀ {x y : V} {us : List Value},zas [x,y] us -> ∃ u v,us = [u,v] /\ zaw x u /\ zaw y v
 | _,_,_,.cons r (.cons q .nil)=>⟨_,_,rfl,r,q⟩
theorem zas.zero : ∀ {us : List Value},zas [] us -> us = []
 | _,.nil=>rfl
theorem zas.dropLast {xs : List V} {us : List Value} (h : zas xs us) : zas xs.dropLast us.dropLast:=by
 induction h with
 | nil=>exact .nil
 | cons r t ih =>
  cases t with
  | nil=>exact .nil
  | cons q t'=>exact .cons r ih
theorem zas.rep {xs : List V} {us : List Value} (h : zas xs us) : ∀ k : Nat,zas (List.replicate k xs).flatten (List.replicate k us).flatten
 | 0=>.nil
 | k + 1=>by
  rw [List.replicate_succ,List.replicate_succ,List.flatten_cons,List.flatten_cons]
  exact zas.append h (zas.rep h k)
section
variable {X : Cx} {pins : List (Addr × Obj)} {σ : St} {H : Hp} {s : Shared} {l b : Addr} {xs ys zs : List V}
theorem Inv.lset {its its' : List Value} {n : Nat} {f : Array Value -> Array Value} {t' : Nat} (I : Inv X pins σ H s) (hH : H l = some (.lst xs))
  (e : s.heap.get? l = some { cls:=.type "list",data:=.seq its.toArray n }) (hf : f its.toArray = its'.toArray) (hv : zas ys its') (hz : ys.length <= sizeLine) :
  Inv X pins σ (upd H l (.lst ys)) { s with heap:=s.heap.update l (Obj.mapSeq f),toks:=t' }:=by
 have q:=PySem.IsL.update e f
 rw [hf] at q
 refine I.write (x:=l) (e:=l) (by rw [hH]; exact trivial) (.inl rfl) (fun b' u hb hu=>(Heap.get?_update_other s.heap (Obj.mapSeq f) (Ne.symm hb)).trans hu) ⟨_,q⟩ ?_
 exact ⟨hz,its',_,hv,q⟩
theorem Inv.lnew {its : List Value} {t' : Nat} (I : Inv X pins σ H s) (hv : zas ys its) (hz : ys.length <= sizeLine) :
  Inv X pins σ (upd H s.heap.objs.size (.lst ys)) { s with heap:=s.heap.push { cls:=.type "list",data:=.seq its.toArray },toks:=t' } :=
 I.laid (fun _ _ q=>Heap.get?_push_of_some _ q) (Nat.le_refl _) ⟨hz,its,0,hv,Heap.get?_push_size _ rfl⟩
theorem Inv.fresh (I : Inv X pins σ H s) : H s.heap.objs.size = none:=I.hok.fresh (Nat.le_refl _)
theorem Inv.lstM (I : Inv X pins σ H s) (hH : H l = some (.lst xs)) : xs.length <= sizeLine /\ ∃ (its : List Value) (n : Nat),zas xs its /\ xs.length = its.length /\ s.heap.get? l = some { cls:=.type "list",data:=.seq its.toArray n }:=by
 obtain ⟨z,its,n,r,e⟩:=I.hok l _ hH
 exact ⟨z,its,n,r,r.length,e⟩
theorem z3a {n : Nat} (h : n <= sizeLine) : Builtin.List.listTooLong n = false:=by
 unfold Builtin.List.listTooLong
 exact decide_eq_false (by omega)
end
section
variable {X : Cx}
noncomputable def zta : V -> List V -> Hp -> VK -> Prop:=fun x vs H Q=>∃ l xs y,x = .ref l /\ vs = [y] /\ H l = some (.lst xs) /\ xs.length < sizeLine /\ Q .non (upd H l (.lst (xs ++ [y])))
theorem zf0 : MtM X "list.append" zta:=by
 intro pins s σ H x vs v us Q I rx rv h
 obtain ⟨l,xs,y,rfl,rfl,hH,hz,q⟩:=h
 cases rx
 obtain ⟨u,rfl,ru⟩:=rv.one
 obtain ⟨z,its,n,r,hl,e⟩:=I.lstM hH
 refine call_meets F.slot_list_append ⟨_,e,rfl⟩ F.entry_list_append (F.args_list_append_2 _ _) (PySem.list_append l its.toArray n u (by rw [List.size_toArray]; omega)) ⟨e,?_⟩
 refine ⟨.non,_,I.lset (its':=its ++ [u]) hH e (by simp) (r.append (.cons ru .nil)) ?_,rfl,q⟩
 rw [List.length_append,List.length_singleton]
 omega
noncomputable def zst : V -> List V -> Hp -> VK -> Prop:=fun x vs H Q=>∃ l b xs zs,x = .ref l /\ vs = [.ref b] /\ H l = some (.lst xs) /\ H b = some (.lst zs) /\ xs.length + zs.length <= sizeLine /\ Q .non (upd H l (.lst (xs ++ zs)))
theorem zwd : MtM X "list.extend" zst:=by
 intro pins s σ H x vs v us Q I rx rv h
 obtain ⟨l,b,xs,zs,rfl,rfl,hH,hB,hz,q⟩:=h
 cases rx
 obtain ⟨u,rfl,ru⟩:=rv.one
 cases ru
 obtain ⟨z,its,n,r,hl,e⟩:=I.lstM hH
 obtain ⟨z2,its2,n2,r2,hl2,e2⟩:=I.lstM hB
 have hsz : its.toArray.size + its2.toArray.size <= sizeLine:=by rw [List.size_toArray,List.size_toArray]; omega
 have hlong : ¬ (!its.toArray.isEmpty && Builtin.List.listTooLong (its.toArray.size + its2.toArray.size)) = true:=by
  rw [z3a hsz,Bool.and_false]
  exact Bool.false_ne_true
 refine call_meets F.slot_list_extend ⟨_,e,rfl⟩ F.entry_list_extend (F.args_list_extend_2 _ _)
  (AutoSeq1.list_extend_list_list_0 l its.toArray n b its2.toArray n2 hlong (by rw [List.size_toArray]; omega) (by omega)) ⟨e,e2,?_⟩
 refine ⟨.non,_,I.lset (its':=its ++ its2) hH e (by simp) (r.append r2) ?_,rfl,q⟩
 rw [List.length_append]
 omega
noncomputable def z09 : R2:=fun x y H Q=>∃ l b xs zs,x = .ref l /\ y = .ref b /\ H l = some (.lst xs) /\ H b = some (.lst zs) /\ xs.length + zs.length <= sizeLine /\ ∀ p,H p = none -> Q (.ref p) (upd H p (.lst (xs ++ zs)))
theorem zqx : OpR X (binaryOp .Add) z09:=by
 intro pins s σ H x y v u Q I rx ry h
 obtain ⟨l,b,xs,zs,rfl,rfl,hH,hB,hz,q⟩:=h
 cases rx
 cases ry
 obtain ⟨z,its,n,r,hl,e⟩:=I.lstM hH
 obtain ⟨z2,its2,n2,r2,hl2,e2⟩:=I.lstM hB
 refine PySem.P.add_list e e2 ?_ (by rw [List.size_toArray,List.size_toArray]; omega)
 have ea : its.toArray ++ its2.toArray = (its ++ its2).toArray:=by simp
 rw [ea]
 exact ⟨.ref _,_,I.lnew (t':=s.toks) (r.append r2) (by rw [List.length_append]; omega),rfl,q _ I.fresh⟩
end
section
variable {prog : Program} {w : World} {A : Around} {E : Value -> Shared -> Prop} {s : Shared}
set_option maxRecDepth 100000 in
end
section
variable {X : Cx}
end
end L2
namespace Att
open PySem PySem.W PySem.Calls PyProof.Rows
theorem zze {P : Params} {h : Heap} : ∀ (ns : List Int) (vs : List Value),WellAll P h vs (ns.map WData.int) -> IntsAre vs ns:=by
 intro ns
 induction ns with
 | nil =>
  intro vs w
  rw [List.map_nil] at w
  cases w
  exact .nil
 | cons n ns ih =>
  intro vs w
  rw [List.map_cons] at w
  cases w with
  | cons a b =>
   cases a
   exact .cons _ _ (ih _ b)
theorem zx4 {l : OpenLaw} {n : Nat} (hn : l.most = some n) {P : Params} {h : Heap} {args : List WData} {vals : List Value}
  (hpre : l.row.toRowW.claim.pre args = true) (hwl : WellAll P h vals args) :
  ∃ a vs ns,vals = [Value.ref a] /\ args = [WData.list (ns.map WData.int)] /\ h.get? a = some { cls:=.type "list",data:=.seq vs.toArray } /\ IntsAre vs ns /\ ns.length <= n:=by
 have hsh : WShape.hasAll [] args [.list .int] = true:=(pre_splitW hpre).1
 have hc : l.pre.holds [] { args:=args } = true:=(pre_splitW hpre).2
 obtain ⟨d,r,rfl,h1,h2⟩:=hasAllW_cons hsh
 obtain rfl:=hasAllW_nil h2
 obtain ⟨xs,rfl,h3⟩:=hasW_list h1
 obtain ⟨ns,rfl⟩:=items_int h3
 have hlen : ns.length <= n:=by
  unfold OpenLaw.pre at hc
  have h4 : (WTm.not (.lt (.lit (.int (n : Int))) (.len (.arg 0)))).holds [] { args:=[.list (ns.map .int)] } = true:=by
   have h4:=(holds_andW hc).1
   rw [hn] at h4
   exact h4
  have h5:=condW_of h4 (w_not (w_lt w_lit (w_len_list (w_arg rfl))))
  rw [List.length_map] at h5
  refine Nat.le_of_not_lt fun q=>?_
  have q' : (n : Int) < ((ns.length : Nat) : Int):=by omega
  first
   | (rw [decide_eq_true q'] at h5; exact absurd h5 (by decide))
   | (simp at h5; omega)
 cases hwl with
 | cons w1 w2 =>
  cases w2
  cases w1 with
  | list ho hall=>exact ⟨_,_,ns,rfl,rfl,ho,zze ns _ hall,hlen⟩
theorem z00 (l : OpenLaw) (args : List WData) : l.row.toRowW.claim.post args (.bool true) args = true :=
 postW_of (r:=l.row.toRowW) (X:=(true == true))
  (show WShape.has [] (.bool true) .bool = true by first | rfl | decide | simp [WShape.has,WShape.arms,WShape.armsAll])
  (show (WTm.eq .res (.lit (.bool true))).value [] { args:=args,res:=some (.bool true),after:=args } = some (.bool (true == true)) from w_eq_bool (w_res rfl) w_lit) rfl
theorem attach_call {l : OpenLaw} {n : Nat} {q : Program} {loose : List Str} {XP : (Str -> Option Value) -> Heap -> Prop} {YP : World -> Heap -> Prop} {d : DefRec}
  (hn : l.most = some n) (hdf : d.params.defaults = [])
  (call : ∀ (w : World) (s₀ s₁ : Shared) (mg mb : Str -> Option Value) (fa : Addr) (o : Obj) (pm cd doc : Value) (a : Addr) (vs : List Value) (ns : List Int),
   Ground q loose [] XP w s₀ mg mb s₁.heap -> YP w s₁.heap ->
   s₁.heap.get? fa = some o -> o.data = .func (docDef d.name d.params d.body d.scope pm cd doc) -> s₁.heap.CodeRec cd d.name -> mg d.name = some (.ref fa) ->
   s₁.heap.get? a = some { cls:=.type "list",data:=.seq vs.toArray } -> IntsAre vs ns -> ns.length <= n -> s₁.gens = #[] ->
   codeAny (model l.prog w) callerA (.call (.ref fa) ⟨[.ref a],[]⟩) (fun r s'=>r = .ok (.ret (.bool true)) /\ OldK s₁.heap s'.heap /\ s'.os = s₁.os /\ AllBare s'.gens) s₁) :
  WalkO q loose XP YP l.row.toRowW d [] (fun f vs=>PySem.call f vs):=by
 intro w s₀ s₁ mg mb G Y fa o pm cd doc dV kV ho hd hcd hD hmg hg args vals as hpre hlay hrd hwl hlo
 obtain rfl : dV = .none:=Dflts.none hD hdf
 obtain rfl : kV = .none:=Dflts.noKw hD
 obtain ⟨a,vs,ns,rfl,rfl,hobj,hints,hlen⟩:=zx4 hn hpre hwl
 refine enter_call (codeAny_mono (call w s₀ s₁ mg mb fa o pm cd doc a vs ns G Y ho (fd_plain hd) hcd hmg hobj hints hlen hg) fun r s' hq=>?_)
 obtain ⟨rfl,h2,h3,h4⟩:=hq
 exact ⟨.inl ⟨.bool true,.bool true,[],rfl,fun _=>rfl,.bool true,z00 l _,fun _=>⟨List.Pairwise.nil,fun _ hm=>(nomatch hm)⟩⟩,h2,h3,h4⟩
section
variable {prog : Program} {w : World} {A : Around} {E : Value -> Shared -> Prop} {s : Shared} {K : Frag}
end
end Att
namespace L2
open PySem PySem.Spec PyProof.Rows
theorem zs1 : ∀ {vs : List Value} {ns : List Int},IntsAre vs ns -> zas (ns.map V.int) vs
 | _,_,.nil=>.nil
 | _,_,.cons n t h=>.cons ⟨t,rfl⟩ (zs1 h)
noncomputable def zlx (H : Hp) : Prop:=∀ b,H b = none \/ ∃ o xs,H b = some (.frz o (.lst xs))
theorem z55 {P : Program} {w : World} {K : PySem.W.Frag} {mg mb : Str -> Option Value} {CX : CXT} {k : Nat} {fa a : Addr} {fd : FuncData} {x : Str} {sp : Sp} {s₁ : Shared} {vs : List Value} {ns : List Int}
  (KX : K.In s₁.heap) (hns : s₁.heap.Ns mainGlobals mg) (hb : s₁.heap.Ns builtinsNs mb) (hbb : ∀ x : Str,x ≠ "__name__" -> mb x = bootBuiltins x) (hlim : s₁.heap.NoLimit) (hg : s₁.gens = #[])
  (ha : s₁.heap.get? a = some { cls:=.type "list",data:=.seq vs.toArray }) (hi : IntsAre vs ns) (hl : ns.length <= sizeLine) (hr : zb2 k callerA)
  (F : ∀ base : Heap,K.In base -> base.Ns mainGlobals mg -> zax P w K mg base CX k fa fd [x] sp) (hbind : ∀ (s : Shared) (u : Value),BindsTo s fd ⟨[u],[]⟩ [(x,u)])
  (hsp : ∀ H : Hp,zlx H -> SqL K H a (ns.map V.int) -> sp [.ref a] H (fun v _=>v = .bl true) fun _ _ _=>False)
  (hCX : ∀ H e s',CX [] H s₁ (fun _ _ _=>False) e s' -> False) :
  codeAny (model P w) callerA (.call (.ref fa) ⟨[.ref a],[]⟩) (fun r s'=>r = .ok (.ret (.bool true)) /\ OldK s₁.heap s'.heap /\ s'.os = s₁.os /\ AllBare s'.gens) s₁:=by
 have rv:=zs1 hi
 have lenV:=hi.length
 have core : ∀ H : Hp,zlx H -> SqL K H a (ns.map V.int) -> HOk P w H s₁.heap -> (∀ b,H b ≠ none -> b = a) -> (H a ≠ none -> K.lookup a = none) ->
   codeAny (model P w) callerA (.call (.ref fa) ⟨[.ref a],[]⟩) (fun r s'=>r = .ok (.ret (.bool true)) /\ OldK s₁.heap s'.heap /\ s'.os = s₁.os /\ AllBare s'.gens) s₁:=by
  intro H hO hS hok hA hK
  have base_of : ∀ {b : Addr} {o : Obj},s₁.heap.get? b = some o -> H b = none -> (zgc s₁.heap H).get? b = some o:=fun e n=>zxh e n
  have noA : ∀ {b : Addr} {o : Obj} {es : Array DictEntry} {ep : Nat},s₁.heap.get? b = some o -> o.data = .dict es ep -> H b = none:=fun {b o es ep} e d=>by
   cases q : H b with
   | none=>rfl
   | some u =>
    have e' : b = a:=hA b (by rw [q]; simp)
    subst e'
    rw [ha] at e; cases e
    have d' : Data.seq vs.toArray _ = Data.dict es ep:=d
    cases d'
  have nsK : ∀ {b : Addr} {m : Str -> Option Value},s₁.heap.Ns b m -> (zgc s₁.heap H).Ns b m:=fun {b m} ⟨o,es,ep,e,d,r⟩=>⟨o,es,ep,base_of e (noA e d),d,r⟩
  have hKb : K.In (zgc s₁.heap H):=fun b o e=>base_of (KX b o e) (by
   cases q : H b with
   | none=>rfl
   | some u =>
    have e' : b = a:=hA b (by rw [q]; simp)
    subst e'
    rw [hK (by rw [q]; simp)] at e; cases e)
  have hM : Mod K mg (zgc s₁.heap H):=⟨hKb,nsK hns,⟨mb,nsK hb,hbb⟩,let ⟨mc,h1,h2⟩:=hlim; ⟨mc,nsK h1,h2⟩⟩
  have e0 : zf1 P w K mg (zgc s₁.heap H) callerA [] s₁ H:=⟨rfl,hM,fun b o e=>z7u e,Nat.le_of_eq (zyf _ _),trivial,fun b hb=>absurd (show b ∈ ([] : List Addr) from hb) (by simp),hok,.of_eq hg⟩
  refine codeAny_mono ((F _ hKb (nsK hns)).run callerA [] s₁ H ⟨[.ref a],[]⟩ [.ref a] [.ref a] _ _ hr e0 (hbind s₁ (.ref a)) (.cons rfl .nil) (hsp H hO hS)) fun r s' h=>?_
  cases r with
  | error e=>exact (hCX H e s' h).elim
  | ok fl =>
   cases fl with
   | next=>exact False.elim h
   | brk=>exact False.elim h
   | cont=>exact False.elim h
   | ret u =>
    obtain ⟨v,H',os,bare,un,hok',r',q⟩:=h
    have q' : v = .bl true:=q
    subst q'
    obtain rfl : u = Value.bool true:=r'
    refine ⟨rfl,OldK.of_keep fun b o e=>?_,os,bare⟩
    cases q : H b with
    | none=>exact un.keep b o e q (by intro z; exact absurd (show b ∈ ([] : List Addr) from z) (by simp)) (by simp)
    | some u =>
     rcases hO b with z | ⟨ob,xs,z⟩
     ·rw [q] at z; cases z
     ·have z2:=un.frzs b ob _ z
      obtain ⟨e1,_⟩:=hok b _ z
      obtain ⟨e2,_⟩:=hok' b _ z2
      rw [e] at e1; cases e1
      exact e2
 cases hk : K.lookup a with
 | some o =>
  have e:=KX a o hk
  rw [ha] at e
  cases e
  refine core (fun _=>none) (fun _=>.inl rfl) (.inr ⟨_,vs.toArray,_,hk,rfl,rfl,rfl,by rw [List.size_toArray,lenV]; exact hl,by simpa using rv⟩) (fun b u z=>by have z' : (none : Option HO) = some u:=z; cases z') (fun b z=>absurd rfl z) fun z=>absurd rfl z
 | none =>
  refine core (fun b=>if b = a then some (.frz { cls:=.type "list",data:=.seq vs.toArray } (.lst (ns.map V.int))) else none) (fun b=>?_) (.inl (.inr ⟨{ cls:=.type "list",data:=.seq vs.toArray },if_pos rfl⟩)) (fun b u z=>?_) (fun b z=>?_) fun _=>hk
  ·by_cases hb : b = a
   ·exact .inr ⟨_,_,if_pos hb⟩
   ·exact .inl (if_neg hb)
  ·by_cases hb : b = a
   ·have z':=(if_pos hb).symm.trans z
    cases z'
    subst hb
    exact ⟨ha,by rw [List.length_map]; exact hl,vs,_,rv,ha⟩
   ·have z':=(if_neg hb).symm.trans z
    cases z'
  ·by_cases hb : b = a
   ·exact hb
   ·exact absurd (if_neg hb) z
noncomputable abbrev KOf {K : PySem.W.Frag} {h : Heap} (_ : K.In h) : PySem.W.Frag:=K
theorem z2u {l : PySem.W.OpenLaw} {n k : Nat} {q : Program} {loose : List Str} {XP : (Str -> Option Value) -> Heap -> Prop} {YP : World -> Heap -> Prop} {d : DefRec} {K : Params -> PySem.W.Frag} {CX : World -> CXT} {sp : World -> Sp} {x : Str}
  (hn : l.most = some n) (hn2 : n <= sizeLine) (hdf : d.params.defaults = []) (hr : zb2 k callerA)
  (hY : ∀ (w : World) (h : Heap),YP w h -> (K w.params).In h)
  (F : ∀ (w : World) (mg : Str -> Option Value) (fa : Addr) (h : Heap),(K w.params).In h -> h.Ns mainGlobals mg -> mg d.name = some (.ref fa) ->
   ∃ fd : FuncData,(∀ (s : Shared) (u : Value),BindsTo s fd ⟨[u],[]⟩ [(x,u)]) /\
    ∀ base : Heap,(K w.params).In base -> base.Ns mainGlobals mg -> zax l.prog w (K w.params) mg base (CX w) k fa fd [x] (sp w))
  (hsp : ∀ (w : World) (H : Hp) (a : Addr) (ns : List Int),ns.length <= n -> zlx H -> SqL (K w.params) H a (ns.map V.int) -> sp w [.ref a] H (fun v _=>v = .bl true) fun _ _ _=>False)
  (hCX : ∀ (w : World) (H : Hp) (s : Shared) (e : Value) (s' : Shared),CX w [] H s (fun _ _ _=>False) e s' -> False) :
  PySem.W.WalkO q loose XP YP l.row.toRowW d [] (fun f vs=>PySem.call f vs):=by
 refine Att.attach_call hn hdf fun w s₀ s₁ mg mb fa o pm cd doc a vs ns G Y ho hd hcd hmg hobj hints hlen hg=>?_
 have KX:=hY w _ Y
 obtain ⟨fd,hb,hF⟩:=F w mg fa _ KX G.T.g hmg
 exact z55 KX G.T.g G.T.b G.T.builtins G.T.nolimit hg hobj hints (Nat.le_trans hlen hn2) hr hF hb (fun H hO hS=>hsp w H a ns hlen hO hS) fun H e s'=>hCX w H s₁ e s'
theorem walk_ofK {l : PySem.W.OpenLaw} {n k : Nat} {q : Program} {loose : List Str} {XP : (Str -> Option Value) -> Heap -> Prop} {YP : World -> Heap -> Prop} {d : DefRec} {K : Params -> PySem.W.Frag} {CX : CXT} {sp : PySem.W.Frag -> Sp} {x : Str}
  (hn : l.most = some n) (hn2 : n <= sizeLine) (hdf : d.params.defaults = []) (hr : zb2 k callerA)
  (hY : ∀ (w : World) (h : Heap),YP w h -> (K w.params).In h)
  (F : ∀ (w : World) (mg : Str -> Option Value) (fa : Addr) (h : Heap),(K w.params).In h -> h.Ns mainGlobals mg -> mg d.name = some (.ref fa) ->
   ∃ fd : FuncData,(∀ (s : Shared) (u : Value),BindsTo s fd ⟨[u],[]⟩ [(x,u)]) /\
    ∀ base : Heap,(K w.params).In base -> base.Ns mainGlobals mg -> zax l.prog w (K w.params) mg base CX k fa fd [x] (sp (K w.params)))
  (hsp : ∀ (K : PySem.W.Frag) (H : Hp) (a : Addr) (ns : List Int),ns.length <= n -> zlx H -> SqL K H a (ns.map V.int) -> sp K [.ref a] H (fun v _=>v = .bl true) fun _ _ _=>False)
  (hCX : ∀ (H : Hp) (s : Shared) (e : Value) (s' : Shared),CX [] H s (fun _ _ _=>False) e s' -> False) :
  PySem.W.WalkO q loose XP YP l.row.toRowW d [] (fun f vs=>PySem.call f vs) :=
 z2u (K:=K) (CX:=fun _=>CX) (sp:=fun w=>sp (K w.params)) hn hn2 hdf hr hY F (fun w H a ns h1 h2 h3=>hsp (K w.params) H a ns h1 h2 h3) fun _ H s e s'=>hCX H s e s'
noncomputable def ze7 (s : Stmt) (j : Nat) : Stmt:=match s with
 | .ClassDef _ _ _ body _ _ _ _ _ _ _=>body.getD j (.Pass ⟨0,0,0,0⟩)
 | _=>.Pass ⟨0,0,0,0⟩
noncomputable def za7 (s : Stmt) : Arguments:=match s with
 | .FunctionDef _ a _ _ _ _ _ _ _ _=>a
 | _=>{ posonlyargs:=[],args:=[],vararg:=none,kwonlyargs:=[],kw_defaults:=[],kwarg:=none,defaults:=[] }
noncomputable def za4 (s : Stmt) : List Stmt:=match s with
 | .FunctionDef _ _ b _ _ _ _ _ _ _=>b
 | _=>[]
noncomputable def zaj (s : Stmt) : Scope:=match s with
 | .FunctionDef _ _ _ _ _ _ sc _ _ _=>sc
 | _=>{ kind:=.function,names:=[],isGenerator:=false,isCoroutine:=false }
noncomputable abbrev CX0 : CXT:=fun _ _ _ _ _ _=>False
noncomputable abbrev E0 : XK:=fun _ _ _=>False
theorem zjc {X : Cx} : zi2 CX0 X E0:=fun _ _ _ _ _ _ _ h=>h.elim
structure Fun (K : PySem.W.Frag) (x qual : Str) (st : Stmt) (f : Addr) (fd : FuncData) : Prop where
 ex : ∃ (oc : Value) (od : Option Addr) (kV doc pm : Value) (an : Option Addr) (cdv ct : Value) (osl : Array (Option Value)),
  fd = PySem.W.fnOf x qual (za7 st) (za4 st) (zaj st) .none kV doc pm an cdv ct /\ K.lookup f = some ⟨oc,od,.func fd,osl⟩ /\ PySem.W.codeIn K cdv qual = true
 kp : PySem.W.keepIn K (.ref f) = true
section
variable {P : Program} {w : World} {K : PySem.W.Frag} {mg : Str -> Option Value} {base : Heap}
theorem Fun.ok {x qual : Str} {st : Stmt} {f : Addr} {fd : FuncData} {N ps : List Str} {k : Nat} {sp : Sp} (F : Fun K x qual st f fd) (S : za6 N ps (zaj st)) (len : ∀ vs H Q E,sp vs H Q E -> vs.length = ps.length)
  (hbody : ∀ (cdv : Value) (A : Around) (outer : List Env) (s : Shared) (H : Hp) (vs : List V) (Q : VK) (E : XK),zb2 k (A.deeper (envOfC qual (zaj st) s.heap.objs.size f cdv)) -> sp vs H Q E ->
   ∃ t,PSs (zf8 CX0 P w K mg base N qual (zaj st) f cdv A outer s H E).nox (za4 st) t /\ t { nx:=fun _ H'=>Q .non H',rt:=Q } (start N vs) H) : zax P w K mg base CX0 (k + 1) f fd ps sp:=by
 obtain ⟨oc,od,kV,doc,pm,an,cdv,ct,osl,rfl,lk,hcd⟩:=F.ex
 refine z8l lk hcd S len fun A outer s H vs Q E hr hsp=>?_
 obtain ⟨t,h,q⟩:=hbody cdv A outer s H vs Q E hr hsp
 exact ⟨t,h.nox,q⟩
theorem Fun.binds {x qual : Str} {st : Stmt} {f : Addr} {fd : FuncData} {ps : List Str} (F : Fun K x qual st f fd)
  (h : ∀ (kV doc pm : Value) (an : Option Addr) (cdv ct : Value) (us : List Value),us.length = ps.length -> bindArgs (PySem.W.fnOf x qual (za7 st) (za4 st) (zaj st) .none kV doc pm an cdv ct) ⟨us,[]⟩ = pure (ps.zip us)) : za3 K fd ps []:=by
 obtain ⟨oc,od,kV,doc,pm,an,cdv,ct,osl,rfl,lk,hcd⟩:=F.ex
 exact .all (h kV doc pm an cdv ct)
theorem zba {x qual : Str} {st : Stmt} {f : Addr} {oc : Value} {od an : Option Addr} {osl : Array (Option Value)} {kV doc pm cdv ct : Value} (l : K.lookup f = some ⟨oc,od,.func (PySem.W.fnOf x qual (za7 st) (za4 st) (zaj st) .none kV doc pm an cdv ct),osl⟩)
  (c : PySem.W.codeIn K cdv qual = true) (k : PySem.W.keepIn K (.ref f) = true) : Fun K x qual st f (PySem.W.fnOf x qual (za7 st) (za4 st) (zaj st) .none kV doc pm an cdv ct):=⟨⟨oc,od,kV,doc,pm,an,cdv,ct,osl,rfl,l,c⟩,k⟩
end
theorem zmw {n : Nat} (h : n <= 1000) : n < sizeLine:=Nat.lt_of_le_of_lt h (by decide)
section
variable {X : Cx}
theorem pv (i : Nat) {x : Str} {pos : Pos} (hN : X.N[i]? = some x:=by rfl) (hv : Vis X.env.scope x:=by first | exact Or.inl rfl | exact Or.inr (Or.inl rfl) | exact Or.inr (Or.inr rfl)) (hd : (x == ("__debug__" : Str)) = false:=by decide)
  (hcd : (x == ("__classdict__" : Str)) = false:=by decide) : PE X (.Name x pos) (zd8 i):=zhj hN hv hd hcd
end
theorem zwh {A B : Prop} (h : B) : if false = true then A else B:=by
 rw [if_neg Bool.false_ne_true]
 exact h
theorem zvx {A B : Prop} (h : A) : if true = true then A else B:=by
 rw [if_pos rfl]
 exact h
noncomputable def zau (H H' : Hp) : Prop:=∀ b o,H b = some o -> H' b = some o
theorem zau.refl (H : Hp) : zau H H:=fun _ _ h=>h
theorem zau.trans {H H1 H2 : Hp} (a : zau H H1) (b : zau H1 H2) : zau H H2:=fun c o h=>b c o (a c o h)
theorem zau.free {H H' : Hp} (e : zau H H') {l : Addr} (h : H' l = Option.none) : H l = Option.none:=by
 cases q : H l with
 | none=>rfl
 | some o =>
  rw [e l o q] at h
  cases h
theorem zau.seq {K : PySem.W.Frag} {H H' : Hp} {a : Addr} {xs : List V} (e : zau H H') (h : SqL K H a xs) : SqL K H' a xs:=by
 rcases h with (h | ⟨o,h⟩) | h
 ·exact .inl (.inl (e _ _ h))
 ·exact .inl (.inr ⟨o,e _ _ h⟩)
 ·exact .inr h
section
variable {κ : Type} [DecidableEq κ]
noncomputable def zet (kvs : List (κ × V)) (k : κ) : Option V:=(kvs.find? fun kv=>decide (kv.1 = k)).map (·.2)
noncomputable def zeg (kvs : List (κ × V)) (k : κ) (v : V) : List (κ × V) :=
 if (kvs.any fun kv=>decide (kv.1 = k)) = true then kvs.map (fun kv=>if kv.1 = k then (kv.1,v) else kv) else kvs ++ [(k,v)]
noncomputable def zq8 (kvs : List (κ × V)) (k : κ) : List (κ × V):=kvs.filter fun kv=>decide (kv.1 ≠ k)
theorem zo6 {p : κ × V} {r : List (κ × V)} {k : κ} (e : p.1 = k) : zet (p :: r) k = some p.2:=by simp [zet,List.find?_cons,e]
theorem zp2 {p : κ × V} {r : List (κ × V)} {k : κ} (e : ¬ p.1 = k) : zet (p :: r) k = zet r k:=by simp [zet,List.find?_cons,e]
theorem znv (k : κ) : ∀ kvs : List (κ × V),(kvs.any fun kv=>decide (kv.1 = k)) = (zet kvs k).isSome
 | []=>rfl
 | p :: r=>by
  rw [List.any_cons]
  by_cases e : p.1 = k
  ·simp only [zo6 e,decide_eq_true e,Bool.true_or,Option.isSome_some]
  ·rw [zp2 e,decide_eq_false e,Bool.false_or]; exact znv k r
theorem zur (kvs : List (κ × V)) (k : κ) (v : V) : (zeg kvs k v).length <= kvs.length + 1:=by
 unfold zeg
 split
 ·rw [List.length_map]; omega
 ·rw [List.length_append,List.length_cons,List.length_nil]; omega
theorem zdw.isSome_eq {o : Option V} {u : Option Value} (r : zdw o u) : o.isSome = u.isSome:=by
 cases o with
 | none=>cases u with
  | none=>rfl
  | some _=>exact (show False from r).elim
 | some _=>cases u with
  | none=>exact (show False from r).elim
  | some _=>rfl
theorem zdw.getD {o : Option V} {u : Option Value} {d : V} {d' : Value} (r : zdw o u) (rd : zaw d d') : zaw (o.getD d) (u.getD d'):=by
 cases o with
 | none=>cases u with
  | none=>exact rd
  | some _=>exact (show False from r).elim
 | some _=>cases u with
  | none=>exact (show False from r).elim
  | some _=>exact r
theorem KV.val {kvs : List (κ × V)} {vs : List (κ × Value)} (r : KV kvs vs) (k : κ) : zdw (zet kvs k) (valueAt vs k):=by
 unfold KV at r
 induction r with
 | nil=>exact True.intro
 | @cons p q ps qs h t ih =>
  obtain ⟨h1,h2⟩:=h
  by_cases e : p.1 = k
  ·have e' : q.1 = k:=h1.symm.trans e
   have b : valueAt (q :: qs) k = some q.2:=by simp [valueAt,List.find?_cons,e']
   rw [zo6 e,b]; exact h2
  ·have e' : ¬ q.1 = k:=fun z=>e (h1.trans z)
   have b : valueAt (q :: qs) k = valueAt qs k:=by simp [valueAt,List.find?_cons,e']
   rw [zp2 e,b]; exact ih
theorem KV.any {kvs : List (κ × V)} {vs : List (κ × Value)} (r : KV kvs vs) (k : κ) : (kvs.any fun kv=>decide (kv.1 = k)) = vs.any fun kv=>decide (kv.1 = k):=by
 unfold KV at r
 induction r with
 | nil=>rfl
 | cons h t ih=>rw [List.any_cons,List.any_cons,ih,h.1]
theorem KV.repl {kvs : List (κ × V)} {vs : List (κ × Value)} (r : KV kvs vs) (k : κ) {y : V} {u : Value} (ry : zaw y u) :
  KV (kvs.map fun kv=>if kv.1 = k then (kv.1,y) else kv) (vs.map fun kv=>if kv.1 = k then (kv.1,u) else kv):=by
 unfold KV at r ⊢
 induction r with
 | nil=>exact .nil
 | @cons p q ps qs h t ih =>
  rw [List.map_cons,List.map_cons]
  refine .cons ?_ ih
  obtain ⟨h1,h2⟩:=h
  by_cases e : p.1 = k
  ·rw [if_pos e,if_pos (h1.symm.trans e)]; exact ⟨h1,ry⟩
  ·rw [if_neg e,if_neg (fun z=>e (h1.trans z))]; exact ⟨h1,h2⟩
theorem KV.put {kvs : List (κ × V)} {vs : List (κ × Value)} (r : KV kvs vs) (k : κ) {y : V} {u : Value} (ry : zaw y u) : KV (zeg kvs k y) (stored vs k u):=by
 unfold zeg stored
 rw [r.any k]
 by_cases e : (vs.any fun kv=>decide (kv.1 = k)) = true
 ·rw [if_pos e,if_pos e]; exact r.repl k ry
 ·rw [if_neg e,if_neg e]; exact Paired.snoc r ⟨rfl,ry⟩
theorem KV.drop {kvs : List (κ × V)} {vs : List (κ × Value)} (r : KV kvs vs) (k : κ) : KV (zq8 kvs k) (without vs k):=by
 unfold KV at r ⊢
 unfold zq8 without
 induction r with
 | nil=>exact .nil
 | @cons p q ps qs h t ih =>
  obtain ⟨h1,h2⟩:=h
  rw [List.filter_cons,List.filter_cons]
  by_cases e : p.1 = k
  ·have a : ¬ decide (p.1 ≠ k) = true:=by simp [e]
   have b : ¬ decide (q.1 ≠ k) = true:=by simp [h1.symm.trans e]
   rw [if_neg a,if_neg b]; exact ih
  ·have e' : ¬ q.1 = k:=fun z=>e (h1.trans z)
   have a : decide (p.1 ≠ k) = true:=by simp [e]
   have b : decide (q.1 ≠ k) = true:=by simp [e']
   rw [if_pos a,if_pos b]; exact .cons ⟨h1,h2⟩ ih
theorem KV.length {kvs : List (κ × V)} {vs : List (κ × Value)} (r : KV kvs vs) : kvs.length = vs.length:=Paired.length r
end
theorem zn1 {P : Program} {w : World} {k : Key} {u : Value} (r : zaw (kV k) u) : (zej P w).is k u = true:=by
 cases k with
 | inl i=>obtain ⟨t,e⟩:=(show ∃ t,u = Value.int i t from r); subst e; exact z3e P w i t
 | inr x=>obtain ⟨t,e⟩:=(show ∃ t,u = Value.str x t from r); subst e; exact z7l P w x t
theorem zqr {P : Program} {w : World} : ∀ {ks : List Key} {us : List Value},zas (ks.map kV) us -> ItemsAre (zej P w) ks us
 | [],_,r=>by rw [List.map_nil] at r; cases r; exact .nil
 | k :: ks,_,r=>by
  rw [List.map_cons] at r
  cases r with
  | cons h t=>exact .cons (zn1 h) (zqr t)
noncomputable abbrev KT (H : Hp) : List (List Key × V) -> List (List Key × Addr × Value) -> Prop:=Paired fun p q=>p.1 = q.1 /\ H q.2.1 = some (.tup (p.1.map kV)) /\ zaw p.2 q.2.2
theorem KT.val {H : Hp} {kvs : List (List Key × V)} {xs : List (List Key × Addr × Value)} (r : KT H kvs xs) (k : List Key) : zdw (zet kvs k) ((atKey xs k).map (·.2)):=by
 induction r with
 | nil=>exact True.intro
 | @cons p q ps qs h t ih =>
  obtain ⟨h1,_,h2⟩:=h
  by_cases e : p.1 = k
  ·have e' : q.1 = k:=h1.symm.trans e
   have b : atKey (q :: qs) k = some q.2:=by simp [atKey,List.find?_cons,e']
   rw [zo6 e,b]; exact h2
  ·have e' : ¬ q.1 = k:=fun z=>e (h1.trans z)
   have b : atKey (q :: qs) k = atKey qs k:=by simp [atKey,List.find?_cons,e']
   rw [zp2 e,b]; exact ih
theorem KT.repl {H : Hp} {kvs : List (List Key × V)} {xs : List (List Key × Addr × Value)} (r : KT H kvs xs) (k : List Key) {y : V} {u : Value} (ry : zaw y u) :
  KT H (kvs.map fun kv=>if kv.1 = k then (kv.1,y) else kv) (xs.map (putAt k u)):=by
 induction r with
 | nil=>exact .nil
 | @cons p q ps qs h t ih =>
  rw [List.map_cons,List.map_cons]
  refine .cons ?_ ih
  obtain ⟨h1,h2,h3⟩:=h
  unfold putAt
  by_cases e : p.1 = k
  ·rw [if_pos e,if_pos (h1.symm.trans e)]; exact ⟨h1,h2,ry⟩
  ·rw [if_neg e,if_neg (fun z=>e (h1.trans z))]; exact ⟨h1,h2,h3⟩
theorem KT.put {H : Hp} {kvs : List (List Key × V)} {xs : List (List Key × Addr × Value)} (r : KT H kvs xs) (k : List Key) {b : Addr} {y : V} {u : Value} (hb : H b = some (.tup (k.map kV))) (ry : zaw y u) :
  KT H (zeg kvs k y) (storedH xs k b u):=by
 have e : (kvs.any fun kv=>decide (kv.1 = k)) = (atKey xs k).isSome:=by
  rw [znv,(r.val k).isSome_eq,Option.isSome_map]
 unfold zeg storedH
 rw [e]
 by_cases q : (atKey xs k).isSome = true
 ·rw [if_pos q,if_pos q]; exact r.repl k ry
 ·rw [if_neg q,if_neg q]; exact Paired.snoc r ⟨rfl,hb,ry⟩
theorem KT.keeps {H H' : Hp} {kvs : List (List Key × V)} {xs : List (List Key × Addr × Value)} (r : KT H kvs xs) (ht : ∀ b ys,H b = some (.tup ys) -> H' b = some (.tup ys)) : KT H' kvs xs :=
 Paired.mapP r fun _ _ z=>⟨z.1,ht _ _ z.2.1,z.2.2⟩
section
variable {P : Program} {w : World} {H : Hp} {h : Heap} {a : Addr}
theorem zt1 {u : HO} (ok : HOk P w H h) (e : Rd H a u) : zcl P w H h a u:=e.ok ok
theorem zuy {kvs : List (Key × V)} (ok : HOk P w H h) (e : Rd H a (.dK kvs)) : kvs.length <= sizeLine /\ (a == sysModules) = false /\ ∃ vs,KV kvs vs /\ h.DictOf (zej P w) a vs :=
 show zcl P w H h a (.dK kvs) from zt1 ok e
theorem z21 {kvs : List (Key × V)} (ok : HOk P w H h) (e : H a = some (.dK kvs)) : kvs.length <= sizeLine /\ (a == sysModules) = false /\ ∃ vs,KV kvs vs /\ h.DictOf (zej P w) a vs:=zuy ok (.inl e)
theorem zo1 {ks : List Key} (ok : HOk P w H h) (e : H a = some (.tup (ks.map kV))) : (tupleKind (zej P w)).is h ks a:=by
 obtain ⟨_,its,r,o,h1,h2,n,h3⟩:=(show zcl P w H h a (.tup (ks.map kV)) from ok a _ e)
 exact ⟨o,its.toArray,n,h1,h2,h3,by simpa using zqr r⟩
theorem zsb {kvs : List (List Key × V)} (ok : HOk P w H h) (e : Rd H a (.dT kvs)) : kvs.length <= sizeLine /\ (a == sysModules) = false /\
  ∃ xs,KT H kvs xs /\ h.DictOfH (tupleKind (zej P w)) a xs:=by
 obtain ⟨z,y,xs,r,o,es,ep,h1,h2,h3,h4,h5⟩:=(show zcl P w H h a (.dT kvs) from zt1 ok e)
 refine ⟨z,y,xs,r,o,es,ep,h1,h2,h3,h4,fun x hx=>?_,h5⟩
 have all : ∀ {l : List (List Key × V)} {m : List (List Key × Addr × Value)},KT H l m -> ∀ x ∈ m,(tupleKind (zej P w)).is h x.1 x.2.1:=by
  intro l m q
  induction q with
  | nil=>intro x hx; exact nomatch hx
  | @cons p q ps qs hq t ih =>
   intro x hx
   rcases List.mem_cons.mp hx with e | hx
   ·subst e
    exact zo1 ok (by rw [<- hq.1]; exact hq.2.1)
   ·exact ih x hx
 exact all r x hx
theorem zx5 {kvs : List (List Key × V)} (ok : HOk P w H h) (e : H a = some (.dT kvs)) : kvs.length <= sizeLine /\ (a == sysModules) = false /\
  ∃ xs,KT H kvs xs /\ h.DictOfH (tupleKind (zej P w)) a xs:=zsb ok (.inl e)
end
noncomputable def zhq (H : Hp) (a : Addr) (y : V) (r : Option V) : Prop :=
 (∃ kvs k,Rd H a (.dK kvs) /\ y = kV k /\ r = zet kvs k) \/ ∃ kvs k b,Rd H a (.dT kvs) /\ y = .ref b /\ H b = some (.tup (k.map kV)) /\ r = zet kvs k
noncomputable def zhf (H : Hp) (a : Addr) (y v : V) (H' : Hp) : Prop :=
 (∃ kvs k,H a = some (.dK kvs) /\ y = kV k /\ kvs.length < sizeLine /\ H' = upd H a (.dK (zeg kvs k v))) \/
 ∃ kvs k b,H a = some (.dT kvs) /\ y = .ref b /\ H b = some (.tup (k.map kV)) /\ kvs.length < sizeLine /\ H' = upd H a (.dT (zeg kvs k v))
theorem zhq.k {H : Hp} {a : Addr} {kvs : List (Key × V)} {k : Key} (e : H a = some (.dK kvs)) : zhq H a (kV k) (zet kvs k):=.inl ⟨kvs,k,.inl e,rfl,rfl⟩
theorem zhq.t {H : Hp} {a b : Addr} {kvs : List (List Key × V)} {k : List Key} (e : H a = some (.dT kvs)) (eb : H b = some (.tup (k.map kV))) : zhq H a (.ref b) (zet kvs k):=.inr ⟨kvs,k,b,.inl e,rfl,eb,rfl⟩
theorem zhf.k {H : Hp} {a : Addr} {kvs : List (Key × V)} {k : Key} {v : V} (e : H a = some (.dK kvs)) (hl : kvs.length < sizeLine) : zhf H a (kV k) v (upd H a (.dK (zeg kvs k v))):=.inl ⟨kvs,k,e,rfl,hl,rfl⟩
theorem zhf.t {H : Hp} {a b : Addr} {kvs : List (List Key × V)} {k : List Key} {v : V} (e : H a = some (.dT kvs)) (eb : H b = some (.tup (k.map kV))) (hl : kvs.length < sizeLine) :
  zhf H a (.ref b) v (upd H a (.dT (zeg kvs k v))):=.inr ⟨kvs,k,b,e,rfl,eb,hl,rfl⟩
section
variable {X : Cx} {pins : List (Addr × Obj)} {σ : St} {H : Hp} {s : Shared} {a : Addr} {y v : V} {u r : Value} {o : Option V} {A : Around} {E : Value -> Shared -> Prop}
theorem Inv.big (I : Inv X pins σ H s) : sysModules < s.heap.objs.size:=by
 have h : mainGlobals < s.heap.objs.size:=(I.mod.glob.keeps I.bk).lt
 exact Nat.lt_trans (by decide) h
theorem z8b {Q : Value -> Shared -> Prop} (hu : A.units + 1 < cLine) (I : Inv X pins σ H s) (g : zhq H a y o) (ry : zaw y u) (h : ∀ s',Inv X pins σ H s' -> Q (.bool o.isSome) s') :
  wpAny (model X.prog X.w) A (compareOp .In u (.ref a)) Q E s:=by
 rcases g with ⟨kvs,k,e,ey,l⟩ | ⟨kvs,k,b,e,ey,eb,l⟩
 ·subst ey
  obtain ⟨z,hd,vs,rel,dd⟩:=zuy I.hok e
  refine wpAny_in_of (zn1 ry) hd dd.mapOf ?_
  rw [<- (rel.val k).isSome_eq,<- l]
  exact h _ (I.tok _)
 ·subst ey
  cases (show u = Value.ref b from ry)
  obtain ⟨z,hd,xs,rel,dd⟩:=zsb I.hok e
  refine wpAny_in_heap (tupleKind_room_in1 hu) (zo1 I.hok eb) hd dd ?_
  have q:=(rel.val k).isSome_eq
  rw [Option.isSome_map] at q
  rw [<- q,<- l]
  exact h _ (I.tok _)
theorem zr3 {h' : Heap} {t' : Nat} {ob : HO} (I : Inv X pins σ H s) (mu : Mut (H a)) (hs : Heap.SameBut a s.heap h') (he : ∃ q,h'.get? a = some q) (new : zcl X.prog X.w (upd H a ob) h' a ob) :
  Inv X pins σ (upd H a ob) { s with heap:=h',toks:=t' } :=
 I.write (x:=a) (e:=a) mu (.inl rfl) (fun b q hb z=>(hs.2 b hb).trans z) he new
theorem z77 {P : Program} {w : World} {H' : Hp} {h' : Heap} {kvs : List (Key × V)} {vs : List (Key × Value)} (z : kvs.length <= sizeLine) (hd : (a == sysModules) = false) (rel : KV kvs vs) (dd : h'.DictOf (zej P w) a vs) :
  zcl P w H' h' a (.dK kvs):=⟨z,hd,vs,rel,dd⟩
theorem zx0 {H' : Hp} {Q : Unit -> Shared -> Prop} (hu : A.units + 1 < cLine) (I : Inv X pins σ H s) (g : zhf H a y v H') (ry : zaw y u) (rv : zaw v r) (h : ∀ s',Inv X pins σ H' s' -> Q () s') :
  wpAny (model X.prog X.w) A (setItem (.ref a) u r) Q E s:=by
 rcases g with ⟨kvs,k,e,ey,l,eH⟩ | ⟨kvs,k,b,e,ey,eb,l,eH⟩
 ·subst ey eH
  obtain ⟨z,hd,vs,rel,dd⟩:=z21 I.hok e
  have hz : vs.length <= sizeLine:=by rw [<- rel.length]; exact z
  have hl : (zeg kvs k v).length <= sizeLine:=by have:=zur kvs k v; omega
  refine wpAny_setItem_pairs (hsz:=hz) (zn1 ry) dd fun h' dd' hs=>h _ ?_
  have he : ∃ q,h'.get? a = some q:=let ⟨q,_,_,hq,_⟩:=dd'; ⟨q,hq⟩
  exact zr3 I (by rw [e]; exact True.intro) hs he (z77 hl hd (rel.put k rv) dd')
 ·subst ey eH
  cases (show u = Value.ref b from ry)
  obtain ⟨z,hd,xs,rel,dd⟩:=zx5 I.hok e
  have hz : xs.length <= sizeLine:=by rw [<- Paired.length rel]; exact z
  have hl : (zeg kvs k v).length <= sizeLine:=by have:=zur kvs k v; omega
  refine wpAny_setItem_heap (hsz:=hz) (tupleKind_room_in1 hu) (zo1 I.hok eb) dd fun h' dd' hs=>h _ ?_
  obtain ⟨q,es,ep,hq,h2,h3,h4,_,h5⟩:=dd'
  refine zr3 I (by rw [e]; exact True.intro) hs ⟨q,hq⟩ ⟨hl,hd,_,(rel.put k eb rv).keeps fun c ys ec=>?_,q,es,ep,hq,h2,h3,h4,h5⟩
  rw [za2 (zsd ec e (fun z=>nomatch z))]
  exact ec
end
section
variable {X : Cx} {pins : List (Addr × Obj)} {σ : St} {H : Hp} {s : Shared} {a : Addr} {kvs : List (Key × V)} {k : Key} {u : Value} {A : Around} {E : Value -> Shared -> Prop}
end
noncomputable def z8p (ty td : TE) : TE:=fun σ H Q=>ty σ H fun y H1=>td σ H1 fun x H2=>∃ a o,x = .ref a /\ zhq H2 a y o /\ Q (.bl o.isSome) H2
noncomputable def zul (td ty tv : TE) : TS:=fun D σ H=>tv σ H fun v H1=>td σ H1 fun x H2=>ty σ H2 fun y H3=>∃ a H4,x = .ref a /\ zhf H3 a y v H4 /\ D.nx σ H4
section
variable {X : Cx} {o i e value : Expr} {pos pos' tpos : Pos} {td ty tv : TE}
theorem zvq (hu : X.A.units + 1 < cLine) (hi : PE X i ty) (ho : PE X o td) : PC X .In i o (z8p ty td):=by
 intro pins s σ H Q I h
 refine thn (hi pins s σ H _ I h) fun iv s1 ⟨y,H1,I1,ry,q1⟩=>thn (ho pins s1 σ H1 _ I1 q1) fun u s2 ⟨x,H2,I2,rx,a,ov,ex,g,q2⟩=>?_
 subst ex
 obtain rfl : u = Value.ref a:=rx
 exact z8b hu I2 g ry fun s3 I3=>⟨.bl ov.isSome,H2,I3,rfl,q2⟩
theorem z4c (hu : X.A.units + 1 < cLine) (ho : PE X o td) (hi : PE X i ty) (hv : PE X value tv) (hs : swapsWith value (some (.Subscript o i pos')) pos.line X.env = pure false) :
  PS X (.Assign [.Subscript o i pos'] value pos) (zul td ty tv):=by
 intro pins s σ H D I h
 refine wpAny_Assign_Subscript (thn (hv pins s σ H _ I h) fun r s1 ⟨v,H1,I1,rv,q1⟩=>thn (ho pins s1 σ H1 _ I1 q1) fun u s2 ⟨x,H2,I2,rx,q2⟩=>thn (hi pins s2 σ H2 _ I2 q2) fun iv s3 ⟨y,H3,I3,ry,a,H4,ex,g,q3⟩=>?_) hs
 subst ex
 obtain rfl : u = Value.ref a:=rx
 exact zx0 hu I3 g ry rv fun s4 I4=>⟨σ,H4,I4,q3⟩
end
theorem zxo {P : Program} {w : World} {H : Hp} (h : Heap) (hb : sysModules < h.objs.size) : zcl P w H (h.push { cls:=.type "dict",data:=.dict #[] }) h.objs.size (.dK []) :=
 ⟨Nat.zero_le _,beq_eq_false_iff_ne.mpr (Ne.symm (Nat.ne_of_lt hb)),[],.nil,Heap.DictOf.new h⟩
noncomputable def zub : TE:=fun _ H Q=>∀ p,H p = none -> Q (.ref p) (upd H p (.dK []))
section
variable {X : Cx} {pos : Pos}
theorem zxi : PE X (.Dict [] [] pos) zub:=fun pins s σ H Q I h =>
 wpAny_Dict_empty ⟨.ref s.heap.objs.size,_,I.laid (a:=s.heap.objs.size) (o:=.dK []) (t':=s.toks) (fun _ _ q=>Heap.get?_push_of_some _ q) (Nat.le_refl _) (zxo s.heap I.big),rfl,h _ (I.hok.fresh (Nat.le_refl _))⟩
end
section
variable {X : Cx} {pins : List (Addr × Obj)} {σ : St} {H : Hp} {s : Shared} {a : Addr} {y d : V} {u r : Value} {o : Option V} {A : Around} {E : Value -> Shared -> Prop}
end
section
variable {X : Cx} {o e f : Expr} {apos cpos : Pos} {td ty tx : TE}
end
section
variable {X : Cx} {pins : List (Addr × Obj)} {σ : St} {H : Hp} {s : Shared} {a : Addr} {kvs : List (Key × V)} {A : Around} {E : Value -> Shared -> Prop}
end
section
variable {X : Cx} {pins : List (Addr × Obj)} {σ : St} {H : Hp} {s : Shared} {a : Addr} {y : V} {u : Value} {A : Around} {E : Value -> Shared -> Prop}
end
section
variable {κ : Type} [DecidableEq κ]
end
end L2
set_option maxHeartbeats 4000000
namespace L2
open PySem
theorem zp0 {env : Env} (f : (Str × NameKind) -> List (Str × Addr) -> Sem (ForInStep (List (Str × Addr))))
  (h1 : ∀ n k r,k ≠ NameKind.free -> f (n,k) r = pure (.yield r))
  (h2 : ∀ n r c,env.cells.lookup n = some c -> f (n,.free) r = pure (.yield ((n,c) :: r))) :
  ∀ (l : List (Str × NameKind)) (acc : List (Str × Addr)),(∀ x ∈ l,x.2 = .free -> ∃ c,env.cells.lookup x.1 = some c) ->
   (∀ x c,acc.lookup x = some c -> env.cells.lookup x = some c) ->
   ∃ cl,forIn l acc f = (pure cl : Sem _) /\ (∀ x c,cl.lookup x = some c -> env.cells.lookup x = some c) /\
    (∀ x,((∃ c,acc.lookup x = some c) \/ (x,NameKind.free) ∈ l) -> ∃ c,cl.lookup x = some c)
 | [],acc,_,ha=>⟨acc,rfl,ha,fun x hx=>hx.elim id (fun z=>nomatch z)⟩
 | (n,k) :: l,acc,hl,ha=>by
  have hl' : ∀ x ∈ l,x.2 = .free -> ∃ c,env.cells.lookup x.1 = some c:=fun x hx=>hl x (List.mem_cons_of_mem _ hx)
  by_cases hk : k = .free
  ·subst hk
   obtain ⟨c,hc⟩:=hl (n,.free) List.mem_cons_self rfl
   have hc' : env.cells.lookup n = some c:=hc
   have ha' : ∀ x c',((n,c) :: acc).lookup x = some c' -> env.cells.lookup x = some c':=fun x c' hx=>by
    rw [List.lookup_cons] at hx
    cases e : x == n with
    | true =>
     rw [e] at hx
     cases hx
     rw [eq_of_beq e]; exact hc'
    | false =>
     rw [e] at hx
     exact ha x c' hx
   obtain ⟨cl,e,a1,a2⟩:=zp0 f h1 h2 l ((n,c) :: acc) hl' ha'
   refine ⟨cl,?_,a1,fun x hx=>a2 x ?_⟩
   ·rw [List.forIn_cons,h2 n acc c hc',pure_bind]
    exact e
   ·have here : ∀ c',acc.lookup x = some c' -> ∃ c'',((n,c) :: acc).lookup x = some c'':=fun c' z=>by
     rw [List.lookup_cons]
     cases e : x == n with
     | true=>exact ⟨c,rfl⟩
     | false=>exact ⟨c',z⟩
    rcases hx with ⟨c',z⟩ | hx
    ·exact .inl (here c' z)
    ·rcases List.mem_cons.mp hx with z | z
     ·cases z
      refine .inl ⟨c,?_⟩
      rw [List.lookup_cons,beq_self_eq_true]
     ·exact .inr z
  ·obtain ⟨cl,e,a1,a2⟩:=zp0 f h1 h2 l acc hl' ha
   refine ⟨cl,?_,a1,fun x hx=>a2 x ?_⟩
   ·rw [List.forIn_cons,h1 n k acc hk,pure_bind]
    exact e
   ·rcases hx with hx | hx
    ·exact .inl hx
    ·rcases List.mem_cons.mp hx with z | z
     ·cases z; exact absurd rfl hk
     ·exact .inr z
theorem zqt {scope : Scope} {env : Env} (h : ∀ x ∈ scope.names,x.2 = .free -> ∃ c,env.cells.lookup x.1 = some c) :
  ∃ cl,closureFor scope env = pure cl /\ (∀ x c,cl.lookup x = some c -> env.cells.lookup x = some c) /\ (∀ x,(x,NameKind.free) ∈ scope.names -> ∃ c,cl.lookup x = some c):=by
 unfold closureFor
 obtain ⟨cl,e,a1,a2⟩:=zp0 (env:=env) (fun (x : Str × NameKind) (r : List (Str × Addr))=>(match x with
   | (name,kind)=>if (kind == NameKind.free) = true then (do let a <- cellOf env name; pure (ForInStep.yield ((name,a) :: r))) else (pure (ForInStep.yield r) : Sem _)))
  (fun n k r hk=>by
   have : (k == NameKind.free) = false:=by simpa using hk
   simp only [this,Bool.false_eq_true,if_false])
  (fun n r c hc=>by
   simp only [beq_self_eq_true,if_true,cellOf,hc,pure_bind])
  scope.names [] h (fun x c z=>by cases z)
 refine ⟨cl,?_,a1,fun x hx=>a2 x (.inr hx)⟩
 refine (congrArg (fun (t : Sem (List (Str × Addr)))=>t >>= pure) ?_).trans ((congrArg (fun (t : Sem (List (Str × Addr)))=>t >>= pure) e).trans (pure_bind _ _))
 rfl
section
variable {prog : Program} {w : World} {A : Around} {R : Result -> Shared -> Prop} {s : Shared}
noncomputable abbrev E00 : Value -> Shared -> Prop:=fun _ _=>False
theorem zws {elt target iter : Expr} {ifs : List Expr} {scope : Scope} {pos : Pos} {it acc : Value} {env : Env} (I : Nat -> Shared -> Prop)
  (turn : ∀ n s,I n s -> wpAny (model prog w) A (pyNext it) (fun r s₁=>match r with
   | none=>R (.ok .next) s₁
   | some v=>wpAny (model prog w) A (letOwnedTupleGo target it v) (fun _ s₁'=>wpAny (model prog w) A (assign target env v) (fun _ s₂ =>
     wpAny (model prog w) A (forIn ifs true fun c r=>if r = true then do let ok <- isTrue c env (eval c env); pure (ForInStep.yield ok) else pure (ForInStep.yield r)) (fun ok s₃ =>
      if ok = true then wpAny (model prog w) A (eval elt env) (fun x s₄ =>
       wpAny (model prog w) A (call (.builtin "list.append") [acc,x]) (fun _ s₅=>∃ m,m < n /\ I m s₅) E00 s₄) E00 s₃
      else ∃ m,m < n /\ I m s₃) E00 s₂) E00 s₁') E00 s₁) E00 s)
  (n : Nat) (h : I n s) :
  codeAny (model prog w) A (.compLoop (.ListComp elt [⟨target,iter,ifs,0⟩] scope pos) 0 it acc env) R s:=by
 refine codeAny_loop rfl I (fun n s hI=>?_) n h
 show wpAny _ A ((compTurn (.ListComp elt [⟨target,iter,ifs,0⟩] scope pos) 0 it acc env).onRaise (fun x=>do noteFrame x env; theTreesLotGoes x)) _ _ s
 refine wpAny_noted ?_
 rw [compTurn_list]
 refine wpAny_mono (E:=E00) ?_ (fun _ _ z=>z) (fun _ _ z=>z.elim)
 refine wpAny_bind (wpAny_standAt (wpAny_bind (wpAny_mono (turn n s hI) (fun r s₁ h₁=>?_) fun _ _ h'=>h')))
 cases r with
 | none=>exact wpAny_pure h₁
 | some v =>
  refine wpAny_bind (wpAny_mono h₁ (fun _ s₁' h₁'=>?_) fun _ _ h'=>h')
  refine wpAny_bind (wpAny_mono h₁' (fun _ s₂ h₂=>wpAny_bind (wpAny_mono h₂ (fun ok s₃ h₃=>?_) fun _ _ h'=>h')) fun _ _ h'=>h')
  cases ok with
  | false=>exact wpAny_pure ⟨rfl,h₃⟩
  | true =>
   exact wpAny_bind (wpAny_bind (wpAny_mono h₃ (fun x s₄ h₄=>wpAny_bind (wpAny_mono h₄ (fun _ s₅ h₅=>wpAny_pure (wpAny_pure ⟨rfl,h₅⟩)) fun _ _ h'=>h')) fun _ _ h'=>h'))
end
open PySem.Spec PyProof.Rows
noncomputable abbrev Cx.comp (X : Cx) (scope : Scope) (Nc : List Str) (cl : List (Str × Addr)) (C : Addr) (ex : List Addr) (s₂ : Shared) (H₂ : Hp) : Cx :=
 { X with N:=Nc,s₀:=s₂,H₀:=H₂,env:=compEnvC scope cl C X.env,outer:=X.stack,ex:=ex,fn:=fun _=>false,pn:=[],xe:=E00 }
theorem zog {env : Env} : ∀ {names : List (Str × NameKind)} {x : Str},names.lookup x = some .free ->
  (names.map fun (n,k)=>if (k == NameKind.free && env.scope.kind == .function && env.kindOf n == some .cell) then (n,NameKind.cell) else (n,k)).lookup x = some .cell \/
  (names.map fun (n,k)=>if (k == NameKind.free && env.scope.kind == .function && env.kindOf n == some .cell) then (n,NameKind.cell) else (n,k)).lookup x = some .free
 | [],_,h=>by simp at h
 | (n,k) :: r,x,h=>by
  have ih:=@zog env r x
  rw [List.map_cons]
  show List.lookup x ((if (k == NameKind.free && env.scope.kind == .function && env.kindOf n == some .cell) = true then (n,NameKind.cell) else (n,k)) :: _) = _ \/ List.lookup x ((if (k == NameKind.free && env.scope.kind == .function && env.kindOf n == some .cell) = true then (n,NameKind.cell) else (n,k)) :: _) = _
  rw [List.lookup_cons] at h
  cases hx : x == n with
  | true =>
   rw [hx] at h
   cases h
   split
   ·left; rw [List.lookup_cons,hx]
   ·right; rw [List.lookup_cons,hx]
  | false =>
   rw [hx] at h
   split
   ·rw [List.lookup_cons,hx]; exact ih h
   ·rw [List.lookup_cons,hx]; exact ih h
theorem zny {env : Env} {k' : NameKind} (hk' : k' = .cell \/ k' = .free) : ∀ {names : List (Str × NameKind)} {x : Str},
  (names.map fun (n,k)=>if (k == NameKind.free && env.scope.kind == .function && env.kindOf n == some .cell) then (n,NameKind.cell) else (n,k)).lookup x = some k' ->
  (x,NameKind.free) ∈ names \/ (x,NameKind.cell) ∈ names
 | [],_,h=>by simp at h
 | (n,k) :: r,x,h=>by
  have ih:=@zny env k' hk' r x
  rw [List.map_cons] at h
  have h' : List.lookup x ((if (k == NameKind.free && env.scope.kind == .function && env.kindOf n == some .cell) = true then (n,NameKind.cell) else (n,k)) :: (r.map fun (n,k)=>if (k == NameKind.free && env.scope.kind == .function && env.kindOf n == some .cell) then (n,NameKind.cell) else (n,k))) = some k':=h
  cases hx : x == n with
  | true =>
   have e:=eq_of_beq hx
   subst e
   split at h'
   ·rename_i hc
    have hk : k = .free:=by
     rw [Bool.and_eq_true,Bool.and_eq_true] at hc
     exact eq_of_beq hc.1.1
    subst hk
    exact .inl List.mem_cons_self
   ·rw [List.lookup_cons,hx] at h'
    have e : k = k':=Option.some.inj h'
    subst e
    rcases hk' with z | z
    ·subst z; exact .inr List.mem_cons_self
    ·subst z; exact .inl List.mem_cons_self
  | false =>
   have h2 : (r.map fun (n,k)=>if (k == NameKind.free && env.scope.kind == .function && env.kindOf n == some .cell) then (n,NameKind.cell) else (n,k)).lookup x = some k':=by
    split at h' <;> (rw [List.lookup_cons,hx] at h'; exact h')
   rcases ih h2 with z | z
   ·exact .inl (List.mem_cons_of_mem _ z)
   ·exact .inr (List.mem_cons_of_mem _ z)
noncomputable def zhr (scope : Scope) (outer : List (Str × NameKind)) (N Nc : List Str) (k : Nat) (js : List Nat) : Bool :=
 scope.names.all (fun x=>(x.2 != .free || outer.lookup x.1 == some .cell || outer.lookup x.1 == some .free) && x.2 != .cell && (x.2 != .local || scope.names.lookup x.1 == some .local)) &&
 scope.kind == .function && Nc.length == k + js.length &&
 (List.range js.length).all (fun i=>match Nc[k + i]?,js[i]? with
  | some x,some j=>N[j]? == some x && scope.names.lookup x == some .free
  | _,_=>false)
structure zki (scope : Scope) (outer : List (Str × NameKind)) (N Nc : List Str) (k : Nat) (js : List Nat) : Prop where
 free : ∀ x ∈ scope.names,x.2 = .free -> outer.lookup x.1 = some .cell \/ outer.lookup x.1 = some .free
 nocell : ∀ x ∈ scope.names,x.2 ≠ .cell
 loc : ∀ x ∈ scope.names,x.2 = .local -> scope.names.lookup x.1 = some .local
 kind : scope.kind = .function
 len : Nc.length = k + js.length
 at' : ∀ i j,js[i]? = some j -> ∃ x,Nc[k + i]? = some x /\ N[j]? = some x /\ scope.names.lookup x = some .free
theorem zki.of {scope : Scope} {outer : List (Str × NameKind)} {N Nc : List Str} {k : Nat} {js : List Nat} (h : zhr scope outer N Nc k js = true) : zki scope outer N Nc k js:=by
 unfold zhr at h
 rw [Bool.and_eq_true,Bool.and_eq_true,Bool.and_eq_true] at h
 obtain ⟨⟨⟨h1,h2⟩,h3⟩,h4⟩:=h
 rw [List.all_eq_true] at h1 h4
 refine ⟨fun x hx e=>?_,fun x hx e=>?_,fun x hx e=>?_,eq_of_beq h2,eq_of_beq h3,fun i j e=>?_⟩
 ·have:=h1 x hx
  simp only [Bool.and_eq_true,Bool.or_eq_true,bne_iff_ne,beq_iff_eq] at this
  rcases this.1.1 with (z | z) | z
  ·exact absurd e z
  ·exact .inl z
  ·exact .inr z
 ·have:=h1 x hx
  simp only [Bool.and_eq_true,Bool.or_eq_true,bne_iff_ne,beq_iff_eq] at this
  exact this.1.2 e
 ·have:=h1 x hx
  simp only [Bool.and_eq_true,Bool.or_eq_true,bne_iff_ne,beq_iff_eq] at this
  rcases this.2 with z | z
  ·exact absurd e z
  ·exact z
 ·have hi : i < js.length:=(List.getElem?_eq_some_iff.mp e).1
  have:=h4 i (List.mem_range.mpr hi)
  rw [e] at this
  cases q : Nc[k + i]? with
  | none=>rw [q] at this; cases this
  | some x =>
   rw [q] at this
   simp only [Bool.and_eq_true,beq_iff_eq] at this
   exact ⟨x,rfl,this.1,this.2⟩
noncomputable def zfw (k : Nat) (js : List Nat) (σ : St) : St:=List.replicate k none ++ js.map fun j=>(σ[j]?).getD none
noncomputable def PTs (X : Cx) (ifs : List Expr) (t : TT) : Prop :=
 ∀ (pins : List (Addr × Obj)) (s : Shared) (σ : St) (H : Hp) (Q : Bool -> Hp -> Prop),Inv X pins σ H s -> t σ H Q ->
  wpAny (model X.prog X.w) X.A (forIn ifs true fun c r=>if r = true then do let ok <- isTrue c X.env (eval c X.env); pure (ForInStep.yield ok) else pure (ForInStep.yield r)) (TP X pins σ Q) X.xe s
noncomputable def z66 : TT:=fun _ H Q=>Q true H
theorem zxr {X : Cx} : PTs X [] z66:=fun _ _ _ H _ I h=>wpAny_tests_nil ⟨H,I,h⟩
theorem z2d {X : Cx} {c : Expr} {t : TT} (h : PT X c t) : PTs X [c] t:=fun pins s σ H Q I q=>wpAny_tests_one (h pins s σ H Q I q)
noncomputable def zrt (J : It) (g : TG) (tt : TT) (te : TE) (σ0 : St) (H1 : Hp) (Q : VK) : Prop :=
 ∃ W : Nat -> Nat -> List V -> St -> Hp -> Prop,(∃ m,W 0 m [] σ0 H1) /\ ∀ i m ys σ' H',W i m ys σ' H' ->
  (J.stop i H' /\ ys.length <= sizeLine /\ ∀ D,H1 D = none -> H' D = none -> Q (.ref D) (upd H' D (.lst ys))) \/
  (J.go i H' /\ ys.length <= sizeLine /\ ∃ N : List V -> St -> Hp -> Prop,(∀ ys' σ2 H2,N ys' σ2 H2 -> ∃ m',m' < m /\ W (i + 1) m' ys' σ2 H2) /\
   ∀ x H2,J.yld i H' x H2 -> g x σ' H2 fun σ3 H3=>tt σ3 H3 fun b H4=>if b = true then te σ3 H4 fun y H5=>N (ys ++ [y]) σ3 H5 else N ys σ3 H4)
noncomputable def zow (k : Nat) (js : List Nat) (wi : TI) (g : TG) (tt : TT) (te : TE) : TE:=fun σ H Q=>wi σ H fun J H1=>zrt J g tt te (zfw k js σ) H1 Q
section
variable {X : Cx} {elt tg iter : Expr} {ifs : List Expr} {scope : Scope} {pos : Pos} {Nc : List Str} {k : Nat} {js : List Nat} {wi : TI} {g : TG} {tt : TT} {te : TE}
noncomputable abbrev zfk (us : List Value) (n : Nat) : Obj:={ cls:=.type "list",data:=.seq us.toArray n }
theorem zum {pins : List (Addr × Obj)} {σ : St} {H2 : Hp} {s2 : Shared} {it : Addr} {fp : List Addr} {tn : Nat -> Heap -> Prop} {J : It} {cl : List (Str × Addr)} {Q : VK} {RR : Value -> Addr -> Result -> Shared -> Prop} {E : Value -> Shared -> Prop}
  (hc : X.calm = true) (ck : zki scope X.env.scope.names X.N Nc k js)
  (hg : ∀ cl C ex s₂ H₂,PG (X.comp scope Nc cl C ex s₂ H₂) tg g) (ht : ∀ cl C ex s₂ H₂,PTs (X.comp scope Nc cl C ex s₂ H₂) ifs tt) (he : ∀ cl C ex s₂ H₂,PE (X.comp scope Nc cl C ex s₂ H₂) elt te)
  (a1 : ∀ x c,cl.lookup x = some c -> X.env.cells.lookup x = some c) (a2 : ∀ x,(x,NameKind.free) ∈ scope.names -> ∃ c,cl.lookup x = some c)
  (I2 : Inv X pins σ H2 s2) (T : zhs X.prog X.w X.K tg J fp it tn) (st2 : tn 0 s2.heap) (f2 : ∀ b ∈ fp,zdz X pins H2 b) (hW : zrt J g tt te (zfw k js σ) H2 Q)
  (hRR : ∀ (D C : Addr) (s' : Shared) (H' : Hp),Inv X pins σ H' s' -> (∃ m,s'.heap.Ns C m) -> zdz X pins H' C -> Q (.ref D) H' -> RR (.ref D) C (.ok .next) s') :
  wpAny (model X.prog X.w) X.A (newList []) (fun acc s₃=>wpAny (model X.prog X.w) X.A (newFunctionEnv scope X.env.globals cl [] X.env.qual none .none (some X.env)) (fun cenv s₄ =>
   codeAny (model X.prog X.w) X.A (.compStart (.ListComp elt [⟨tg,iter,ifs,0⟩] scope pos) 0 (.ref it) acc { cenv with scope:=relabel scope X.env }) (RR acc cenv.locals) s₄) E s₃) E s2:=by
 obtain ⟨W,⟨m0,w0⟩,turn⟩:=hW
 refine wpAny_newObj_type (wpAny_newFunctionEnv ck.nocell (by intro y hy; simp at hy) (fun h₁ hns₁ hsb₁=>?_) ck.kind)
 dsimp only at hns₁ hsb₁ ⊢
 generalize hP : s2.heap.push { cls:=.type "list",dict:=none,data:=.seq ([] : List Value).toArray } = P at hns₁ hsb₁ ⊢
 generalize hD : s2.heap.objs.size = D at hP hns₁ hsb₁ ⊢
 have hCs : P.objs.size = D + 1:=by rw [<- hP,Heap.size_push,hD]
 generalize hC : P.objs.size = C at hCs hns₁ hsb₁ ⊢
 have hDC' : D < C:=by rw [hCs]; exact Nat.lt_succ_self _
 have hDC : D ≠ C:=Nat.ne_of_lt hDC'
 have below : ∀ b o,s2.heap.get? b = some o -> b < D:=fun b o e=>hD ▸ Heap.lt_size e
 have old : ∀ b o,s2.heap.get? b = some o -> h₁.get? b = some o:=fun b o e=>by
  have hb:=below b o e
  exact hsb₁.extBut b o (Nat.ne_of_lt (Nat.lt_trans hb hDC')) (Heap.get?_push_of_some _ (hP ▸ Heap.get?_push_of_some _ e))
 have hDo : h₁.get? D = some (zfk [] 0):=hsb₁.extBut _ _ hDC (Heap.get?_push_of_some _ (by rw [<- hP,<- hD]; exact Heap.get?_push_size _ rfl))
 have Hn : ∀ b,D <= b -> H2 b = none:=fun b hb=>I2.hok.fresh (by omega)
 have fpo : ∀ b ∈ fp,b < D:=fun b hb=>by obtain ⟨o,e,_⟩:=T.obj 0 _ st2 b hb; exact below b o e
 have clo : ∀ x c,cl.lookup x = some c -> c < D:=fun x c e=>by
  obtain ⟨v,o,ho,_⟩:=I2.cell x c (a1 x c e)
  exact below c o ho
 have stko : ∀ b ∈ frs X.stack,b < D:=fun b hb=>by
  obtain ⟨_,o,ho,_⟩:=I2.stack.mem hb
  exact below b o ho
 let Y : Cx:=X.comp scope Nc cl C fp s2 H2
 have yk : Y.Ok:=by
  refine ⟨I2.ok.mod,ck.kind,I2.ok.glob,I2.ok.blt,?_,?_,?_,?_,I2.ok.hd,I2.ok.frames,.inl rfl,?_,I2.bs,?_,?_,?_,I2.stack,I2.stkFree⟩
  ·show s2.heap.objs.size <= C
   omega
  ·exact fun x y c h1 h2=>I2.ok.inj x y c (a1 x c h1) (a1 y c h2)
  ·intro x hx
   have : (x,NameKind.free) ∈ scope.names \/ (x,NameKind.cell) ∈ scope.names:=by
    rcases hx with hx | hx
    ·exact zny (.inl rfl) hx
    ·exact zny (.inr rfl) hx
   rcases this with z | z
   ·exact a2 x z
   ·exact absurd rfl (ck.nocell _ z)
  ·exact fun x c z=>nomatch z
  ·intro b hb
   refine ⟨?_,fun x c e=>?_⟩
   ·exact Nat.ne_of_lt (Nat.lt_trans (fpo b hb) hDC')
   ·exact (f2 b hb).2.2.2.2.1 x c (a1 x c e)
  ·exact Nat.le_trans I2.ok.bsz I2.sz
  ·intro b o e hb
   rcases (f2 b hb).2.2.2.1 with z | z
   ·exact I2.ok.noex b o e z
   ·exact absurd (Nat.lt_of_lt_of_le (Heap.lt_size e) (Nat.le_trans I2.ok.bsz z)) (Nat.lt_irrefl _)
  ·intro b hb z
   rcases List.mem_cons.mp (I2.stkSub b z) with e | e
   ·exact (f2 b hb).2.1 e
   ·exact (f2 b hb).2.2.1 e
 have I4 : Inv Y [(D,zfk [] 0)] (zfw k js σ) H2 { s2 with heap:=h₁,toks:=s2.toks + ([] : List (Str × Value)).length }:=by
  refine ⟨yk,rfl,I2.bare,Un.kept old,⟨_,hns₁,fun i x v e1 e2 e3=>?_⟩,fun x c e=>?_,Hn C (by omega),fun x c e=>I2.freeC x c (a1 x c e),fun p hp=>?_,I2.hok.kept old,?_⟩
  ·have e1 : Nc[i]? = some x:=e1
   unfold zfw at e2
   have hik : k <= i:=by
    rcases Nat.lt_or_ge i k with z | z
    ·rw [List.getElem?_append_left (by simpa using z),List.getElem?_replicate] at e2
     simp [z] at e2
    ·exact z
   rw [List.getElem?_append_right (by simpa using hik),List.getElem?_map] at e2
   simp only [List.length_replicate] at e2
   cases q : js[i - k]? with
   | none=>rw [q] at e2; cases e2
   | some j =>
    rw [q] at e2
    obtain ⟨x',q1,q2,q3⟩:=ck.at' _ _ q
    rw [show k + (i - k) = i by omega,e1] at q1
    cases q1
    have e2 : (σ[j]?).getD none = some v:=Option.some.inj e2
    have e2' : σ[j]? = some (some v):=by
     cases z : σ[j]? with
     | none=>rw [z] at e2; cases e2
     | some y=>rw [z] at e2; rw [show y = some v from e2]
    have hmem : (x,NameKind.free) ∈ scope.names:=by
     have : ∀ l : List (Str × NameKind),l.lookup x = some .free -> (x,NameKind.free) ∈ l:=by
      intro l
      induction l with
      | nil=>intro z; cases z
      | cons a l ih =>
       intro z
       obtain ⟨n,kk⟩:=a
       rw [List.lookup_cons] at z
       cases hb : x == n with
       | true =>
        rw [hb] at z
        cases z
        rw [eq_of_beq hb]; exact List.mem_cons_self
       | false=>rw [hb] at z; exact List.mem_cons_of_mem _ (ih z)
     exact this _ q3
    have hout : X.env.kindOf x = some .cell \/ X.env.kindOf x = some .free:=ck.free _ hmem rfl
    obtain ⟨m,hn,hl⟩:=I2.loc
    have vis : Vis X.env.scope x:=by
     rcases hout with z | z
     ·exact .inr (.inl z)
     ·exact .inr (.inr z)
    obtain ⟨u,r,l⟩:=hl j x v q2 e2' vis
    refine ⟨u,r,.inr ⟨zog q3,?_⟩⟩
    rcases l with ⟨z,_⟩ | ⟨_,c,hcl,hcell⟩
    ·rcases hout with y | y <;> (rw [y] at z; cases z)
    ·obtain ⟨c',hc'⟩:=a2 x hmem
     have:=a1 x c' hc'
     rw [hcl] at this
     cases this
     exact ⟨c,hc',hcell.keeps old⟩
  ·obtain ⟨v,z⟩:=I2.cell x c (a1 x c e)
   exact ⟨v,z.keeps old⟩
  ·have hp : p ∈ [(D,zfk [] 0)]:=(List.mem_append.mp hp).elim (fun z=>nomatch (show p ∈ ([] : List (Addr × Obj)) from z)) id
   have hp : p = (D,zfk [] 0):=List.mem_singleton.mp hp
   subst hp
   refine ⟨hDo,Hn D (Nat.le_refl _),hDC,fun z=>?_,fun v z=>by cases z⟩
   exact absurd (stko D z) (Nat.lt_irrefl _)
  ·show (zfw k js σ).length = Nc.length
   rw [ck.len]
   simp [zfw]
 have st1 : tn 0 h₁:=T.keep 0 _ _ st2 fun b _ o e=>old b o e
 have fpY : ∀ {H' : Hp} {p : List (Addr × Obj)},(∀ q ∈ p,q.1 = D) -> (∀ b ∈ fp,H' b = none) -> ∀ b ∈ fp,zdz Y p H' b:=fun {H' p} hp hn b hb=>by
  refine ⟨hn b hb,(yk.exf b hb).1,yk.exfs b hb,.inl hb,fun x c e=>(yk.exf b hb).2 x c e,fun q hq=>?_⟩
  have hq : q ∈ p:=(List.mem_append.mp hq).elim (fun z=>nomatch (show q ∈ ([] : List (Addr × Obj)) from z)) id
  rw [hp q hq]
  exact Nat.ne_of_gt (fpo b hb)
 have loop : codeAny (model X.prog X.w) X.A (.compLoop (.ListComp elt [⟨tg,iter,ifs,0⟩] scope pos) 0 (.ref it) (.ref D) (compEnvC scope cl C X.env)) (RR (.ref D) C) { s2 with heap:=h₁,toks:=s2.toks + ([] : List (Str × Value)).length }:=by
  refine zws (fun n s'=>∃ i ys us nn σ' H',Inv Y [(D,zfk us nn)] σ' H' s' /\ tn i s'.heap /\ (∀ b ∈ fp,H' b = none) /\ zas ys us /\ W i n ys σ' H') ?_ m0
   ⟨0,[],[],0,zfw k js σ,H2,I4,st1,fun b hb=>(f2 b hb).1,.nil,w0⟩
  rintro n s3 ⟨i,ys,us,nn,σ3,H3,I3,st3,fr3,rv,w3⟩
  have one : ∀ q ∈ [(D,zfk us nn)],q.1 = D:=fun q hq=>by
   have : q = (D,zfk us nn):=by simpa using hq
   rw [this]
  rcases turn i n ys σ3 H3 w3 with ⟨stop,hz,qn⟩ | ⟨go,hz,N,hN,step⟩
  ·refine thn (T.done Y rfl rfl rfl hc i _ s3 σ3 H3 E00 I3 (fpY one fr3) st3 stop) fun r s4 ⟨hr,I5⟩=>?_
   subst hr
   show RR (.ref D) C (.ok .next) s4
   obtain ⟨pD,nD,_,_,_⟩:=I5.pin (D,zfk us nn) (by simp)
   have bs : Un (frs X.stack) fp H2 H3 s2.heap s4.heap:=I5.base
   have h2D : ∀ b o,H2 b = some o -> b ≠ D:=fun b o e z=>by rw [z,Hn D (Nat.le_refl _)] at e; cases e
   have I6 : Inv X pins σ (upd H3 D (.lst ys)) s4:=by
    refine I2.call' (ch:=fp) I5.os ⟨bs.keep,bs.slot,fun b o e n hx=>?_,bs.there,fun b xs e=>?_,fun b o u e=>?_,fun b ps e=>?_⟩ (fun b u e=>?_) I5.bare fun b hb=>?_
    ·rw [za2 (Nat.ne_of_lt (below b o e))]
     exact bs.free b o e n hx
    ·rw [za2 (h2D b _ e)]; exact bs.tups b xs e
    ·rw [za2 (h2D b _ e)]; exact bs.frzs b o u e
    ·rw [za2 (h2D b _ e)]; exact bs.tbls b ps e
    ·by_cases hb : b = D
     ·subst hb
      rw [zbm] at e
      cases e
      exact ⟨hz,us,nn,rv,pD⟩
     ·rw [za2 hb] at e
      exact (I5.hok b u e).stay (fun c v _ q=>q) (fun c q=>by rw [za2 (zc8 q nD)]; exact q) fun c xs q=>by rw [za2 (zc8 q nD)]; exact q
    ·obtain ⟨_,f1,_,f3,f4,f5⟩:=f2 b hb
     exact ⟨f3,f1,f4,f5⟩
   obtain ⟨m,hn,_⟩:=I5.loc
   refine hRR D C s4 _ I6 ⟨m,hn⟩ (I2.fpOk (by omega) ?_) (qn D (Hn D (Nat.le_refl _)) nD)
   rw [za2 hDC.symm]
   exact I5.free
  ·refine thn (T.item Y rfl rfl rfl hc i _ s3 σ3 H3 E00 I3 (fpY one fr3) st3 go) fun r s4 ⟨u,hr,h4⟩=>?_
   subst hr
   refine thn h4 fun _ s5 ⟨x,H5,I5,r5,y5,st5,fr5⟩=>?_
   have I5':=I5.pinned (fpY one fr5) (T.obj _ _ st5)
   refine thn (hg cl C fp s2 H2 _ s5 σ3 H5 x u _ I5' r5 (step x H5 y5)) fun _ s6 ⟨σ6,H6,I6,q6⟩=>?_
   refine thn (ht cl C fp s2 H2 _ s6 σ6 H6 _ I6 q6) fun b s7 ⟨H7,I7,q7⟩=>?_
   have kp : ∀ {H8 : Hp} {s8 : Shared},Inv Y ([(D,zfk us nn)] ++ zk5 fp s5.heap) σ6 H8 s8 -> tn (i + 1) s8.heap /\ (∀ b ∈ fp,H8 b = none):=fun {H8 s8} I8=>by
    refine ⟨T.keep _ _ _ st5 fun b hb o e=>(I8.pin (b,o) (List.mem_append_right _ (List.mem_append_right _ (zm6 hb e)))).1,fun b hb=>?_⟩
    obtain ⟨o,e,d⟩:=T.obj _ _ st5 b hb
    exact (I8.pin (b,o) (List.mem_append_right _ (List.mem_append_right _ (zm6 hb e)))).2.1
   cases b with
   | false =>
    rw [if_neg Bool.false_ne_true] at q7 ⊢
    obtain ⟨m',hm,w7⟩:=hN _ _ _ q7
    obtain ⟨st7,fr7⟩:=kp I7
    exact ⟨m',hm,i + 1,ys,us,nn,σ6,H7,I7.unpinned,st7,fr7,rv,w7⟩
   | true =>
    rw [if_pos rfl] at q7 ⊢
    refine thn (he cl C fp s2 H2 _ s7 σ6 H7 _ I7 q7) fun uy s8 ⟨y,H8,I8,r8,q8⟩=>?_
    obtain ⟨m',hm,w8⟩:=hN _ _ _ q8
    obtain ⟨st8,fr8⟩:=kp I8
    obtain ⟨pD,nD,pC,pF,_⟩:=I8.pin (D,zfk us nn) (by simp)
    have hl:=rv.length
    refine wpAny_list_append_plain (items:=us.toArray) ⟨nn,pD⟩ (fun h' hl' sb=>?_) (by simp only [List.size_toArray] <;> omega)
    obtain ⟨n',e'⟩:=hl'
    have I8n : Inv Y [] σ6 H8 s8:=I8.pins_of (fun _ z=>nomatch z)
    have I9 : Inv Y [] σ6 H8 { s8 with heap:=h' }:=I8n.turned (t':=s8.toks) (it:=D) (fun b o hb e=>(sb.2 b hb).trans e) nD pC (.inr (by show s2.heap.objs.size <= D; omega)) (fun x c e=>Nat.ne_of_lt (clo x c e)) (fun p hp=>nomatch hp)
    refine ⟨m',hm,i + 1,ys ++ [y],us ++ [uy],n',σ6,H8,I9.pins_of (fun p hp=>?_),?_,fr8,rv.append (.cons r8 .nil),w8⟩
    ·have hp : p = (D,zfk (us ++ [uy]) n'):=by simpa using hp
     subst hp
     refine ⟨?_,nD,pC,pF,fun v z=>by cases z⟩
     have e2 : h'.get? D = some { cls:=.type "list",data:=.seq (us.toArray.push uy) n' }:=e'
     show h'.get? D = some { cls:=.type "list",data:=.seq (us ++ [uy]).toArray n' }
     rw [e2]
     simp
    ·exact T.keep _ _ _ st8 fun b hb o e=>(sb.2 b (Nat.ne_of_lt (fpo b hb))).trans e
 exact codeAny_compStart_list loop (T.self X.A 0 _ _ _ st1 loop)
theorem z3y (k : Nat) (js : List Nat) (Nc : List Str) (hc : X.calm = true) (hi : PI X tg iter wi)
  (hg : ∀ cl C ex s₂ H₂,PG (X.comp scope Nc cl C ex s₂ H₂) tg g) (ht : ∀ cl C ex s₂ H₂,PTs (X.comp scope Nc cl C ex s₂ H₂) ifs tt) (he : ∀ cl C ex s₂ H₂,PE (X.comp scope Nc cl C ex s₂ H₂) elt te)
  (ck : zhr scope X.env.scope.names X.N Nc k js = true:=by rfl) (hs : ∀ x,foldedSetIterable iter X.env x = pure x:=by intro _; rfl) :
  PE X (.ListComp elt [⟨tg,iter,ifs,0⟩] scope pos) (zow k js wi g tt te):=by
 intro pins s σ H Q I h
 have ck:=zki.of ck
 rw [eval_ListComp]
 obtain ⟨cl,hcl,a1,a2⟩:=zqt (scope:=scope) (env:=X.env) fun x hx e=>I.ok.has x.1 (ck.free x hx e)
 refine wpAny_comprehension_free (use:=none) rfl hs hcl ck.kind ck.loc (thn (hi pins s σ H _ I h) fun v s1 h1=>thn h1 fun itv s2 h2=>?_)
 obtain ⟨it,fp,tn,J,H2,e,I2,T,st2,f2,hW⟩:=h2
 subst e
 refine zum (RR:=fun acc C=>compPost (model X.prog X.w) X.A X.xe none (EP X pins σ Q) acc C) hc ck hg ht he a1 a2 I2 T st2 f2 hW fun D C s' H' I' ⟨m,hn⟩ fC q=>?_
 obtain ⟨f0,f1,_,f3,f4,f5⟩:=fC
 exact ⟨m,hn,fun h' hs'=>⟨.ref D,H',I'.turned (t':=s'.toks) (fun b o hb e=>(hs'.2 b hb).trans e) f0 f1 f3 f4 f5,rfl,q⟩⟩
theorem zu2 {i : Nat} {x : Str} {pos' spos : Pos} (k : Nat) (js : List Nat) (Nc : List Str) (hN : X.N.Nodup) (hi' : X.N[i]? = some x) (hx : Loc X.env.scope x) (hc : X.calm = true) (hi : PI X tg iter wi)
  (hg : ∀ cl C ex s₂ H₂,PG (X.comp scope Nc cl C ex s₂ H₂) tg g) (ht : ∀ cl C ex s₂ H₂,PTs (X.comp scope Nc cl C ex s₂ H₂) ifs tt) (he : ∀ cl C ex s₂ H₂,PE (X.comp scope Nc cl C ex s₂ H₂) elt te)
  (hsw : swapsWith (.ListComp elt [⟨tg,iter,ifs,0⟩] scope pos) (some (.Name x pos')) spos.line X.env = pure true:=by rfl)
  (ck : zhr scope X.env.scope.names X.N Nc k js = true:=by rfl) (hs : ∀ x,foldedSetIterable iter X.env x = pure x:=by intro _; rfl)
  (hf : X.fn x = true \/ X.env.scope.names.lookup x = some .local:=by first | exact .inl rfl | exact .inr rfl | assumption) :
  PS X (.Assign [.Name x pos'] (.ListComp elt [⟨tg,iter,ifs,0⟩] scope pos) spos) (zh5 (zow k js wi g tt te) (zhb i)):=by
 intro pins s σ H D I h
 have ck:=zki.of ck
 rw [exec_Assign_Name_used _ _ _ _ hsw]
 refine wpAny_bind (wpAny_standAt (wpAny_bind ?_))
 show wpAny _ X.A (do let _ <- comprehension (.ListComp elt [⟨tg,iter,ifs,0⟩] scope pos) scope X.env _ (newList []) false (eval iter X.env) (some (assign (.Name x pos') X.env))) _ _ s
 obtain ⟨cl,hcl,a1,a2⟩:=zqt (scope:=scope) (env:=X.env) fun x hx e=>I.ok.has x.1 (ck.free x hx e)
 refine wpAny_bind (wpAny_mono (wpAny_comprehension_free (use:=some (assign (.Name x pos') X.env)) (Q:=fun _ s'=>SP X pins D .next s') rfl hs hcl ck.kind ck.loc
  (thn (hi pins s σ H _ I h) fun v s1 h1=>thn h1 fun itv s2 h2=>?_)) (fun _ s' hq=>wpAny_pure (wpAny_pure hq)) fun _ _ e=>e)
 obtain ⟨it,fp,tn,J,H2,e,I2,T,st2,f2,hW⟩:=h2
 subst e
 refine zum (RR:=fun acc C=>compPost (model X.prog X.w) X.A X.xe (some (assign (.Name x pos') X.env)) (fun _ s'=>SP X pins D .next s') acc C) hc ck hg ht he a1 a2 I2 T st2 f2 hW fun D' C s' H' I' ⟨m,hn⟩ fC q=>?_
 obtain ⟨f0,f1,f2',f3,f4,f5⟩:=fC
 show wpAny _ X.A (assign (.Name x pos') X.env (.ref D')) _ _ _
 refine wpAny_assign_Name (zt2 (v:=.ref D') I' hN hi' hx rfl (fun s'' I'' ⟨a,sb,ha⟩=>?_) hf)
 have hCa : C ≠ a:=by
  rcases ha with z | z
  ·rw [z]; exact f1
  ·exact (f4 x a z).symm
 exact ⟨m,hn.sameBut sb hCa,fun h' hs'=>⟨_,H',I''.turned (t':=s''.toks) (fun b o hb e=>(hs'.2 b hb).trans e) f0 f1 f3 f4 f5,q⟩⟩
end
section
variable {K : PySem.W.Frag} {g : TG} {tt : TT} {te : TE} {σ0 : St} {H1 : Hp} {Q : VK}
end
section
variable {X : Cx}
theorem zrv : OpR X (compareOp .Is) (fun x y H Q=>∃ b,y = .bl b /\ (x = .non \/ ∃ c,x = .bl c) /\ Q (.bl (decide (x = .bl b))) H):=by
 intro pins s σ H x y v u Q I rx ry h
 obtain ⟨b,rfl,hx,q⟩:=h
 cases ry
 rcases hx with rfl | ⟨c,rfl⟩
 ·cases rx
  exact wpAny_is_plain rfl (zb1 I q (by cases b <;> rfl))
 ·cases rx
  exact wpAny_is_plain rfl (zb1 I q (by cases b <;> cases c <;> rfl))
theorem zui : OpR X (compareOp .IsNot) (fun x y H Q=>∃ b,y = .bl b /\ (x = .non \/ ∃ c,x = .bl c) /\ Q (.bl (!decide (x = .bl b))) H):=by
 intro pins s σ H x y v u Q I rx ry h
 obtain ⟨b,rfl,hx,q⟩:=h
 cases ry
 rcases hx with rfl | ⟨c,rfl⟩
 ·cases rx
  exact wpAny_isNot_plain rfl (zb1 I q (by cases b <;> rfl))
 ·cases rx
  exact wpAny_isNot_plain rfl (zb1 I q (by cases b <;> cases c <;> rfl))
theorem z4j (hc : X.calm = true) : zdp X (.builtin "sum") (fun xs H Q=>∃ (p : Addr) (ns : List Int),xs = [.ref p] /\ SqL X.K H p (ns.map V.int) /\ Q (.int ns.sum) H):=by
 intro pins s σ H xs us Q I r h
 obtain ⟨p,ns,rfl,hq,q⟩:=h
 obtain ⟨u,rfl,rx⟩:=zh2 r
 cases rx
 obtain ⟨its,r',pl,hz⟩:=I.list hq
 have hi : IntsAre its ns:=z48 r'
 obtain ⟨xs,e⟩:=hi.allInts.items
 refine sum_intListG (I.ok.hd hc) (xs:=xs) (by rw [<- e]; exact pl.isList) fun h' tk t' hk=>?_
 have es : preSum (numAt xs) xs.size = ns.sum:=by
  rw [preSum_eq,List.take_of_length_le (by simp),<- nums_intItems,<- e]
  show (numsOf its).sum = ns.sum
  rw [hi.numsOf]
 rw [es]
 exact ⟨.int ns.sum,H,I.kept hk,⟨_,rfl⟩,q⟩
theorem z6k : zdp X (.builtin "isinstance") (fun xs H Q=>∃ x T t b,xs = [x,.ty T] /\ zed X.K H x t /\ PySem.W.kitOne X.K t (.type T) = some b /\ Q (.bl b) H):=by
 intro pins s σ H xs us Q I r h
 obtain ⟨x,T,t,b,rfl,ty,e,q⟩:=h
 obtain ⟨u,w',rfl,rx,rc⟩:=zy3 r
 cases (show w' = Value.type T from rc)
 exact z5e I rx ty e fun tk=>⟨.bl b,H,I.tok tk,rfl,q⟩
theorem PE.or {e : Expr} {t t' : TE} (h : PE X e t) (h' : PE X e t') : PE X e (fun σ H Q=>t σ H Q \/ t' σ H Q):=by
 intro pins s σ H Q I q
 rcases q with q | q
 ·exact h pins s σ H Q I q
 ·exact h' pins s σ H Q I q
end
theorem Paired.at' {α β : Type} {F : α -> β -> Prop} : ∀ {l₁ : List α} {l₂ : List β} {i : Nat} {a : α} {b : β},Paired F l₁ l₂ -> l₁[i]? = some a -> l₂[i]? = some b -> F a b
 | _,_,_,_,_,.nil,e,_=>by simp at e
 | _,_,0,_,_,.cons r _,e,e'=>by simp at e e'; subst e e'; exact r
 | _,_,i + 1,a,b,.cons _ t,e,e'=>Paired.at' (i:=i) t (by simpa using e) (by simpa using e')
theorem zas.at' {xs : List V} {us : List Value} {i : Nat} {u : Value} (r : zas xs us) (e : us[i]? = some u) : ∃ x,xs[i]? = some x /\ zaw x u:=by
 have hl:=r.length
 have hi : i < xs.length:=by have:=(List.getElem?_eq_some_iff.mp e).1; omega
 refine ⟨xs[i],by simp [hi],?_⟩
 obtain ⟨u',e',r'⟩:=r.get (i:=i) (x:=xs[i]) (by simp [hi])
 rw [e] at e'; cases e'; exact r'
section
variable {X : Cx} {pins : List (Addr × Obj)} {σ : St} {H : Hp} {s : Shared}
end
theorem zju {env : Env} {k' : NameKind} (hk : k' ≠ .free) : ∀ {names : List (Str × NameKind)} {x : Str},names.lookup x = some k' ->
  (names.map fun (n,k)=>if (k == NameKind.free && env.scope.kind == .function && env.kindOf n == some .cell) then (n,NameKind.cell) else (n,k)).lookup x = some k'
 | [],_,h=>by simp at h
 | (n,k) :: r,x,h=>by
  have ih:=@zju env k' hk r x
  rw [List.map_cons]
  show List.lookup x ((if (k == NameKind.free && env.scope.kind == .function && env.kindOf n == some .cell) = true then (n,NameKind.cell) else (n,k)) :: _) = _
  rw [List.lookup_cons] at h
  cases hx : x == n with
  | true =>
   rw [hx] at h
   have e : k = k':=Option.some.inj h
   subst e
   have hf : (k == NameKind.free) = false:=by simpa using hk
   rw [hf,Bool.false_and,Bool.false_and,if_neg Bool.false_ne_true,List.lookup_cons,hx]
  | false =>
   rw [hx] at h
   split
   ·rw [List.lookup_cons,hx]; exact ih h
   ·rw [List.lookup_cons,hx]; exact ih h
theorem zxc {env : Env} {scope : Scope} {x : Str} (h : Vis scope x) : Vis (relabel scope env) x:=by
 rcases h with h | h | h
 ·exact .inl (zju (by decide) h)
 ·exact .inr (.inl (zju (by decide) h))
 ·rcases zog (env:=env) h with z | z
  ·exact .inr (.inl z)
  ·exact .inr (.inr z)
section
variable {X : Cx} {scope : Scope} {Nc : List Str} {cl : List (Str × Addr)} {C : Addr} {ex : List Addr} {s₂ : Shared} {H₂ : Hp}
theorem pvc (i : Nat) {x : Str} {pos : Pos} (hN : Nc[i]? = some x:=by rfl) (hv : Vis scope x:=by first | exact Or.inl rfl | exact Or.inr (Or.inl rfl) | exact Or.inr (Or.inr rfl)) (hd : (x == ("__debug__" : Str)) = false:=by decide)
  (hcd : (x == ("__classdict__" : Str)) = false:=by decide) : PE (X.comp scope Nc cl C ex s₂ H₂) (.Name x pos) (zd8 i):=zhj hN (zxc hv) hd hcd
theorem pgc (i : Nat) {x : Str} {pos : Pos} (hN : Nc.Nodup:=by decide +kernel) (hi : Nc[i]? = some x:=by rfl) (hl : scope.names.lookup x = some .local:=by rfl) : PG (X.comp scope Nc cl C ex s₂ H₂) (.Name x pos) (zhb i) :=
 zu9 (X:=X.comp scope Nc cl C ex s₂ H₂) hN hi (.inl (zju (by decide) hl)) (.inr (zju (by decide) hl))
theorem glc {x : Str} (h : scope.names.lookup x = some .globalImplicit) : Gl (X.comp scope Nc cl C ex s₂ H₂) x:=zju (env:=X.env) (by decide) h
end
theorem zcg {H : Hp} {p : Addr} {o : HO} (h : H p = none) : zau H (upd H p o):=fun b u e=>by rw [za2 (zc8 e h)]; exact e
theorem zau.tup {K : PySem.W.Frag} {H H' : Hp} {a : Addr} {xs : List V} (e : zau H H') (h : SqT K H a xs) : SqT K H' a xs:=by
 rcases h with (h | ⟨o,h⟩) | h
 ·exact .inl (.inl (e _ _ h))
 ·exact .inl (.inr ⟨o,e _ _ h⟩)
 ·exact .inr h
noncomputable def zfi (p : Addr) (H H' : Hp) : Prop:=∀ b o,H b = some o -> b ≠ p -> H' b = some o
theorem zfi.refl (p : Addr) (H : Hp) : zfi p H H:=fun _ _ h _=>h
theorem zfi.trans {p : Addr} {H H1 H2 : Hp} (a : zfi p H H1) (b : zfi p H1 H2) : zfi p H H2:=fun c o h n=>b c o (a c o h n) n
theorem zau.grow {p : Addr} {H H' : Hp} (a : zau H H') : zfi p H H':=fun c o h _=>a c o h
theorem zfi.same {p : Addr} {H H' : Hp} (a : zfi p H H') (h : H p = none) : zau H H':=fun c o e=>a c o e (zc8 e h)
theorem zfi.seq {K : PySem.W.Frag} {p : Addr} {H H' : Hp} {a : Addr} {xs : List V} (e : zfi p H H') (n : a ≠ p) (h : SqL K H a xs) : SqL K H' a xs:=by
 rcases h with (h | ⟨o,h⟩) | h
 ·exact .inl (.inl (e _ _ h n))
 ·exact .inl (.inr ⟨o,e _ _ h n⟩)
 ·exact .inr h
noncomputable def zkr (K : PySem.W.Frag) (H : Hp) (L : Addr) (its : List (Int × Int)) : Prop :=
 ∃ zs : List (Addr × Int × Int),SqL K H L (zs.map fun z=>V.ref z.1) /\ (∀ z ∈ zs,SqT K H z.1 [.int z.2.1,.int z.2.2]) /\ its = zs.map (·.2) /\ zs.length <= 1000
theorem zau.items {K : PySem.W.Frag} {H H' : Hp} {L : Addr} {its : List (Int × Int)} (e : zau H H') (h : zkr K H L its) : zkr K H' L its:=by
 obtain ⟨zs,h1,h2,h3,h4⟩:=h
 exact ⟨zs,e.seq h1,fun z hz=>e.tup (h2 z hz),h3,h4⟩
noncomputable def InR (n : Nat) (its : List (Int × Int)) : Prop:=∀ z ∈ its,0 <= z.1 /\ z.1 < (n : Int)
noncomputable def ze8 (p : Option Bool -> Bool) (es : List (Option Bool)) (its : List (Int × Int)) : Int:=((its.filter fun z=>p (es.getD z.1.toNat none)).map (·.2)).sum
inductive Prt where
 | inn (t : Int) | out (t : Int) | least (k : Int) (its : List (Int × Int)) | most (k : Int) (its : List (Int × Int))
noncomputable def Prt.InR (n : Nat) : Prt -> Prop
 | .inn t=>0 <= t /\ t < (n : Int)
 | .out t=>0 <= t /\ t < (n : Int)
 | .least _ its=>L2.InR n its
 | .most _ its=>L2.InR n its
noncomputable def zyo (K : PySem.W.Frag) (H : Hp) (p : Addr) : Prt -> Prop
 | .inn t=>SqT K H p [.str "in",.int t]
 | .out t=>SqT K H p [.str "out",.int t]
 | .least k its=>∃ L,SqT K H p [.str "least",.int k,.ref L] /\ zkr K H L its
 | .most k its=>∃ L,SqT K H p [.str "most",.int k,.ref L] /\ zkr K H L its
noncomputable def bs (l : List Bool) : List (Option Bool):=l.map some
noncomputable def Prt.holds (rs ws : List Bool) : Prt -> Bool
 | .inn t=>(rs.getD t.toNat false)
 | .out t=>!(ws.getD t.toNat false)
 | .least k its=>decide (k <= ze8 (· == some true) (bs rs) its)
 | .most k its=>decide (ze8 (· == some true) (bs ws) its <= k)
section
variable {X : Cx} {pins : List (Addr × Obj)} {σ : St} {H : Hp} {s : Shared} {h' : Heap}
theorem Inv.turnedMany {t' : Nat} {ch : List Addr} (I : Inv X pins σ H s) (k : ∀ b o,b ∉ ch -> s.heap.get? b = some o -> h'.get? b = some o) (hf : ∀ b ∈ ch,zdz X pins H b) : Inv X pins σ H { s with heap:=h',toks:=t' }:=by
 refine I.step (g':=s.gens) (d':=s.drawn) (ch:=ch) (fun b hb=>?_) (fun b o _ _ hc e _=>k b o hc e) (fun b o _ _ hc e _=>⟨o.slots,k b o hc e⟩) (fun _ _ _ _ n=>n)
  (fun b o hc e=>⟨o,k b o hc e⟩) (fun _ _ e=>e) (fun _ _ _ e=>e) (fun b ps e=>⟨#[],by rw [e]; simp⟩) (fun m hm=>?_) (fun b u e=>?_) I.bare
 ·obtain ⟨_,f1,_,f3,f4,f5⟩:=hf b hb
  exact ⟨f3,f1,f4,f5⟩
 ·obtain ⟨o,es,ep,ho,r⟩:=hm
  exact ⟨o,es,ep,k _ o (fun z=>(hf _ z).2.1 rfl) ho,r⟩
 ·refine (I.hok b u e).stay (fun c v hc q=>k c v (fun z=>?_) q) (fun _ q=>q) fun _ _ q=>q
  have hn:=(hf c z).1
  rcases hc with y | y
  ·rw [y,e] at hn; cases hn
  ·rw [hn] at y; cases y
theorem Inv.track {p : Addr} {o : HO} (I : Inv X pins σ H s) (f : zdz X pins H p) (ob : zcl X.prog X.w (upd H p o) s.heap p o) : Inv X pins σ (upd H p o) s:=by
 obtain ⟨f0,f1,f2,f3,f4,f5⟩:=f
 have ne : ∀ b u,H b = some u -> b ≠ p:=fun b u e=>zc8 e f0
 have one : ∀ b : Addr,b ∉ [p] -> b ≠ p:=fun b hb z=>hb (by rw [z]; simp)
 refine I.step (g':=s.gens) (d':=s.drawn) (t':=s.toks) (h':=s.heap) (ch:=[p]) (fun b hb=>?_) (fun b o _ _ hc e _=>e) (fun b o _ _ hc e _=>⟨o.slots,e⟩) (fun b o hc e n=>?_)
  (fun b o hc e=>⟨o,e⟩) (fun b xs e=>?_) (fun b o u e=>?_) (fun b ps e=>⟨#[],?_⟩) (fun m hm=>hm) (fun b u e=>?_) I.bare
 ·have e : b = p:=by simpa using hb
  subst e
  exact ⟨f3,f1,f4,f5⟩
 ·rw [za2 (one b hc)]; exact n
 ·rw [za2 (ne b _ e)]; exact e
 ·rw [za2 (ne b _ e)]; exact e
 ·rw [za2 (ne b _ e),e]; simp
 ·by_cases hb : b = p
  ·subst hb
   rw [zbm] at e
   cases e
   exact ob
  ·rw [za2 hb] at e
   exact (I.hok b u e).stay (fun c v _ q=>q) (fun c q=>by rw [za2 (ne c _ q)]; exact q) fun c xs q=>by rw [za2 (ne c _ q)]; exact q
end
section
variable {X : Cx} {elts : List Expr} {kx : Nat} {tpos : Pos}
end
noncomputable def zdx (p : Int -> Bool) (its : List (Int × Int)) : Int:=((its.filter fun z=>p z.1).map (·.2)).sum
theorem zu5 (p : Option Bool -> Bool) (es : List (Option Bool)) (its : List (Int × Int)) : ze8 p es its = zdx (fun t=>p (es.getD t.toNat none)) its:=rfl
theorem z1i (p q : Int -> Bool) (its : List (Int × Int)) : zdx p (its.filter fun z=>q z.1) = zdx (fun t=>p t && q t) its:=by
 unfold zdx
 rw [List.filter_filter]
noncomputable def Prt.sure (es : List (Option Bool)) : Prt -> Bool
 | .inn t=>es.getD t.toNat none == some true
 | .out t=>es.getD t.toNat none == some false
 | .least k its=>decide (k <= ze8 (· == some true) es its)
 | .most k its=>decide (ze8 (fun e=>!(e == some false)) es its <= k)
noncomputable def Prt.lost (es : List (Option Bool)) (ws : List Bool) : Prt -> Bool
 | .inn t=>(es.getD t.toNat none == some false) || ws.getD t.toNat false
 | .out t=>es.getD t.toNat none == some true
 | .least k its=>decide (zdx (fun t=>!(es.getD t.toNat none == some false) && !(ws.getD t.toNat false)) its < k)
 | .most k its=>decide (k < ze8 (· == some true) es its)
noncomputable def zlh (L : Addr) (its : List (Int × Int)) (vs : List V) : Prt -> Prop
 | .inn t=>vs = [.str "in",.int t]
 | .out t=>vs = [.str "out",.int t]
 | .least k i=>vs = [.str "least",.int k,.ref L] /\ i = its
 | .most k i=>vs = [.str "most",.int k,.ref L] /\ i = its
theorem zlh.at {K : PySem.W.Frag} {H : Hp} {L p : Addr} {its : List (Int × Int)} {vs : List V} {r : Prt} (t : zlh L its vs r) (hp : H p = some (.tup vs)) (hL : zkr K H L its) : zyo K H p r:=by
 cases r with
 | inn t'=>cases t; exact SqT.of hp
 | out t'=>cases t; exact SqT.of hp
 | least k i=>obtain ⟨rfl,rfl⟩:=t; exact ⟨L,SqT.of hp,hL⟩
 | most k i=>obtain ⟨rfl,rfl⟩:=t; exact ⟨L,SqT.of hp,hL⟩
structure zp1 (Hb : Hp) (r L : Addr) (its : List (Int × Int)) (n : Nat) (rows : List (Addr × List V × Prt)) (H : Hp) : Prop where
 same : zau Hb H
 lst : H r = some (.lst (rows.map fun z=>V.ref z.1))
 all : ∀ z ∈ rows,H z.1 = some (.tup z.2.1) /\ zlh L its z.2.1 z.2.2 /\ z.2.2.InR n
theorem zp1.more {Hb H : Hp} {r L : Addr} {its : List (Int × Int)} {n : Nat} {rows : List (Addr × List V × Prt)} (R : zp1 Hb r L its n rows H) (hr : Hb r = none) {p : Addr} (hp : H p = none) {vs : List V} {pr : Prt} (ht : zlh L its vs pr) (hin : pr.InR n) :
  (upd H p (.tup vs)) r = some (.lst (rows.map fun z=>V.ref z.1)) /\ zp1 Hb r L its n (rows ++ [(p,vs,pr)]) (upd (upd H p (.tup vs)) r (.lst (rows.map (fun z=>V.ref z.1) ++ [.ref p]))) /\
  (∀ b o,H b = some o -> b ≠ r -> (upd (upd H p (.tup vs)) r (.lst (rows.map (fun z=>V.ref z.1) ++ [.ref p]))) b = some o):=by
 have nrp : r ≠ p:=zc8 R.lst hp
 refine ⟨by rw [za2 nrp]; exact R.lst,⟨fun b o e=>?_,?_,fun z hz'=>?_⟩,fun b o e nb=>?_⟩
 ·rw [za2 (zc8 e hr),za2 (zc8 (R.same _ _ e) hp)]
  exact R.same _ _ e
 ·rw [zbm,List.map_append]
  rfl
 ·rcases List.mem_append.mp hz' with hz' | hz'
  ·obtain ⟨h1,h2⟩:=R.all z hz'
   refine ⟨?_,h2⟩
   rw [za2 (zsd h1 R.lst (by intro e; cases e)),za2 (zc8 h1 hp)]
   exact h1
  ·have : z = (p,vs,pr):=by simpa using hz'
   subst this
   refine ⟨?_,ht,hin⟩
   rw [za2 nrp.symm,zbm]
 ·rw [za2 nb,za2 (zc8 e hp)]
  exact e
inductive D where
 | non
 | bl (b : Bool)
 | int (i : Int)
 | str (x : Str)
 | lst (xs : List D)
 | tup (xs : List D)
 | kl (xs : List D)
 | kt (xs : List D)
 | dic (ks : List Key) (xs : List D)
 | ins (c : Str) (ns : List Str) (xs : List D)
 | kd (ks : List Key) (xs : List D)
 deriving Inhabited
set_option genInjectivity false in
structure Gc where
 K : PySem.W.Frag
 cl : Str -> Addr
mutual
noncomputable def Rep (G : Gc) (H : Hp) : D -> V -> Prop
 | .non,v=>v = .non
 | .bl b,v=>v = .bl b
 | .int i,v=>v = .int i
 | .str x,v=>v = .str x
 | .lst ds,v=>∃ a vs,v = .ref a /\ H a = some (.lst vs) /\ zai G H ds vs
 | .tup ds,v=>∃ a vs,v = .ref a /\ H a = some (.tup vs) /\ zai G H ds vs
 | .kl ds,v=>∃ a vs,v = .ref a /\ SqL G.K H a vs /\ zai G H ds vs
 | .kt ds,v=>∃ a vs,v = .ref a /\ SqT G.K H a vs /\ zai G H ds vs
 | .dic ks ds,v=>∃ a vs,v = .ref a /\ H a = some (.dK (ks.zip vs)) /\ ks.length = vs.length /\ zai G H ds vs
 | .ins c ns ds,v=>∃ a dx vs,v = .ref a /\ H a = some (.ins (G.cl c) dx (ns.zip vs)) /\ ns.length = vs.length /\ zai G H ds vs
 | .kd ks ds,v=>∃ a od vs,v = .ref a /\ H a = some (.frz od (.dK (ks.zip vs))) /\ ks.length = vs.length /\ zai G H ds vs
noncomputable def zai (G : Gc) (H : Hp) : List D -> List V -> Prop
 | [],vs=>vs = []
 | d :: ds,vs=>∃ v r,vs = v :: r /\ Rep G H d v /\ zai G H ds r
end
section
variable {G : Gc} {H H' Hf Hf' : Hp}
mutual
theorem Rep.upM (s : zau H H') : ∀ (d : D) (v : V),Rep G H d v -> Rep G H' d v
 | .non,_,h=>h
 | .bl _,_,h=>h
 | .int _,_,h=>h
 | .str _,_,h=>h
 | .lst ds,_,⟨a,vs,e,q,r⟩=>⟨a,vs,e,s _ _ q,zai.upM s ds vs r⟩
 | .tup ds,_,⟨a,vs,e,q,r⟩=>⟨a,vs,e,s _ _ q,zai.upM s ds vs r⟩
 | .kl ds,_,⟨a,vs,e,q,r⟩=>⟨a,vs,e,s.seq q,zai.upM s ds vs r⟩
 | .kt ds,_,⟨a,vs,e,q,r⟩=>⟨a,vs,e,s.tup q,zai.upM s ds vs r⟩
 | .dic _ ds,_,⟨a,vs,e,q,l,r⟩=>⟨a,vs,e,s _ _ q,l,zai.upM s ds vs r⟩
 | .ins _ _ ds,_,⟨a,dx,vs,e,q,l,r⟩=>⟨a,dx,vs,e,s _ _ q,l,zai.upM s ds vs r⟩
 | .kd _ ds,_,⟨a,od,vs,e,q,l,r⟩=>⟨a,od,vs,e,s _ _ q,l,zai.upM s ds vs r⟩
theorem zai.upM (s : zau H H') : ∀ (ds : List D) (vs : List V),zai G H ds vs -> zai G H' ds vs
 | [],_,h=>h
 | d :: ds,_,⟨v,r,e,h1,h2⟩=>⟨v,r,e,Rep.upM s d v h1,zai.upM s ds r h2⟩
end
theorem Rep.up {d : D} {v : V} (r : Rep G H d v) (s : zau H H') : Rep G H' d v:=Rep.upM s d v r
theorem zai.up {ds : List D} {vs : List V} (r : zai G H ds vs) (s : zau H H') : zai G H' ds vs:=zai.upM s ds vs r
theorem zai.nil : zai G H [] []:=rfl
theorem zai.cons {d : D} {ds : List D} {v : V} {vs : List V} (h : Rep G H d v) (t : zai G H ds vs) : zai G H (d :: ds) (v :: vs):=⟨v,vs,rfl,h,t⟩
theorem zai.length : ∀ {ds : List D} {vs : List V},zai G H ds vs -> ds.length = vs.length
 | [],_,h=>by cases (show _ = [] from h); rfl
 | d :: ds,_,⟨v,r,e,_,h⟩=>by subst e; simp [zai.length h]
theorem zai.append : ∀ {ds es : List D} {vs us : List V},zai G H ds vs -> zai G H es us -> zai G H (ds ++ es) (vs ++ us)
 | [],_,_,_,h,t=>by cases (show _ = [] from h); exact t
 | d :: ds,_,_,_,⟨v,r,e,h1,h2⟩,t=>by subst e; exact ⟨v,r ++ _,rfl,h1,zai.append h2 t⟩
theorem zai.get : ∀ {ds : List D} {vs : List V} {i : Nat} {d : D},zai G H ds vs -> ds[i]? = some d -> ∃ v,vs[i]? = some v /\ Rep G H d v
 | [],_,_,_,_,e=>by simp at e
 | d :: ds,_,0,_,⟨v,r,e,h1,_⟩,e'=>by subst e; simp at e'; subst e'; exact ⟨v,rfl,h1⟩
 | d :: ds,_,i + 1,d',⟨v,r,e,_,h2⟩,e'=>by
  subst e
  obtain ⟨u,a,b⟩:=zai.get (i:=i) (d:=d') h2 (by simpa using e')
  exact ⟨u,by simpa using a,b⟩
theorem zai.get' : ∀ {ds : List D} {vs : List V} {i : Nat} {v : V},zai G H ds vs -> vs[i]? = some v -> ∃ d,ds[i]? = some d /\ Rep G H d v:=fun {ds vs i v} h e=>by
 have hl:=h.length
 have hi : i < ds.length:=by have:=(List.getElem?_eq_some_iff.mp e).1; omega
 obtain ⟨u,a,b⟩:=h.get (i:=i) (d:=ds[i]) (by simp [hi])
 rw [e] at a; cases a
 exact ⟨ds[i],by simp [hi],b⟩
theorem zai.ints : ∀ (ns : List Int),zai G H (ns.map D.int) (ns.map V.int)
 | []=>rfl
 | n :: ns=>⟨_,_,rfl,rfl,zai.ints ns⟩
theorem zai.take : ∀ {ds : List D} {vs : List V} (n : Nat),zai G H ds vs -> zai G H (ds.take n) (vs.take n)
 | _,_,0,_=>rfl
 | [],_,n + 1,h=>by cases (show _ = [] from h); rfl
 | d :: ds,_,n + 1,⟨v,r,e,h1,h2⟩=>by subst e; exact ⟨v,r.take n,rfl,h1,zai.take n h2⟩
theorem zai.drop : ∀ {ds : List D} {vs : List V} (n : Nat),zai G H ds vs -> zai G H (ds.drop n) (vs.drop n)
 | _,_,0,h=>h
 | [],_,n + 1,h=>by cases (show _ = [] from h); rfl
 | d :: ds,_,n + 1,⟨v,r,e,h1,h2⟩=>by subst e; exact zai.drop n h2
theorem zai.set : ∀ {ds : List D} {vs : List V} (i : Nat) {d : D} {v : V},zai G H ds vs -> Rep G H d v -> zai G H (ds.set i d) (vs.set i v)
 | [],_,_,_,_,h,_=>by cases (show _ = [] from h); exact .nil
 | e :: ds,_,0,_,_,⟨v,r,e',_,h2⟩,q=>by subst e'; exact ⟨_,r,rfl,q,h2⟩
 | e :: ds,_,i + 1,_,_,⟨v,r,e',h1,h2⟩,q=>by subst e'; exact ⟨v,r.set i _,rfl,h1,zai.set i h2 q⟩
end
noncomputable def zg3 : HO -> Bool
 | .tup _=>true
 | _=>false
structure Ext (Hf H Hf' H' : Hp) : Prop where
 f : zau Hf Hf'
 h : zau H H'
 s : zau Hf' H'
 n : ∀ l o,H l = some o -> zg3 o = false -> Hf' l = Hf l
section
variable {Hf H Hf1 H1 Hf2 H2 : Hp} {p : Addr} {o : HO}
theorem Ext.refl (s : zau Hf H) : Ext Hf H Hf H:=⟨zau.refl _,zau.refl _,s,fun _ _ _ _=>rfl⟩
theorem Ext.trans (a : Ext Hf H Hf1 H1) (b : Ext Hf1 H1 Hf2 H2) : Ext Hf H Hf2 H2:=⟨a.f.trans b.f,a.h.trans b.h,b.s,fun l o e t=>(b.n l o (a.h l o e) t).trans (a.n l o e t)⟩
theorem Ext.new (s : zau Hf H) (h : H p = none) : Ext Hf H (upd Hf p o) (upd H p o) :=
 ⟨zcg (s.free h),zcg h,fun b u e=>by
  by_cases hb : b = p
  ·subst hb; rw [zbm] at e ⊢; exact e
  ·rw [za2 hb] at e ⊢; exact s b u e,fun l u e _=>by rw [za2 (zc8 e h)]⟩
theorem Ext.tmp (s : zau Hf H) (h : H p = none) : Ext Hf H Hf (upd H p o):=⟨zau.refl _,zcg h,s.trans (zcg h),fun _ _ _ _=>rfl⟩
theorem Ext.grow (s : zau Hf H) (g : zau H H1) : Ext Hf H Hf H1:=⟨zau.refl _,g,s.trans g,fun _ _ _ _=>rfl⟩
theorem Ext.fix (a : Ext Hf H Hf1 H1) (hn : H p = none) (hf : Hf1 p = none) (hp : H1 p = some o) : Ext Hf H (upd Hf1 p o) H1 :=
 ⟨a.f.trans (zcg hf),a.h,fun b u e=>by
  by_cases hb : b = p
  ·subst hb; rw [zbm] at e; rw [hp]; exact e
  ·rw [za2 hb] at e; exact a.s b u e,fun l u e t=>by rw [za2 (zc8 e hn)]; exact a.n l u e t⟩
end
inductive O where
 | fz (d : D)
 | lst (xs : List O)
 | tup (xs : List O)
 | dic (ks : List Key) (xs : List O)
 | ins (c : Str) (ns : List Str) (xs : List O)
 | jnk (n : Nat)
 deriving Inhabited
mutual
noncomputable def OT (G : Gc) (Hf H : Hp) : O -> V -> List Addr -> Prop
 | .fz d,v,fp=>Rep G Hf d v /\ fp = []
 | .lst os,v,fp=>∃ a vs fs,v = .ref a /\ H a = some (.lst vs) /\ OTs G Hf H os vs fs /\ fp = a :: fs
 | .tup os,v,fp=>∃ a vs,v = .ref a /\ H a = some (.tup vs) /\ OTs G Hf H os vs fp
 | .dic ks os,v,fp=>∃ a vs fs,v = .ref a /\ H a = some (.dK (ks.zip vs)) /\ ks.length = vs.length /\ OTs G Hf H os vs fs /\ fp = a :: fs
 | .ins c ns os,v,fp=>∃ a dx vs fs,v = .ref a /\ H a = some (.ins (G.cl c) dx (ns.zip vs)) /\ ns.length = vs.length /\ OTs G Hf H os vs fs /\ fp = a :: fs
 | .jnk n,v,fp=>∃ a vs,v = .ref a /\ H a = some (.lst vs) /\ vs.length <= n /\ fp = [a]
noncomputable def OTs (G : Gc) (Hf H : Hp) : List O -> List V -> List Addr -> Prop
 | [],vs,fp=>vs = [] /\ fp = []
 | o :: os,vs,fp=>∃ v r f1 f2,vs = v :: r /\ OT G Hf H o v f1 /\ OTs G Hf H os r f2 /\ fp = f1 ++ f2
end
mutual
noncomputable def O.toD : O -> D
 | .fz d=>d
 | .lst os=>.lst (O.toDs os)
 | .tup os=>.tup (O.toDs os)
 | .dic ks os=>.dic ks (O.toDs os)
 | .ins c ns os=>.ins c ns (O.toDs os)
 | .jnk _=>.non
noncomputable def O.toDs : List O -> List D
 | []=>[]
 | o :: os=>o.toD :: O.toDs os
end
mutual
noncomputable def O.kn : O -> Bool
 | .fz _=>true
 | .lst os=>O.kns os
 | .tup os=>O.kns os
 | .dic _ os=>O.kns os
 | .ins _ _ os=>O.kns os
 | .jnk _=>false
noncomputable def O.kns : List O -> Bool
 | []=>true
 | o :: os=>o.kn && O.kns os
end
section
variable {G : Gc} {Hf H Hf' H' : Hp}
mutual
theorem OT.frameM (f : zau Hf Hf') : ∀ (o : O) (v : V) (fp : List Addr),OT G Hf H o v fp -> (∀ b u,H b = some u -> (zg3 u = true \/ b ∈ fp) -> H' b = some u) -> OT G Hf' H' o v fp
 | .fz d,_,_,h,_=>⟨h.1.up f,h.2⟩
 | .lst os,_,fp,⟨a,vs,fs,e,q,r,ef⟩,k=>⟨a,vs,fs,e,k _ _ q (.inr (by rw [ef]; exact List.mem_cons_self)),OTs.frameM f os vs fs r (fun b u hb hm=>k b u hb (hm.imp_right fun z=>by rw [ef]; exact List.mem_cons_of_mem _ z)),ef⟩
 | .tup os,_,fp,⟨a,vs,e,q,r⟩,k=>⟨a,vs,e,k _ _ q (.inl rfl),OTs.frameM f os vs fp r k⟩
 | .dic ks os,_,fp,⟨a,vs,fs,e,q,z,r,ef⟩,k=>⟨a,vs,fs,e,k _ _ q (.inr (by rw [ef]; exact List.mem_cons_self)),z,OTs.frameM f os vs fs r (fun b u hb hm=>k b u hb (hm.imp_right fun z=>by rw [ef]; exact List.mem_cons_of_mem _ z)),ef⟩
 | .ins c ns os,_,fp,⟨a,dx,vs,fs,e,q,z,r,ef⟩,k=>⟨a,dx,vs,fs,e,k _ _ q (.inr (by rw [ef]; exact List.mem_cons_self)),z,OTs.frameM f os vs fs r (fun b u hb hm=>k b u hb (hm.imp_right fun z=>by rw [ef]; exact List.mem_cons_of_mem _ z)),ef⟩
 | .jnk n,_,fp,⟨a,vs,e,q,z,ef⟩,k=>⟨a,vs,e,k _ _ q (.inr (by rw [ef]; exact List.mem_cons_self)),z,ef⟩
theorem OTs.frameM (f : zau Hf Hf') : ∀ (os : List O) (vs : List V) (fp : List Addr),OTs G Hf H os vs fp -> (∀ b u,H b = some u -> (zg3 u = true \/ b ∈ fp) -> H' b = some u) -> OTs G Hf' H' os vs fp
 | [],_,_,h,_=>h
 | o :: os,_,fp,⟨v,r,f1,f2,e,h1,h2,ef⟩,k=>⟨v,r,f1,f2,e,OT.frameM f o v f1 h1 (fun b u hb hm=>k b u hb (hm.imp_right fun z=>by rw [ef]; exact List.mem_append_left _ z)),OTs.frameM f os r f2 h2 (fun b u hb hm=>k b u hb (hm.imp_right fun z=>by rw [ef]; exact List.mem_append_right _ z)),ef⟩
end
theorem OT.frame {o : O} {v : V} {fp : List Addr} (h : OT G Hf H o v fp) (f : zau Hf Hf') (k : ∀ b u,H b = some u -> (zg3 u = true \/ b ∈ fp) -> H' b = some u) : OT G Hf' H' o v fp:=OT.frameM f o v fp h k
theorem OT.up {o : O} {v : V} {fp : List Addr} (h : OT G Hf H o v fp) (f : zau Hf Hf') (s : zau H H') : OT G Hf' H' o v fp:=h.frame f fun b u e _=>s b u e
theorem zno {α β : Type} : ∀ {ks : List α} {vs us : List β},ks.length = vs.length -> ks.length = us.length -> ks.zip vs = ks.zip us -> vs = us
 | [],[],[],_,_,_=>rfl
 | k :: ks,v :: vs,u :: us,h1,h2,e=>by
  rw [List.zip_cons_cons,List.zip_cons_cons] at e
  injection e with e1 e2
  injection e1 with _ e3
  rw [e3,zno (by simpa using h1) (by simpa using h2) e2]
 | [],_ :: _,_,h,_,_=>by cases h
 | [],[],_ :: _,_,h,_=>by cases h
 | _ :: _,[],_,h,_,_=>by cases h
 | _ :: _,_ :: _,[],_,h,_=>by cases h
mutual
theorem OT.funM : ∀ (o : O) (v : V) (f f' : List Addr),OT G Hf H o v f -> OT G Hf' H o v f' -> f = f'
 | .fz d,_,_,_,h,h'=>h.2.trans h'.2.symm
 | .lst os,_,_,_,⟨a,vs,fs,e,q,r,ef⟩,⟨a',vs',fs',e',q',r',ef'⟩=>by
  subst e ef ef'
  cases e'
  rw [q] at q'
  cases q'
  rw [OTs.funM os vs fs fs' r r']
 | .tup os,_,f,f',⟨a,vs,e,q,r⟩,⟨a',vs',e',q',r'⟩=>by
  subst e
  cases e'
  rw [q] at q'
  cases q'
  exact OTs.funM os vs f f' r r'
 | .dic ks os,_,_,_,⟨a,vs,fs,e,q,z,r,ef⟩,⟨a',vs',fs',e',q',z',r',ef'⟩=>by
  subst e ef ef'
  cases e'
  rw [q] at q'
  have:=zno z z' (HO.dK.inj (Option.some.inj q'))
  subst this
  rw [OTs.funM os vs fs fs' r r']
 | .ins c ns os,_,_,_,⟨a,dx,vs,fs,e,q,z,r,ef⟩,⟨a',dx',vs',fs',e',q',z',r',ef'⟩=>by
  subst e ef ef'
  cases e'
  rw [q] at q'
  have:=zno z z' (HO.ins.inj (Option.some.inj q')).2.2
  subst this
  rw [OTs.funM os vs fs fs' r r']
 | .jnk n,_,_,_,⟨a,vs,e,q,z,ef⟩,⟨a',vs',e',q',z',ef'⟩=>by
  subst e ef ef'
  cases e'
  rfl
theorem OTs.funM : ∀ (os : List O) (vs : List V) (f f' : List Addr),OTs G Hf H os vs f -> OTs G Hf' H os vs f' -> f = f'
 | [],_,_,_,h,h'=>h.2.trans h'.2.symm
 | o :: os,_,_,_,⟨v,r,f1,f2,e,h1,h2,ef⟩,⟨v',r',f1',f2',e',h1',h2',ef'⟩=>by
  subst e ef ef'
  cases e'
  rw [OT.funM o v f1 f1' h1 h1',OTs.funM os r f2 f2' h2 h2']
end
mutual
theorem OT.memM : ∀ (o : O) (v : V) (f : List Addr),OT G Hf H o v f -> ∀ a ∈ f,∃ u,H a = some u /\ zg3 u = false
 | .fz d,_,_,h,a,ha=>by rw [h.2] at ha; cases ha
 | .lst os,_,_,⟨a,vs,fs,e,q,r,ef⟩,b,hb=>by
  subst ef
  rcases List.mem_cons.mp hb with z | z
  ·subst z; exact ⟨_,q,rfl⟩
  ·exact OTs.memM os vs fs r b z
 | .tup os,_,f,⟨a,vs,e,q,r⟩,b,hb=>OTs.memM os vs f r b hb
 | .dic ks os,_,_,⟨a,vs,fs,e,q,z,r,ef⟩,b,hb=>by
  subst ef
  rcases List.mem_cons.mp hb with z | z
  ·subst z; exact ⟨_,q,rfl⟩
  ·exact OTs.memM os vs fs r b z
 | .ins c ns os,_,_,⟨a,dx,vs,fs,e,q,z,r,ef⟩,b,hb=>by
  subst ef
  rcases List.mem_cons.mp hb with z | z
  ·subst z; exact ⟨_,q,rfl⟩
  ·exact OTs.memM os vs fs r b z
 | .jnk n,_,_,⟨a,vs,e,q,z,ef⟩,b,hb=>by
  subst ef
  rw [List.mem_singleton.mp hb]
  exact ⟨_,q,rfl⟩
theorem OTs.memM : ∀ (os : List O) (vs : List V) (f : List Addr),OTs G Hf H os vs f -> ∀ a ∈ f,∃ u,H a = some u /\ zg3 u = false
 | [],_,_,h,a,ha=>by rw [h.2] at ha; cases ha
 | o :: os,_,_,⟨v,r,f1,f2,e,h1,h2,ef⟩,a,ha=>by
  subst ef
  rcases List.mem_append.mp ha with z | z
  ·exact OT.memM o v f1 h1 a z
  ·exact OTs.memM os r f2 h2 a z
end
mutual
theorem OT.repM (s : zau Hf H) : ∀ (o : O) (v : V) (f : List Addr),o.kn = true -> OT G Hf H o v f -> Rep G H o.toD v
 | .fz d,_,_,_,h=>by rw [O.toD]; exact h.1.up s
 | .lst os,_,_,hk,⟨a,vs,fs,e,q,r,ef⟩=>by rw [O.kn] at hk; rw [O.toD]; exact ⟨a,vs,e,q,OTs.repM s os vs fs hk r⟩
 | .tup os,_,f,hk,⟨a,vs,e,q,r⟩=>by rw [O.kn] at hk; rw [O.toD]; exact ⟨a,vs,e,q,OTs.repM s os vs f hk r⟩
 | .dic ks os,_,_,hk,⟨a,vs,fs,e,q,z,r,ef⟩=>by rw [O.kn] at hk; rw [O.toD]; exact ⟨a,vs,e,q,z,OTs.repM s os vs fs hk r⟩
 | .ins c ns os,_,_,hk,⟨a,dx,vs,fs,e,q,z,r,ef⟩=>by rw [O.kn] at hk; rw [O.toD]; exact ⟨a,dx,vs,e,q,z,OTs.repM s os vs fs hk r⟩
 | .jnk _,_,_,hk,_=>by rw [O.kn] at hk; cases hk
theorem OTs.repM (s : zau Hf H) : ∀ (os : List O) (vs : List V) (f : List Addr),O.kns os = true -> OTs G Hf H os vs f -> zai G H (O.toDs os) vs
 | [],_,_,_,h=>by rw [O.toDs]; exact h.1
 | o :: os,_,_,hk,⟨v,r,f1,f2,e,h1,h2,ef⟩=>by
  rw [O.kns,Bool.and_eq_true] at hk
  rw [O.toDs]
  exact ⟨v,r,e,OT.repM s o v f1 hk.1 h1,OTs.repM s os r f2 hk.2 h2⟩
end
theorem OT.rep {o : O} {v : V} {f : List Addr} (h : OT G Hf H o v f) (s : zau Hf H) (hk : o.kn = true) : Rep G H o.toD v:=OT.repM s o v f hk h
theorem OTs.fz : ∀ {ds : List D} {vs : List V},zai G Hf ds vs -> OTs G Hf H (ds.map .fz) vs []
 | [],_,h=>⟨h,rfl⟩
 | d :: ds,_,⟨v,r,e,h1,h2⟩=>⟨v,r,[],[],e,⟨h1,rfl⟩,OTs.fz h2,rfl⟩
end
inductive Sl where
 | no
 | im (d : D)
 | own (xs : List D)
 | ownd (ks : List Key) (xs : List D)
 | obj (c : Str) (ns : List Str) (xs : List D)
 | pin (l : Addr) (xs : List D)
 | pind (l : Addr) (ks : List Key) (xs : List D)
 | deep (o : O)
 | val (u : V)
noncomputable def Sl.isOwn : Sl -> Bool
 | .own _=>true
 | .ownd _ _=>true
 | .obj _ _ _=>true
 | .pin _ _=>true
 | .pind _ _ _=>true
 | _=>false
noncomputable def Sl.calm : Sl -> Bool
 | .no=>true
 | .im _=>true
 | _=>false
noncomputable def ze2 (G : Gc) (Hf H : Hp) (l : Addr) : Sl -> Prop
 | .own ds=>∃ vs,H l = some (.lst vs) /\ zai G Hf ds vs
 | .ownd ks ds=>∃ vs,H l = some (.dK (ks.zip vs)) /\ ks.length = vs.length /\ zai G Hf ds vs
 | .obj c ns ds=>∃ dx vs,H l = some (.ins (G.cl c) dx (ns.zip vs)) /\ ns.length = vs.length /\ zai G Hf ds vs
 | .pin l0 ds=>l = l0 /\ ∃ vs,H l = some (.lst vs) /\ zai G Hf ds vs
 | .pind l0 ks ds=>l = l0 /\ ∃ vs,H l = some (.dK (ks.zip vs)) /\ ks.length = vs.length /\ zai G Hf ds vs
 | _=>False
theorem ze2.there {G : Gc} {Hf H : Hp} {l : Addr} {s : Sl} (h : ze2 G Hf H l s) : ∃ o,H l = some o:=by
 cases s with
 | own ds=>obtain ⟨vs,h,_⟩:=h; exact ⟨_,h⟩
 | ownd ks ds=>obtain ⟨vs,h,_⟩:=h; exact ⟨_,h⟩
 | obj c ns ds=>obtain ⟨dx,vs,h,_⟩:=h; exact ⟨_,h⟩
 | pin l0 ds=>obtain ⟨_,vs,h,_⟩:=h; exact ⟨_,h⟩
 | pind l0 ks ds=>obtain ⟨_,vs,h,_⟩:=h; exact ⟨_,h⟩
 | _=>exact h.elim
theorem ze2.there2 {G : Gc} {Hf H : Hp} {l : Addr} {s : Sl} (h : ze2 G Hf H l s) : ∃ o,H l = some o /\ zg3 o = false:=by
 cases s with
 | own ds=>obtain ⟨vs,h,_⟩:=h; exact ⟨_,h,rfl⟩
 | ownd ks ds=>obtain ⟨vs,h,_⟩:=h; exact ⟨_,h,rfl⟩
 | obj c ns ds=>obtain ⟨dx,vs,h,_⟩:=h; exact ⟨_,h,rfl⟩
 | pin l0 ds=>obtain ⟨_,vs,h,_⟩:=h; exact ⟨_,h,rfl⟩
 | pind l0 ks ds=>obtain ⟨_,vs,h,_⟩:=h; exact ⟨_,h,rfl⟩
 | _=>exact h.elim
theorem ze2.up {G : Gc} {Hf H Hf' H' : Hp} {l : Addr} {s : Sl} (h : ze2 G Hf H l s) (f : zau Hf Hf') (e : ∀ o,H l = some o -> H' l = some o) : ze2 G Hf' H' l s:=by
 cases s with
 | own ds=>obtain ⟨vs,h,r⟩:=h; exact ⟨vs,e _ h,r.up f⟩
 | ownd ks ds=>obtain ⟨vs,h,z,r⟩:=h; exact ⟨vs,e _ h,z,r.up f⟩
 | obj c ns ds=>obtain ⟨dx,vs,h,z,r⟩:=h; exact ⟨dx,vs,e _ h,z,r.up f⟩
 | pin l0 ds=>obtain ⟨q,vs,h,r⟩:=h; exact ⟨q,vs,e _ h,r.up f⟩
 | pind l0 ks ds=>obtain ⟨q,vs,h,z,r⟩:=h; exact ⟨q,vs,e _ h,z,r.up f⟩
 | _=>exact h.elim
noncomputable def zex (G : Gc) (H0 Hf H : Hp) (v : Option V) : Sl -> Prop
 | .no=>True
 | .im d=>∃ u,v = some u /\ Rep G Hf d u
 | .deep o=>∃ u fp,v = some u /\ OT G Hf H o u fp /\ fp.Nodup /\ ∀ a ∈ fp,H0 a = none /\ Hf a = none
 | .val u=>v = some u
 | s=>∃ l,v = some (.ref l) /\ H0 l = none /\ Hf l = none /\ ze2 G Hf H l s
theorem zex.own {G : Gc} {H0 Hf H : Hp} {v : Option V} {s : Sl} (hs : s.isOwn = true) (h : zex G H0 Hf H v s) : ∃ l,v = some (.ref l) /\ H0 l = none /\ Hf l = none /\ ze2 G Hf H l s:=by
 cases s <;> first | exact h | cases hs
theorem zex.ofOwn {G : Gc} {H0 Hf H : Hp} {v : Option V} {s : Sl} (hs : s.isOwn = true) (h : ∃ l,v = some (.ref l) /\ H0 l = none /\ Hf l = none /\ ze2 G Hf H l s) : zex G H0 Hf H v s:=by
 cases s <;> first | exact h | cases hs
noncomputable def Holds (G : Gc) (Hf H : Hp) (s : Sl) (v : V) (a : Addr) : Prop:=match s with
 | .deep o=>∃ fp,OT G Hf H o v fp /\ a ∈ fp
 | s=>s.isOwn = true /\ v = .ref a
theorem Holds.own {G : Gc} {Hf H : Hp} {s : Sl} {v : V} {a : Addr} (hs : s.isOwn = true) : Holds G Hf H s v a ↔ v = .ref a:=by
 cases s <;> first | exact ⟨fun h=>h.2,fun h=>⟨rfl,h⟩⟩ | cases hs
theorem Holds.calm {G : Gc} {Hf H : Hp} {s : Sl} {v : V} {a : Addr} (h : Holds G Hf H s v a) (hs : s.calm = true) : False:=by
 cases s <;> first | exact Bool.noConfusion h.1 | cases hs
theorem zex.back {G : Gc} {H0 Hf H Hf' H' : Hp} {s : Sl} {v : V} {a : Addr} (q : zex G H0 Hf H (some v) s) (k : ∀ o fp,s = .deep o -> OT G Hf H o v fp -> OT G Hf' H' o v fp) (h : Holds G Hf' H' s v a) : Holds G Hf H s v a:=by
 cases s with
 | deep o =>
  obtain ⟨u,fp,e,r,_⟩:=q
  cases e
  obtain ⟨fp',r',ha⟩:=h
  have:=OT.funM o v fp fp' (k o fp rfl r) r'
  subst this
  exact ⟨fp,r,ha⟩
 | _=>exact h
theorem zex.there {G : Gc} {H0 Hf H : Hp} {s : Sl} {v : V} {a : Addr} (q : zex G H0 Hf H (some v) s) (h : Holds G Hf H s v a) : ∃ o,H a = some o /\ zg3 o = false:=by
 cases hs : s.isOwn with
 | true =>
  obtain ⟨l,e,_,_,ho⟩:=q.own hs
  have e2:=(Holds.own hs).mp h
  cases e
  cases e2
  exact ho.there2
 | false =>
  cases s with
  | deep o =>
   obtain ⟨fp,r,ha⟩:=h
   exact OT.memM o v fp r a ha
  | _=>first | exact Bool.noConfusion h.1 | cases hs
structure za0 (G : Gc) (Hf0 H0 Hf H : Hp) (σ : St) (ρ : List Sl) : Prop where
 ext : Ext Hf0 H0 Hf H
 len : σ.length = ρ.length
 at' : ∀ (i : Nat) (v : Option V) (s : Sl),σ[i]? = some v -> ρ[i]? = some s -> zex G H0 Hf H v s
 dj : ∀ (i j : Nat) (s t : Sl) (v w : V) (a : Addr),ρ[i]? = some s -> ρ[j]? = some t -> σ[i]? = some (some v) -> σ[j]? = some (some w) -> Holds G Hf H s v a -> Holds G Hf H t w a -> i = j
section
variable {G : Gc} {Hf0 H0 Hf H Hf' H' : Hp} {σ : St} {ρ : List Sl}
theorem za0.sub (h : za0 G Hf0 H0 Hf H σ ρ) : zau Hf H:=h.ext.s
theorem za0.inj (h : za0 G Hf0 H0 Hf H σ ρ) (i j : Nat) (s t : Sl) (l : Addr) (a : ρ[i]? = some s) (b : ρ[j]? = some t) (hs : s.isOwn = true) (ht : t.isOwn = true) (c : σ[i]? = some (some (.ref l))) (d : σ[j]? = some (some (.ref l))) : i = j :=
 h.dj i j s t _ _ l a b c d ((Holds.own hs).mpr rfl) ((Holds.own ht).mpr rfl)
theorem za0.re {Hf0' H0' : Hp} {ρ' : List Sl} (h : za0 G Hf0 H0 Hf H σ ρ) (x : Ext Hf0' H0' Hf' H') (hl : ρ'.length = ρ.length) (ha : ∀ (i : Nat) (v : Option V) (s : Sl),σ[i]? = some v -> ρ'[i]? = some s -> zex G H0' Hf' H' v s)
  (hd : ∀ (i : Nat) (s : Sl) (v : V) (a : Addr),ρ'[i]? = some s -> σ[i]? = some (some v) -> Holds G Hf' H' s v a -> ∃ t,ρ[i]? = some t /\ Holds G Hf H t v a) : za0 G Hf0' H0' Hf' H' σ ρ' :=
 ⟨x,h.len.trans hl.symm,ha,fun i j s t v w a b c e f p q=>by
  obtain ⟨s0,b0,p0⟩:=hd i s v a b e p
  obtain ⟨t0,c0,q0⟩:=hd j t w a c f q
  exact h.dj i j s0 t0 v w a b0 c0 e f p0 q0⟩
theorem za0.step (h : za0 G Hf0 H0 Hf H σ ρ) (e : Ext Hf H Hf' H') : za0 G Hf0 H0 Hf' H' σ ρ:=by
 refine h.re (h.ext.trans e) rfl (fun i v s a b=>?_) fun i s v a b c d=>⟨s,b,(h.at' i _ s c b).back (fun o fp _ r=>r.up e.f e.h) d⟩
 have q:=h.at' i v s a b
 cases hs : s.isOwn with
 | true =>
  obtain ⟨l,e1,e2,e3,e4⟩:=q.own hs
  obtain ⟨o,ho,ht⟩:=e4.there2
  exact .ofOwn hs ⟨l,e1,e2,by rw [e.n l o ho ht]; exact e3,e4.up e.f fun o ho=>e.h _ _ ho⟩
 | false =>
  cases s with
  | no=>trivial
  | im d=>obtain ⟨u,e1,r⟩:=q; exact ⟨u,e1,r.up e.f⟩
  | val u=>exact q
  | deep o =>
   obtain ⟨u,fp,e1,r,n,z⟩:=q
   refine ⟨u,fp,e1,r.up e.f e.h,n,fun a ha=>⟨(z a ha).1,?_⟩⟩
   obtain ⟨oo,ho,ht⟩:=OT.memM o u fp r a ha
   rw [e.n a oo ho ht]
   exact (z a ha).2
  | _=>cases hs
theorem za0.slot {i : Nat} {s : Sl} (h : za0 G Hf0 H0 Hf H σ ρ) (e : ρ[i]? = some s) : ∃ v,σ[i]? = some v /\ zex G H0 Hf H v s:=by
 have hi : i < σ.length:=by rw [h.len]; exact (List.getElem?_eq_some_iff.mp e).1
 exact ⟨σ[i],by simp [hi],h.at' i _ s (by simp [hi]) e⟩
theorem za0.imm {i : Nat} {d : D} (h : za0 G Hf0 H0 Hf H σ ρ) (e : ρ[i]? = some (.im d)) : ∃ v,σ[i]? = some (some v) /\ Rep G Hf d v:=by
 obtain ⟨v,e1,u,e2,r⟩:=h.slot e
 subst e2
 exact ⟨u,e1,r⟩
theorem za0.ownAt {i : Nat} {s : Sl} (hs : s.isOwn = true) (h : za0 G Hf0 H0 Hf H σ ρ) (e : ρ[i]? = some s) : ∃ l,σ[i]? = some (some (.ref l)) /\ H0 l = none /\ Hf l = none /\ ze2 G Hf H l s:=by
 obtain ⟨v,e1,q⟩:=h.slot e
 obtain ⟨l,e2,q2⟩:=q.own hs
 rw [e2] at e1
 exact ⟨l,e1,q2⟩
theorem zcx {α : Type} {l : List α} {i j : Nat} {x y : α} (h : (l.set i x)[j]? = some y) : (j = i /\ y = x /\ i < l.length) \/ (j ≠ i /\ l[j]? = some y):=by
 by_cases hj : j = i
 ·subst hj
  left
  have hi : j < l.length:=by have:=(List.getElem?_eq_some_iff.mp h).1; simpa using this
  rw [List.getElem?_set_self hi] at h
  exact ⟨rfl,(Option.some.inj h).symm,hi⟩
 ·right
  rw [List.getElem?_set_ne (Ne.symm hj)] at h
  exact ⟨hj,h⟩
theorem za0.setIm {i : Nat} {d : D} {v : V} (h : za0 G Hf0 H0 Hf H σ ρ) (r : Rep G Hf d v) : za0 G Hf0 H0 Hf H (σ.set i (some v)) (ρ.set i (.im d)):=by
 refine ⟨h.ext,by simpa using h.len,fun j u s a b=>?_,fun j k s t u w l a b c d' p q=>?_⟩
 ·rcases zcx b with ⟨e,e',_⟩ | ⟨e,b⟩
  ·subst e e'
   rcases zcx a with ⟨_,e',_⟩ | ⟨e,_⟩
   ·subst e'; exact ⟨v,rfl,r⟩
   ·exact absurd rfl e
  ·rcases zcx a with ⟨e',_⟩ | ⟨_,a⟩
   ·exact absurd e' e
   ·exact h.at' j u s a b
 ·rcases zcx a with ⟨e,e',_⟩ | ⟨e,a⟩
  ·subst e'; exact (p.calm rfl).elim
  ·rcases zcx b with ⟨e2,e',_⟩ | ⟨e2,b⟩
   ·subst e'; exact (q.calm rfl).elim
   ·rcases zcx c with ⟨e',_⟩ | ⟨_,c⟩
    ·exact absurd e' e
    ·rcases zcx d' with ⟨e',_⟩ | ⟨_,d'⟩
     ·exact absurd e' e2
     ·exact h.dj j k s t u w l a b c d' p q
theorem za0.setNew {i : Nat} {u : V} {s : Sl} (h : za0 G Hf0 H0 Hf H σ ρ) (e : Ext Hf H Hf' H') (ho : zex G H0 Hf' H' (some u) s) (hn : ∀ a,Holds G Hf' H' s u a -> H a = none) :
  za0 G Hf0 H0 Hf' H' (σ.set i (some u)) (ρ.set i s):=by
 have h':=h.step e
 have no : ∀ (j : Nat) (t : Sl) (w : V) (a : Addr),ρ[j]? = some t -> σ[j]? = some (some w) -> Holds G Hf' H' t w a -> Holds G Hf' H' s u a -> False:=fun j t w a b c p q=>by
  have p0:=(h.at' j _ t c b).back (fun o fp _ r=>r.up e.f e.h) p
  obtain ⟨o,ho,_⟩:=(h.at' j _ t c b).there p0
  rw [hn a q] at ho; cases ho
 refine ⟨h'.ext,by simpa using h.len,fun j w t a b=>?_,fun j k t t' v w l a b c d' p q=>?_⟩
 ·rcases zcx b with ⟨e,e',_⟩ | ⟨e,b⟩
  ·subst e e'
   rcases zcx a with ⟨_,e',_⟩ | ⟨e,_⟩
   ·subst e'; exact ho
   ·exact absurd rfl e
  ·rcases zcx a with ⟨e',_⟩ | ⟨_,a⟩
   ·exact absurd e' e
   ·exact h'.at' j w t a b
 ·rcases zcx a with ⟨e1,e1',_⟩ | ⟨e1,a⟩
  ·rcases zcx b with ⟨e2,e2',_⟩ | ⟨e2,b⟩
   ·rw [e1,e2]
   ·rcases zcx c with ⟨_,e',_⟩ | ⟨e',_⟩
    ·cases e'
     rw [e1'] at p
     rcases zcx d' with ⟨e',_⟩ | ⟨_,d'⟩
     ·exact absurd e' e2
     ·exact (no k t' w l b d' q p).elim
    ·exact absurd e1 e'
  ·rcases zcx c with ⟨e',_⟩ | ⟨_,c⟩
   ·exact absurd e' e1
   ·rcases zcx b with ⟨e2,e2',_⟩ | ⟨e2,b⟩
    ·rcases zcx d' with ⟨_,e',_⟩ | ⟨e',_⟩
     ·cases e'
      rw [e2'] at q
      exact (no j t v l a c p q).elim
     ·exact absurd e2 e'
    ·rcases zcx d' with ⟨e',_⟩ | ⟨_,d'⟩
     ·exact absurd e' e2
     ·exact h'.dj j k t t' v w l a b c d' p q
theorem za0.setOwn {i : Nat} {l : Addr} {s : Sl} (hs : s.isOwn = true) (h : za0 G Hf0 H0 Hf H σ ρ) (e : Ext Hf H Hf' H') (hn : H l = none) (hf : Hf' l = none) (ho : ze2 G Hf' H' l s) :
  za0 G Hf0 H0 Hf' H' (σ.set i (some (.ref l))) (ρ.set i s) :=
 h.setNew e (.ofOwn hs ⟨l,rfl,h.ext.h.free hn,hf,ho⟩) fun a p=>by cases (Holds.own hs).mp p; exact hn
theorem za0.chg {i : Nat} {s s' : Sl} {v : V} (h : za0 G Hf0 H0 Hf H σ ρ) (e : ρ[i]? = some s) (el : σ[i]? = some (some v)) (k : ∀ b u,H b = some u -> Holds G Hf H s v b \/ H' b = some u) (ho : zex G H0 Hf H' (some v) s')
  (hh : ∀ a,Holds G Hf H' s' v a -> Holds G Hf H s v a \/ ∀ (j : Nat) (t : Sl) (w : V),ρ[j]? = some t -> σ[j]? = some (some w) -> Holds G Hf H t w a -> False) : za0 G Hf0 H0 Hf H' σ (ρ.set i s'):=by
 have q:=h.at' i _ s el e
 have gone : ∀ b,Holds G Hf H s v b -> H0 b = none /\ Hf b = none:=fun b p=>by
  cases hs : s.isOwn with
  | true =>
   obtain ⟨l,e1,h0,hf,_⟩:=q.own hs
   have e2:=(Holds.own hs).mp p
   cases e1
   cases e2
   exact ⟨h0,hf⟩
  | false =>
   cases s with
   | deep o =>
    obtain ⟨u,fp,e1,r,n,z⟩:=q
    cases e1
    obtain ⟨fp',r',ha⟩:=p
    have:=OT.funM o v fp fp' r r'
    subst this
    exact z b ha
   | _=>first | exact Bool.noConfusion p.1 | cases hs
 have fr : ∀ (j : Nat) (t : Sl) (w : V),j ≠ i -> ρ[j]? = some t -> σ[j]? = some (some w) -> ∀ o fp,t = .deep o -> OT G Hf H o w fp -> OT G Hf H' o w fp:=fun j t w hj b c o fp et r=>by
  subst et
  refine r.frame (zau.refl _) fun x u hx hm=>?_
  rcases k x u hx with z | z
  ·rcases hm with hm | hm
   ·obtain ⟨o',ho',ht'⟩:=q.there z
    rw [hx] at ho'
    cases ho'
    rw [hm] at ht'
    cases ht'
   ·exact absurd (h.dj j i _ s w v x b e c el ⟨fp,r,hm⟩ z) hj
  ·exact z
 refine ⟨⟨h.ext.f,fun b u e=>?_,fun b u e=>?_,h.ext.n⟩,by simpa using h.len,fun j u t a b=>?_,fun j j' t t' w w' a b c b' c' p p'=>?_⟩
 ·rcases k b u (h.ext.h b u e) with z | z
  ·rw [(gone b z).1] at e; cases e
  ·exact z
 ·rcases k b u (h.ext.s b u e) with z | z
  ·rw [(gone b z).2] at e; cases e
  ·exact z
 ·rcases zcx b with ⟨e',e2,_⟩ | ⟨en,b⟩
  ·subst e' e2
   rw [el] at a; cases a
   exact ho
  ·have q':=h.at' j u t a b
   cases ht : t.isOwn with
   | false =>
    cases t with
    | no=>trivial
    | im d=>exact q'
    | val u=>exact q'
    | deep o =>
     obtain ⟨w,fp,e1,r,n,z⟩:=q'
     subst e1
     exact ⟨w,fp,rfl,fr j _ w en b a o fp rfl r,n,z⟩
    | _=>cases ht
   | true =>
    obtain ⟨l2,e2,e3,e4,q2⟩:=q'.own ht
    subst e2
    refine .ofOwn ht ⟨l2,rfl,e3,e4,q2.up (zau.refl _) fun o' ho'=>?_⟩
    rcases k l2 o' ho' with z | z
    ·exact absurd (h.dj j i t s _ v l2 b e a el ((Holds.own ht).mpr rfl) z) en
    ·exact z
 ·have old : ∀ (j : Nat) (t : Sl) (w : V),(ρ.set i s')[j]? = some t -> σ[j]? = some (some w) -> Holds G Hf H' t w a -> (j = i /\ ∀ (j : Nat) (t : Sl) (w : V),ρ[j]? = some t -> σ[j]? = some (some w) -> Holds G Hf H t w a -> False) \/ ∃ t0,ρ[j]? = some t0 /\ Holds G Hf H t0 w a:=fun j t w b y p=>by
   rcases zcx b with ⟨e',e2,_⟩ | ⟨en,b⟩
   ·rw [e2] at p
    rw [e',el] at y
    cases y
    rw [e']
    rcases hh a p with z | z
    ·exact .inr ⟨s,e,z⟩
    ·exact .inl ⟨rfl,z⟩
   ·exact .inr ⟨t,b,(h.at' j _ t y b).back (fr j t w en b y) p⟩
  rcases old j t w b b' p with ⟨z1,z2⟩ | ⟨t0,z1,z2⟩
  ·rcases old j' t' w' c c' p' with ⟨y1,y2⟩ | ⟨t1,y1,y2⟩
   ·rw [z1,y1]
   ·exact (z2 j' t1 w' y1 c' y2).elim
  ·rcases old j' t' w' c c' p' with ⟨y1,y2⟩ | ⟨t1,y1,y2⟩
   ·exact (y2 j t0 w z1 b' z2).elim
   ·exact h.dj j j' t0 t1 w w' a z1 y1 b' c' z2 y2
theorem za0.mutd {i : Nat} {l : Addr} {s s' : Sl} {o : HO} (hs : s.isOwn = true) (hs' : s'.isOwn = true) (h : za0 G Hf0 H0 Hf H σ ρ) (e : ρ[i]? = some s) (el : σ[i]? = some (some (.ref l))) (ho : ze2 G Hf (upd H l o) l s') :
  za0 G Hf0 H0 Hf (upd H l o) σ (ρ.set i s'):=by
 obtain ⟨l',e1,h0,hf,q⟩:=h.ownAt hs e
 rw [el] at e1; cases e1
 refine h.chg e el (fun b u hb=>?_) (.ofOwn hs' ⟨l,rfl,h0,hf,ho⟩) fun a p=>.inl ?_
 ·by_cases hl : b = l
  ·subst hl; exact .inl ((Holds.own hs).mpr rfl)
  ·exact .inr (by rw [za2 hl]; exact hb)
 ·exact (Holds.own hs).mpr ((Holds.own hs').mp p)
theorem za0.fixd {i : Nat} {l : Addr} {s : Sl} {d : D} {o : HO} (hs : s.isOwn = true) (h : za0 G Hf0 H0 Hf H σ ρ) (e : ρ[i]? = some s) (el : σ[i]? = some (some (.ref l))) (ho : H l = some o) (hr : Rep G (upd Hf l o) d (.ref l)) :
  za0 G Hf0 H0 (upd Hf l o) H σ (ρ.set i (.im d)):=by
 obtain ⟨l',e1,h0,hf,q⟩:=h.ownAt hs e
 rw [el] at e1; cases e1
 refine h.re (h.ext.fix h0 hf ho) (by simp) (fun j u t a b=>?_) fun j t v a b c p=>?_
 ·rcases zcx b with ⟨e,e',_⟩ | ⟨en,b⟩
  ·subst e e'
   rw [el] at a; cases a
   exact ⟨_,rfl,hr⟩
  ·have q:=h.at' j u t a b
   cases ht : t.isOwn with
   | false =>
    cases t with
    | no=>trivial
    | im d=>obtain ⟨u',e1,r⟩:=q; exact ⟨u',e1,r.up (zcg hf)⟩
    | val u'=>exact q
    | deep o =>
     obtain ⟨w,fp,e1,r,n,z⟩:=q
     subst e1
     refine ⟨w,fp,rfl,r.up (zcg hf) (zau.refl _),n,fun x hx=>⟨(z x hx).1,?_⟩⟩
     rw [za2 (fun y=>?_)]
     ·exact (z x hx).2
     ·subst y
      exact en (h.dj j i _ s w _ x b e a el ⟨fp,r,hx⟩ ((Holds.own hs).mpr rfl))
    | _=>cases ht
   | true =>
    obtain ⟨l2,e2,e3,e4,q2⟩:=q.own ht
    subst e2
    refine .ofOwn ht ⟨l2,rfl,e3,?_,q2.up (zcg hf) fun o' ho'=>ho'⟩
    rw [za2 (fun z=>?_)]
    ·exact e4
    ·subst z
     exact en (h.inj j i t s l2 b e ht hs a el)
 ·rcases zcx b with ⟨_,e',_⟩ | ⟨_,b⟩
  ·subst e'; exact (p.calm rfl).elim
  ·exact ⟨t,b,(h.at' j _ t c b).back (fun o fp _ r=>r.up (zcg hf) (zau.refl _)) p⟩
end
section
variable {X : Cx} {e : Expr}
theorem PE.imp {t t' : TE} (h : PE X e t) (i : ∀ σ H Q,t' σ H Q -> t σ H Q) : PE X e t':=fun pins s σ H Q I q=>h pins s σ H Q I (i σ H Q q)
theorem PT.imp {t t' : TT} (h : PT X e t) (i : ∀ σ H Q,t' σ H Q -> t σ H Q) : PT X e t':=fun pins s σ H Q I q=>h pins s σ H Q I (i σ H Q q)
theorem PW.imp {t t' : TT} (h : PW X e t) (i : ∀ σ H Q,t' σ H Q -> t σ H Q) : PW X e t':=fun wh pins s σ H Q I q=>h wh pins s σ H Q I (i σ H Q q)
theorem PA.imp {es : List Expr} {t t' : TA} (h : PA X es t) (i : ∀ σ H Q,t' σ H Q -> t σ H Q) : PA X es t':=fun pos pins s σ H Q I q=>h pos pins s σ H Q I (i σ H Q q)
theorem PS.imp {st : Stmt} {t t' : TS} (h : PS X st t) (i : ∀ E σ H,t' E σ H -> t E σ H) : PS X st t':=fun pins s σ H E I q=>h pins s σ H E I (i E σ H q)
theorem PSs.imp {st : List Stmt} {t t' : TS} (h : PSs X st t) (i : ∀ E σ H,t' E σ H -> t E σ H) : PSs X st t':=fun pins s σ H E I q=>h pins s σ H E I (i E σ H q)
theorem PG.imp {t t' : TG} (h : PG X e t) (i : ∀ v σ H Q,t' v σ H Q -> t v σ H Q) : PG X e t':=fun pins s σ H v u Q I r q=>h pins s σ H v u Q I r (i v σ H Q q)
theorem PGs.imp {es : List Expr} {t t' : TGs} (h : PGs X es t) (i : ∀ v σ H Q,t' v σ H Q -> t v σ H Q) : PGs X es t':=fun pins s σ H v u Q I r q=>h pins s σ H v u Q I r (i v σ H Q q)
theorem PI.imp {tg : Expr} {t t' : TI} (h : PI X tg e t) (i : ∀ σ H R,t' σ H R -> t σ H R) : PI X tg e t':=fun pins s σ H R I q=>h pins s σ H R I (i σ H R q)
theorem PTs.imp {ifs : List Expr} {t t' : TT} (h : PTs X ifs t) (i : ∀ σ H Q,t' σ H Q -> t σ H Q) : PTs X ifs t':=fun pins s σ H Q I q=>h pins s σ H Q I (i σ H Q q)
theorem OpR.imp {f : Value -> Value -> Sem Value} {r r' : R2} (h : OpR X f r) (i : ∀ x y H Q,r' x y H Q -> r x y H Q) : OpR X f r':=fun pins s σ H x y v u Q I rx ry q=>h pins s σ H x y v u Q I rx ry (i x y H Q q)
theorem zdp.imp {f : Value} {r r' : List V -> Hp -> VK -> Prop} (h : zdp X f r) (i : ∀ xs H Q,r' xs H Q -> r xs H Q) : zdp X f r':=fun pins s σ H xs us Q I rx q=>h pins s σ H xs us Q I rx (i xs H Q q)
end
noncomputable abbrev Gx (c : Str -> Addr) (X : Cx) : Gc:=⟨X.K,c⟩
noncomputable def tD (G : Gc) (f : List Sl -> Option D) : TE:=fun σ H Q=>∃ Hf0 H0 Hf ρ d,za0 G Hf0 H0 Hf H σ ρ /\ f ρ = some d /\ ∀ v Hf' H',Ext Hf H Hf' H' -> Rep G Hf' d v -> Q v H'
noncomputable def tDB (G : Gc) (f : List Sl -> Option D) : TE:=fun σ H Q=>∃ Hf0 H0 Hf ρ d,za0 G Hf0 H0 Hf H σ ρ /\ f ρ = some d /\ ∀ v Hf' H',Ext Hf H Hf' H' -> Rep G H' d v -> Q v H'
noncomputable def tDC (G : Gc) (f : List Sl -> Option (List D)) : TE:=fun σ H Q=>∃ Hf0 H0 Hf ρ ds,za0 G Hf0 H0 Hf H σ ρ /\ f ρ = some ds /\ ∀ a vs Hf' H',Ext Hf H Hf' H' -> (SqL G.K H' a vs \/ SqT G.K H' a vs) -> zai G Hf' ds vs -> Q (.ref a) H'
noncomputable def tDO (G : Gc) (f : List Sl -> Option (List D)) : TE:=fun σ H Q=>∃ Hf0 H0 Hf ρ ds,za0 G Hf0 H0 Hf H σ ρ /\ f ρ = some ds /\
 ∀ l vs Hf' H',Ext Hf H Hf' H' -> H l = none -> Hf' l = none -> H' l = some (.lst vs) -> zai G Hf' ds vs -> Q (.ref l) H'
noncomputable def tDA (G : Gc) (f : List Sl -> Option (List D)) : TA:=fun σ H Q=>∃ Hf0 H0 Hf ρ ds,za0 G Hf0 H0 Hf H σ ρ /\ f ρ = some ds /\ ∀ vs Hf' H',Ext Hf H Hf' H' -> zai G Hf' ds vs -> Q vs H'
noncomputable def z6h (G : Gc) (f : List Sl -> Option (List D)) : TA:=fun σ H Q=>∃ Hf0 H0 Hf ρ ds,za0 G Hf0 H0 Hf H σ ρ /\ f ρ = some ds /\ ∀ vs Hf' H',Ext Hf H Hf' H' -> zai G H' ds vs -> Q vs H'
noncomputable def tDT (G : Gc) (f : List Sl -> Option Bool) : TT:=fun σ H Q=>∃ Hf0 H0 Hf ρ b,za0 G Hf0 H0 Hf H σ ρ /\ f ρ = some b /\ ∀ Hf' H',Ext Hf H Hf' H' -> Q b H'
noncomputable def DE (c : Str -> Addr) (X : Cx) (e : Expr) (f : List Sl -> Option D) : Prop:=PE X e (tD (Gx c X) f)
noncomputable def DB (c : Str -> Addr) (X : Cx) (e : Expr) (f : List Sl -> Option D) : Prop:=PE X e (tDB (Gx c X) f)
noncomputable def DC (c : Str -> Addr) (X : Cx) (e : Expr) (f : List Sl -> Option (List D)) : Prop:=PE X e (tDC (Gx c X) f)
noncomputable def DO (c : Str -> Addr) (X : Cx) (e : Expr) (f : List Sl -> Option (List D)) : Prop:=PE X e (tDO (Gx c X) f)
structure DA (c : Str -> Addr) (X : Cx) (es : List Expr) (f : List Sl -> Option (List D)) : Prop where
 pa : PA X es (tDA (Gx c X) f)
 len : ∀ ρ ds,f ρ = some ds -> ds.length = es.length
structure DAB (c : Str -> Addr) (X : Cx) (es : List Expr) (f : List Sl -> Option (List D)) : Prop where
 pa : PA X es (z6h (Gx c X) f)
 len : ∀ ρ ds,f ρ = some ds -> ds.length = es.length
noncomputable def DT (c : Str -> Addr) (X : Cx) (e : Expr) (f : List Sl -> Option Bool) : Prop:=PT X e (tDT (Gx c X) f)
noncomputable def DW (c : Str -> Addr) (X : Cx) (e : Expr) (f : List Sl -> Option Bool) : Prop:=PW X e (tDT (Gx c X) f)
noncomputable def D.scalar : D -> Bool
 | .non=>true
 | .bl _=>true
 | .int _=>true
 | .str _=>true
 | _=>false
theorem Rep.sc {G : Gc} {H H' : Hp} {d : D} {v : V} (hs : d.scalar = true) (r : Rep G H d v) : Rep G H' d v:=by
 cases d <;> first | exact r | cases hs
noncomputable def zg8 : D -> Option (List D)
 | .lst xs=>some xs
 | .tup xs=>some xs
 | .kl xs=>some xs
 | .kt xs=>some xs
 | _=>none
theorem zlj {G : Gc} {H : Hp} {d : D} {v : V} {ds : List D} (e : zg8 d = some ds) (r : Rep G H d v) : ∃ a vs,v = .ref a /\ (SqL G.K H a vs \/ SqT G.K H a vs) /\ zai G H ds vs:=by
 cases d with
 | lst xs=>cases e; obtain ⟨a,vs,e1,q,r⟩:=r; exact ⟨a,vs,e1,.inl (SqL.of q),r⟩
 | tup xs=>cases e; obtain ⟨a,vs,e1,q,r⟩:=r; exact ⟨a,vs,e1,.inr (SqT.of q),r⟩
 | kl xs=>cases e; obtain ⟨a,vs,e1,q,r⟩:=r; exact ⟨a,vs,e1,.inl q,r⟩
 | kt xs=>cases e; obtain ⟨a,vs,e1,q,r⟩:=r; exact ⟨a,vs,e1,.inr q,r⟩
 | _=>cases e
theorem znw {K : PySem.W.Frag} {H H' : Hp} (s : zau H H') {a : Addr} {vs : List V} (h : SqL K H a vs \/ SqT K H a vs) : SqL K H' a vs \/ SqT K H' a vs:=h.imp s.seq s.tup
noncomputable def zan (f : List Sl -> Option (List D)) (ρ : List Sl) : Option D:=(f ρ).map .lst
noncomputable def zbe (f : List Sl -> Option (List D)) (ρ : List Sl) : Option D:=(f ρ).map .tup
noncomputable def zbh (f : List Sl -> Option D) (ρ : List Sl) : Option (List D):=(f ρ).bind zg8
noncomputable def zdk (f g : List Sl -> Option D) (ρ : List Sl) : Option D:=(f ρ).or (g ρ)
section
variable {c : Str -> Addr} {X : Cx} {e a b : Expr} {es : List Expr} {pos : Pos}
theorem DE.db {f : List Sl -> Option D} (h : DE c X e f) : DB c X e f:=PE.imp h fun σ H Q q_=>by
 obtain ⟨Hf0,H0,Hf,ρ,d,st,ef,k⟩:=q_
 exact (⟨Hf0,H0,Hf,ρ,d,st,ef,fun v Hf' H' x r=>k v Hf' H' x (r.up x.s)⟩)
theorem DE.dc {f : List Sl -> Option D} (h : DE c X e f) : DC c X e (zbh f):=PE.imp h fun σ H Q q_=>by
 obtain ⟨Hf0,H0,Hf,ρ,ds,st,ef,k⟩:=q_
 unfold zbh at ef
 cases ed : f ρ with
 | none=>rw [ed] at ef; cases ef
 | some d =>
  rw [ed] at ef
  refine ⟨Hf0,H0,Hf,ρ,d,st,ed,fun v Hf' H' x r=>?_⟩
  obtain ⟨a,vs,e1,q,rs⟩:=zlj ef r
  subst e1
  exact k a vs Hf' H' x (znw x.s q) rs
theorem DO.de {f : List Sl -> Option (List D)} (h : DO c X e f) : DE c X e (zan f):=PE.imp h fun σ H Q q_=>by
 obtain ⟨Hf0,H0,Hf,ρ,d,st,ef,k⟩:=q_
 unfold zan at ef
 cases ed : f ρ with
 | none=>rw [ed] at ef; cases ef
 | some ds =>
  rw [ed] at ef
  have ef : D.lst ds = d:=Option.some.inj ef
  subst ef
  exact ⟨Hf0,H0,Hf,ρ,ds,st,ed,fun l vs Hf' H' x hn hf hl r=>k _ (upd Hf' l (.lst vs)) H' (x.fix hn hf hl) ⟨l,vs,rfl,zbm,r.up (zcg hf)⟩⟩
theorem DO.dc {f : List Sl -> Option (List D)} (h : DO c X e f) : DC c X e f:=PE.imp h fun σ H Q q_=>by
 obtain ⟨Hf0,H0,Hf,ρ,ds,st,ef,k⟩:=q_
 exact (
 ⟨Hf0,H0,Hf,ρ,ds,st,ef,fun l vs Hf' H' x hn hf hl r=>k l vs Hf' H' x (.inl (SqL.of hl)) r⟩)
theorem DB.sc {f : List Sl -> Option D} (h : DB c X e f) (hs : ∀ ρ d,f ρ = some d -> d.scalar = true) : DE c X e f:=PE.imp h fun σ H Q q_=>by
 obtain ⟨Hf0,H0,Hf,ρ,d,st,ef,k⟩:=q_
 exact (
 ⟨Hf0,H0,Hf,ρ,d,st,ef,fun v Hf' H' x r=>k v Hf' H' x (r.sc (hs ρ d ef))⟩)
theorem DE.orE {f g : List Sl -> Option D} (h : DE c X e f) (h' : DE c X e g) : DE c X e (zdk f g):=fun pins s σ H Q I q_=>by
 obtain ⟨Hf0,H0,Hf,ρ,d,st,ef,k⟩:=q_
 unfold zdk at ef
 cases ed : f ρ with
 | some d' =>
  rw [ed] at ef
  cases ef
  exact h pins s σ H Q I ⟨Hf0,H0,Hf,ρ,_,st,ed,k⟩
 | none =>
  rw [ed] at ef
  exact h' pins s σ H Q I ⟨Hf0,H0,Hf,ρ,d,st,ef,k⟩
noncomputable def zaa (i : Nat) (ρ : List Sl) : Option D:=match ρ[i]? with
 | some (.im d)=>some d
 | _=>none
noncomputable def zgi (i : Nat) (ρ : List Sl) : Option D:=match ρ[i]? with
 | some (.im d)=>some d
 | some (.own xs)=>some (.lst xs)
 | some (.ownd ks xs)=>some (.dic ks xs)
 | some (.deep o)=>if o.kn then some o.toD else none
 | _=>none
noncomputable def zaf (i : Nat) (ρ : List Sl) : Option (List D):=match ρ[i]? with
 | some (.im d)=>zg8 d
 | some (.own xs)=>some xs
 | _=>none
theorem zwx {i : Nat} {ρ : List Sl} {d : D} (h : zaa i ρ = some d) : ρ[i]? = some (.im d):=by
 unfold zaa at h
 cases e : ρ[i]? with
 | none=>rw [e] at h; cases h
 | some s=>rw [e] at h; cases s <;> cases h; rfl
theorem zou {i : Nat} (h : PE X e (zd8 i)) : DE c X e (zaa i):=PE.imp h fun σ H Q q_=>by
 obtain ⟨Hf0,H0,Hf,ρ,d,st,ef,k⟩:=q_
 obtain ⟨v,e1,r⟩:=st.imm (zwx ef)
 exact ⟨v,e1,k v Hf H (Ext.refl st.sub) r⟩
theorem zty {i : Nat} (h : PE X e (zd8 i)) : DC c X e (zaf i):=PE.imp h fun σ H Q q_=>by
 obtain ⟨Hf0,H0,Hf,ρ,ds,st,ef,k⟩:=q_
 unfold zaf at ef
 cases es : ρ[i]? with
 | none=>rw [es] at ef; cases ef
 | some s =>
  rw [es] at ef
  cases s with
  | im d =>
   obtain ⟨v,e1,r⟩:=st.imm es
   obtain ⟨a,vs,e2,q,rs⟩:=zlj ef r
   subst e2
   exact ⟨_,e1,k a vs Hf H (Ext.refl st.sub) (znw st.sub q) rs⟩
  | own xs =>
   cases ef
   obtain ⟨l,e1,_,_,vs,q,r⟩:=st.ownAt rfl es
   exact ⟨_,e1,k l vs Hf H (Ext.refl st.sub) (.inl (SqL.of q)) r⟩
  | _=>cases ef
theorem zq9 {i : Nat} (h : PE X e (zd8 i)) : DB c X e (zgi i):=PE.imp h fun σ H Q q_=>by
 obtain ⟨Hf0,H0,Hf,ρ,d,st,ef,k⟩:=q_
 unfold zgi at ef
 cases es : ρ[i]? with
 | none=>rw [es] at ef; cases ef
 | some s =>
  rw [es] at ef
  cases s with
  | im d =>
   cases ef
   obtain ⟨v,e1,r⟩:=st.imm es
   exact ⟨_,e1,k v Hf H (Ext.refl st.sub) (r.up st.sub)⟩
  | own xs =>
   cases ef
   obtain ⟨l,e1,_,_,vs,q,r⟩:=st.ownAt rfl es
   exact ⟨_,e1,k _ Hf H (Ext.refl st.sub) ⟨l,vs,rfl,q,r.up st.sub⟩⟩
  | ownd ks xs =>
   cases ef
   obtain ⟨l,e1,_,_,vs,q,z,r⟩:=st.ownAt rfl es
   exact ⟨_,e1,k _ Hf H (Ext.refl st.sub) ⟨l,vs,rfl,q,z,r.up st.sub⟩⟩
  | deep o =>
   replace ef : (if o.kn = true then some o.toD else none) = some d:=ef
   split at ef
   ·rename_i hk
    cases ef
    obtain ⟨v,e1,u,fp,e2,r,_⟩:=st.slot es
    subst e2
    exact ⟨_,e1,k _ Hf H (Ext.refl st.sub) (r.rep st.sub hk)⟩
   ·cases ef
  | _=>cases ef
theorem zl4 {v : V} {d : D} (h : PE X e (tC v)) (r : ∀ G H,Rep G H d v) : DE c X e (fun _=>some d):=PE.imp h fun σ H Q q_=>by
 obtain ⟨Hf0,H0,Hf,ρ,d',st,ef,k⟩:=q_
 cases ef
 exact k v Hf H (Ext.refl st.sub) (r _ _)
theorem zad {i : Int} {j} : DE c X (.Constant (.int i) j pos) (fun _=>some (.int i)):=zl4 zvy fun _ _=>rfl
theorem zcb {i : Bool} {j} : DE c X (.Constant (.bool i) j pos) (fun _=>some (.bl i)):=zl4 z8u fun _ _=>rfl
theorem ze9 {j} : DE c X (.Constant .none j pos) (fun _=>some .non):=zl4 z6e fun _ _=>rfl
theorem zbk {i : Str} {j} : DE c X (.Constant (.str i) j pos) (fun _=>some (.str i)):=zl4 z1x fun _ _=>rfl
theorem dv (i : Nat) {x : Str} (hN : X.N[i]? = some x:=by rfl) (hv : Vis X.env.scope x:=by first | exact Or.inl rfl | exact Or.inr (Or.inl rfl) | exact Or.inr (Or.inr rfl)) (hd : (x == ("__debug__" : Str)) = false:=by decide)
  (hcd : (x == ("__classdict__" : Str)) = false:=by decide) : DE c X (.Name x pos) (zaa i):=zou (zhj hN hv hd hcd)
theorem dvC (i : Nat) {x : Str} (hN : X.N[i]? = some x:=by rfl) (hv : Vis X.env.scope x:=by first | exact Or.inl rfl | exact Or.inr (Or.inl rfl) | exact Or.inr (Or.inr rfl)) (hd : (x == ("__debug__" : Str)) = false:=by decide)
  (hcd : (x == ("__classdict__" : Str)) = false:=by decide) : DC c X (.Name x pos) (zaf i):=zty (zhj hN hv hd hcd)
theorem dvB (i : Nat) {x : Str} (hN : X.N[i]? = some x:=by rfl) (hv : Vis X.env.scope x:=by first | exact Or.inl rfl | exact Or.inr (Or.inl rfl) | exact Or.inr (Or.inr rfl)) (hd : (x == ("__debug__" : Str)) = false:=by decide)
  (hcd : (x == ("__classdict__" : Str)) = false:=by decide) : DB c X (.Name x pos) (zgi i):=zq9 (zhj hN hv hd hcd)
noncomputable def zab (f : List Sl -> Option D) (g : List Sl -> Option (List D)) (ρ : List Sl) : Option (List D):=(f ρ).bind fun d=>(g ρ).map fun ds=>d :: ds
theorem zm4 {f : List Sl -> Option D} {g : List Sl -> Option (List D)} {ρ : List Sl} {ds : List D} (h : zab f g ρ = some ds) : ∃ d r,f ρ = some d /\ g ρ = some r /\ ds = d :: r:=by
 unfold zab at h
 cases e1 : f ρ with
 | none=>rw [e1] at h; cases h
 | some d =>
  cases e2 : g ρ with
  | none=>rw [e1,e2] at h; cases h
  | some r=>rw [e1,e2] at h; cases h; exact ⟨d,r,rfl,rfl,rfl⟩
theorem zag : DA c X [] (fun _=>some []):=⟨PA.imp zdy fun σ H Q ⟨Hf0,H0,Hf,ρ,ds,st,ef,k⟩=>by cases ef; exact k [] Hf H (Ext.refl st.sub) rfl,fun ρ ds h=>by cases h; rfl⟩
theorem zac {f : List Sl -> Option D} {g : List Sl -> Option (List D)} (ha : DE c X e f) (hr : DA c X es g) (hs : starEach (e :: es) X.env = (false,eval e X.env) :: starEach es X.env:=by rfl) : DA c X (e :: es) (zab f g):=by
 refine ⟨PA.imp (zdr ha hr.pa hs) fun σ H Q ⟨Hf0,H0,Hf,ρ,ds,st,ef,k⟩=>?_,fun ρ ds h=>?_⟩
 ·obtain ⟨d,r,e1,e2,rfl⟩:=zm4 ef
  exact ⟨Hf0,H0,Hf,ρ,d,st,e1,fun v Hf1 H1 x1 r1=>⟨Hf0,H0,Hf1,ρ,r,st.step x1,e2,fun vs Hf2 H2 x2 r2=>k _ Hf2 H2 (x1.trans x2) (.cons (r1.up x2.f) r2)⟩⟩
 ·obtain ⟨d,r,e1,e2,rfl⟩:=zm4 h
  simp [hr.len ρ r e2]
theorem zcc : DAB c X [] (fun _=>some []):=⟨PA.imp zdy fun σ H Q ⟨Hf0,H0,Hf,ρ,ds,st,ef,k⟩=>by cases ef; exact k [] Hf H (Ext.refl st.sub) rfl,fun ρ ds h=>by cases h; rfl⟩
theorem zbv {f : List Sl -> Option D} {g : List Sl -> Option (List D)} (ha : DB c X e f) (hr : DAB c X es g) (hs : starEach (e :: es) X.env = (false,eval e X.env) :: starEach es X.env:=by rfl) : DAB c X (e :: es) (zab f g):=by
 refine ⟨PA.imp (zdr ha hr.pa hs) fun σ H Q ⟨Hf0,H0,Hf,ρ,ds,st,ef,k⟩=>?_,fun ρ ds h=>?_⟩
 ·obtain ⟨d,r,e1,e2,rfl⟩:=zm4 ef
  exact ⟨Hf0,H0,Hf,ρ,d,st,e1,fun v Hf1 H1 x1 r1=>⟨Hf0,H0,Hf1,ρ,r,st.step x1,e2,fun vs Hf2 H2 x2 r2=>k _ Hf2 H2 (x1.trans x2) (.cons (r1.up x2.h) r2)⟩⟩
 ·obtain ⟨d,r,e1,e2,rfl⟩:=zm4 h
  simp [hr.len ρ r e2]
theorem zbz {f : List Sl -> Option (List D)} (h : DA c X es f) (hz : es.length <= 1000:=by exact Nat.le_of_ble_eq_true rfl) : DO c X (.List es pos) f:=PE.imp (zzc h.pa) fun σ H Q ⟨Hf0,H0,Hf,ρ,ds,st,ef,k⟩ =>
 ⟨Hf0,H0,Hf,ρ,ds,st,ef,fun vs Hf' H' x r=>⟨by
  rw [<- r.length,h.len ρ ds ef]
  exact Nat.le_of_lt (zmw hz),fun p hp=>k p vs Hf' (upd H' p (.lst vs)) (x.trans (Ext.tmp x.s hp)) (x.h.free hp) (x.s.free hp) zbm r⟩⟩
theorem zbw {f : List Sl -> Option (List D)} {k' : Nat} (h : DA c X es f) (hz : es.length <= 1000:=by exact Nat.le_of_ble_eq_true rfl) : DE c X (.Tuple es k' pos) (zbe f):=PE.imp (zzk h.pa) fun σ H Q q_=>by
 obtain ⟨Hf0,H0,Hf,ρ,d,st,ef,k⟩:=q_
 unfold zbe at ef
 cases ed : f ρ with
 | none=>rw [ed] at ef; cases ef
 | some ds =>
  rw [ed] at ef
  have ef : D.tup ds = d:=Option.some.inj ef
  subst ef
  exact ⟨Hf0,H0,Hf,ρ,ds,st,ed,fun vs Hf' H' x r=>⟨by
   rw [<- r.length,h.len ρ ds ed]
   exact Nat.le_of_lt (zmw hz),fun p hp=>k _ (upd Hf' p (.tup vs)) (upd H' p (.tup vs)) (x.trans (Ext.new x.s hp)) ⟨p,vs,rfl,zbm,r.up (zcg (x.s.free hp))⟩⟩⟩
noncomputable def rD (G : Gc) (m : D -> D -> Option D) : R2:=fun vx vy H Q=>∃ Hf x y d,zau Hf H /\ Rep G Hf x vx /\ Rep G Hf y vy /\ m x y = some d /\ ∀ v Hf' H',Ext Hf H Hf' H' -> Rep G Hf' d v -> Q v H'
noncomputable abbrev OpD (c : Str -> Addr) (X : Cx) (f : Value -> Value -> Sem Value) (m : D -> D -> Option D) : Prop:=OpR X f (rD (Gx c X) m)
noncomputable def m2 (m : D -> D -> Option D) (f g : List Sl -> Option D) (ρ : List Sl) : Option D:=(f ρ).bind fun x=>(g ρ).bind fun y=>m x y
theorem zl8 {m : D -> D -> Option D} {f g : List Sl -> Option D} {ρ : List Sl} {d : D} (h : m2 m f g ρ = some d) : ∃ x y,f ρ = some x /\ g ρ = some y /\ m x y = some d:=by
 unfold m2 at h
 cases e1 : f ρ with
 | none=>rw [e1] at h; cases h
 | some x =>
  cases e2 : g ρ with
  | none=>rw [e1,e2] at h; cases h
  | some y=>rw [e1,e2] at h; exact ⟨x,y,rfl,rfl,h⟩
theorem two {m : D -> D -> Option D} {f g : List Sl -> Option D} {r : R2} {σ : St} {H : Hp} {Q : VK} (hr : ∀ x y H Q,rD (Gx c X) m x y H Q -> r x y H Q) (h : tD (Gx c X) (m2 m f g) σ H Q) : tOp r (tD (Gx c X) f) (tD (Gx c X) g) σ H Q:=by
 obtain ⟨Hf0,H0,Hf,ρ,d,st,ef,k⟩:=h
 obtain ⟨x,y,e1,e2,e3⟩:=zl8 ef
 exact ⟨Hf0,H0,Hf,ρ,x,st,e1,fun v Hf1 H1 x1 r1=>⟨Hf0,H0,Hf1,ρ,y,st.step x1,e2,fun u Hf2 H2 x2 r2=>hr _ _ _ _ ⟨Hf2,x,y,d,x2.s,r1.up x2.f,r2,e3,fun w Hf3 H3 x3 r3=>k w Hf3 H3 ((x1.trans x2).trans x3) r3⟩⟩⟩
theorem ztd {m : D -> D -> Option D} {f g : List Sl -> Option D} {r : R2} {σ : St} {H : Hp} {Q : VK} (hr : ∀ x y H Q,rD (Gx c X) m x y H Q -> r x y H Q) (hs : ∀ x y d,m x y = some d -> d.scalar = true) (h : tD (Gx c X) (m2 m f g) σ H Q) : tOp r (tDB (Gx c X) f) (tDB (Gx c X) g) σ H Q:=by
 obtain ⟨Hf0,H0,Hf,ρ,d,st,ef,k⟩:=h
 obtain ⟨x,y,e1,e2,e3⟩:=zl8 ef
 exact ⟨Hf0,H0,Hf,ρ,x,st,e1,fun v Hf1 H1 x1 r1=>⟨Hf0,H0,Hf1,ρ,y,st.step x1,e2,fun u Hf2 H2 x2 r2=>hr _ _ _ _ ⟨H2,x,y,d,zau.refl _,r1.up x2.h,r2,e3,fun w Hf3 H3 x3 r3 =>
  k w Hf2 H3 ((x1.trans x2).trans (Ext.grow x2.s x3.h)) (r3.sc (hs _ _ _ e3))⟩⟩⟩
theorem zat {op : Operator} {m : D -> D -> Option D} {f g : List Sl -> Option D} (ho : OpD c X (binaryOp op) m) (ha : DE c X a f) (hb : DE c X b g) : DE c X (.BinOp a op b pos) (m2 m f g) :=
 PE.imp (zvh ho ha hb) fun _ _ _ h=>two (fun _ _ _ _ h=>h) h
theorem zcf {op : CmpOp} {m : D -> D -> Option D} {f g : List Sl -> Option D} (ho : OpD c X (compareOp op) m) (hs : ∀ x y d,m x y = some d -> d.scalar = true) (ha : DB c X a f) (hb : DB c X b g) (hm : behindInMarks op b = false:=by first | exact ztx _ | rfl) :
  DE c X (.Compare a [op] [b] pos) (m2 m f g):=PE.imp (zv4 ho ha hb hm) fun _ _ _ h=>ztd (fun _ _ _ _ h=>h) hs h
noncomputable def mB (f : List Sl -> Option D) (ρ : List Sl) : Option Bool:=(f ρ).bind fun d=>match d with
 | .bl b=>some b
 | _=>none
theorem zmj {f : List Sl -> Option D} {ρ : List Sl} {b : Bool} (h : mB f ρ = some b) : f ρ = some (.bl b):=by
 unfold mB at h
 cases e : f ρ with
 | none=>rw [e] at h; cases h
 | some d=>rw [e] at h; cases d <;> cases h; rfl
theorem zbg {op : CmpOp} {m : D -> D -> Option D} {f g : List Sl -> Option D} (ho : OpD c X (compareOp op) m) (hs : ∀ x y d,m x y = some d -> d.scalar = true) (ha : DB c X a f) (hb : DB c X b g) (hm : behindInMarks op b = false:=by first | exact ztx _ | rfl) :
  DT c X (.Compare a [op] [b] pos) (mB (m2 m f g)):=PT.imp (z3c ho ha hb hm) fun σ H Q ⟨Hf0,H0,Hf,ρ,b,st,ef,k⟩ =>
 ztd (fun _ _ _ _ h=>h) hs ⟨Hf0,H0,Hf,ρ,.bl b,st,zmj ef,fun v Hf' H' x r=>⟨b,r,k Hf' H' x⟩⟩
noncomputable def zoh : D -> Option Bool
 | .non=>some false
 | .bl b=>some b
 | .int i=>some (i != 0)
 | .str x=>if x.length <= 16777216 then some ((x.length : Int) != 0) else none
 | .lst xs=>some (!xs.isEmpty)
 | .tup xs=>some (!xs.isEmpty)
 | .kl xs=>some (!xs.isEmpty)
 | .kt xs=>some (!xs.isEmpty)
 | .dic ks _=>some (!ks.isEmpty)
 | _=>none
theorem zai.empty {G : Gc} {H : Hp} {ds : List D} {vs : List V} (r : zai G H ds vs) : ds.isEmpty = vs.isEmpty:=by
 cases ds with
 | nil=>cases (show vs = [] from r); rfl
 | cons d ds=>obtain ⟨v,r',e,_⟩:=r; subst e; rfl
theorem z8k {α β : Type} {ks : List α} {vs : List β} (h : ks.length = vs.length) : (ks.zip vs).isEmpty = ks.isEmpty:=by
 cases ks <;> cases vs <;> first | rfl | cases h
theorem z7f {G : Gc} {H : Hp} {d : D} {v : V} {b : Bool} (e : zoh d = some b) (r : Rep G H d v) : zn3 G.K v H b:=by
 cases d with
 | non=>cases e; cases r; rfl
 | bl x=>cases e; cases r; rfl
 | int i=>cases e; cases r; rfl
 | str x =>
  cases r
  replace e : (if x.length <= 16777216 then some ((x.length : Int) != 0) else none) = some b:=e
  split at e
  ·rename_i hl
   cases e
   exact ⟨by rw [sizeLine_eq]; exact hl,rfl⟩
  ·cases e
 | lst xs=>cases e; obtain ⟨a,vs,e1,q,r⟩:=r; subst e1; exact .inl ⟨vs,SqL.of q,by rw [r.empty]⟩
 | tup xs=>cases e; obtain ⟨a,vs,e1,q,r⟩:=r; subst e1; exact .inr (.inl ⟨vs,SqT.of q,by rw [r.empty]⟩)
 | kl xs=>cases e; obtain ⟨a,vs,e1,q,r⟩:=r; subst e1; exact .inl ⟨vs,q,by rw [r.empty]⟩
 | kt xs=>cases e; obtain ⟨a,vs,e1,q,r⟩:=r; subst e1; exact .inr (.inl ⟨vs,q,by rw [r.empty]⟩)
 | dic ks xs=>cases e; obtain ⟨a,vs,e1,q,l,r⟩:=r; subst e1; exact .inr (.inr ⟨_,q,by rw [z8k l]⟩)
 | ins _ _ _=>cases e
 | kd _ _=>cases e
noncomputable def zcu (f : List Sl -> Option D) (ρ : List Sl) : Option Bool:=(f ρ).bind zoh
theorem zdj {f : List Sl -> Option D} (ha : DB c X a f) (he : ∀ whole,isTrue a X.env whole = (do let v <- whole; standAt a.pos; holding [v] (truthy v)):=by intro _; rfl) : DT c X a (zcu f) :=
 PT.imp (z0e ha he) fun σ H Q q_=>by
  obtain ⟨Hf0,H0,Hf,ρ,b,st,ef,k⟩:=q_
  unfold zcu at ef
  cases ed : f ρ with
  | none=>rw [ed] at ef; cases ef
  | some d =>
   rw [ed] at ef
   exact ⟨Hf0,H0,Hf,ρ,d,st,ed,fun v Hf' H' x r=>⟨b,z7f ef r,k Hf' H' x⟩⟩
noncomputable def zdh (f g : List Sl -> Option Bool) (ρ : List Sl) : Option Bool:=(f ρ).bind fun b=>if b then g ρ else some false
noncomputable def mOr (f g : List Sl -> Option Bool) (ρ : List Sl) : Option Bool:=(f ρ).bind fun b=>if b then some true else g ρ
noncomputable def zd7 (f : List Sl -> Option Bool) (ρ : List Sl) : Option Bool:=(f ρ).map not
theorem DW.dt {f : List Sl -> Option Bool} (h : DW c X e f) : DT c X e f:=PW.pt h
theorem zgs {f : List Sl -> Option Bool} (h : DT c X a f) : DW c X (.BoolOp .And [a] pos) f:=z3z h
theorem zmr {f : List Sl -> Option Bool} (h : DT c X a f) : DW c X (.BoolOp .Or [a] pos) f:=z72 h
theorem zfo {f g : List Sl -> Option Bool} {zcd : List Expr} (h : DT c X a f) (h' : DW c X (.BoolOp .And (b :: zcd) pos) g) : DW c X (.BoolOp .And (a :: b :: zcd) pos) (zdh f g):=PW.imp (z4m h h') fun σ H Q q_=>by
 obtain ⟨Hf0,H0,Hf,ρ,b,st,ef,k⟩:=q_
 unfold zdh at ef
 cases e1 : f ρ with
 | none=>rw [e1] at ef; cases ef
 | some x =>
  rw [e1] at ef
  refine ⟨Hf0,H0,Hf,ρ,x,st,e1,fun Hf1 H1 x1=>?_⟩
  cases x with
  | true=>rw [if_pos rfl]; exact ⟨Hf0,H0,Hf1,ρ,b,st.step x1,ef,fun Hf2 H2 x2=>k Hf2 H2 (x1.trans x2)⟩
  | false=>cases ef; rw [if_neg Bool.false_ne_true]; exact k Hf1 H1 x1
theorem zlk {f g : List Sl -> Option Bool} {zcd : List Expr} (h : DT c X a f) (h' : DW c X (.BoolOp .Or (b :: zcd) pos) g) : DW c X (.BoolOp .Or (a :: b :: zcd) pos) (mOr f g):=PW.imp (zxl h h') fun σ H Q q_=>by
 obtain ⟨Hf0,H0,Hf,ρ,b,st,ef,k⟩:=q_
 unfold mOr at ef
 cases e1 : f ρ with
 | none=>rw [e1] at ef; cases ef
 | some x =>
  rw [e1] at ef
  refine ⟨Hf0,H0,Hf,ρ,x,st,e1,fun Hf1 H1 x1=>?_⟩
  cases x with
  | false=>rw [if_neg Bool.false_ne_true]; exact ⟨Hf0,H0,Hf1,ρ,b,st.step x1,ef,fun Hf2 H2 x2=>k Hf2 H2 (x1.trans x2)⟩
  | true=>cases ef; rw [if_pos rfl]; exact k Hf1 H1 x1
theorem zfr {f : List Sl -> Option Bool} (h : DT c X a f) : DT c X (.UnaryOp .Not a pos) (zd7 f):=PT.imp (zvs h) fun σ H Q q_=>by
 obtain ⟨Hf0,H0,Hf,ρ,b,st,ef,k⟩:=q_
 unfold zd7 at ef
 cases e1 : f ρ with
 | none=>rw [e1] at ef; cases ef
 | some x =>
  rw [e1] at ef
  cases ef
  exact ⟨Hf0,H0,Hf,ρ,x,st,e1,fun Hf1 H1 x1=>k Hf1 H1 x1⟩
noncomputable def zec (f g : List Sl -> Option D) (ρ : List Sl) : Option D:=(mB f ρ).bind fun b=>if b then g ρ else some (.bl false)
noncomputable def vOr (f g : List Sl -> Option D) (ρ : List Sl) : Option D:=(mB f ρ).bind fun b=>if b then some (.bl true) else g ρ
noncomputable def zhe (f : List Sl -> Option D) (ρ : List Sl) : Option D:=(mB f ρ).map fun b=>.bl (!b)
theorem zhu {f : List Sl -> Option D} {op} (h : DE c X a f) : DE c X (.BoolOp op [a] pos) f:=zzy h
theorem zgp {f g : List Sl -> Option D} {zcd : List Expr} (h : DE c X a f) (h' : DE c X (.BoolOp .And (b :: zcd) pos) g) : DE c X (.BoolOp .And (a :: b :: zcd) pos) (zec f g):=PE.imp (zz2 h h') fun σ H Q q_=>by
 obtain ⟨Hf0,H0,Hf,ρ,d,st,ef,k⟩:=q_
 unfold zec at ef
 cases e1 : mB f ρ with
 | none=>rw [e1] at ef; cases ef
 | some x =>
  rw [e1] at ef
  refine ⟨Hf0,H0,Hf,ρ,.bl x,st,zmj e1,fun v Hf1 H1 x1 r1=>⟨x,r1,?_⟩⟩
  cases x with
  | true=>rw [if_pos rfl]; exact ⟨Hf0,H0,Hf1,ρ,d,st.step x1,ef,fun v Hf2 H2 x2 r2=>k v Hf2 H2 (x1.trans x2) r2⟩
  | false=>cases ef; rw [if_neg Bool.false_ne_true]; exact k _ Hf1 H1 x1 rfl
theorem z27 {f g : List Sl -> Option D} {zcd : List Expr} (h : DE c X a f) (h' : DE c X (.BoolOp .Or (b :: zcd) pos) g) : DE c X (.BoolOp .Or (a :: b :: zcd) pos) (vOr f g):=PE.imp (zx1 h h') fun σ H Q q_=>by
 obtain ⟨Hf0,H0,Hf,ρ,d,st,ef,k⟩:=q_
 unfold vOr at ef
 cases e1 : mB f ρ with
 | none=>rw [e1] at ef; cases ef
 | some x =>
  rw [e1] at ef
  refine ⟨Hf0,H0,Hf,ρ,.bl x,st,zmj e1,fun v Hf1 H1 x1 r1=>⟨x,r1,?_⟩⟩
  cases x with
  | false=>rw [if_neg Bool.false_ne_true]; exact ⟨Hf0,H0,Hf1,ρ,d,st.step x1,ef,fun v Hf2 H2 x2 r2=>k v Hf2 H2 (x1.trans x2) r2⟩
  | true=>cases ef; rw [if_pos rfl]; exact k _ Hf1 H1 x1 rfl
theorem zn7 {f : List Sl -> Option D} (h : DE c X a f) : DE c X (.UnaryOp .Not a pos) (zhe f):=PE.imp (z5r h) fun σ H Q q_=>by
 obtain ⟨Hf0,H0,Hf,ρ,d,st,ef,k⟩:=q_
 unfold zhe at ef
 cases e1 : mB f ρ with
 | none=>rw [e1] at ef; cases ef
 | some x =>
  rw [e1] at ef
  cases ef
  exact ⟨Hf0,H0,Hf,ρ,.bl x,st,zmj e1,fun v Hf1 H1 x1 r1=>⟨x,r1,k _ Hf1 H1 x1 rfl⟩⟩
end
noncomputable instance {i j : Int} : Decidable (zk2 i j):=by unfold zk2; infer_instance
noncomputable instance {i j : Int} : Decidable (zhp i j):=by unfold zhp; infer_instance
noncomputable instance {i j : Int} : Decidable (zh9 i j):=by unfold zh9; infer_instance
noncomputable def dI (C : Int -> Int -> Prop) [∀ i j,Decidable (C i j)] (g : Int -> Int -> D) : D -> D -> Option D
 | .int i,.int j=>if C i j then some (g i j) else none
 | _,_=>none
noncomputable def dI0 (g : Int -> Int -> D) : D -> D -> Option D
 | .int i,.int j=>some (g i j)
 | _,_=>none
noncomputable def zb7 : D -> D -> Option D
 | .int i,.int j=>some (.int (i + j))
 | .str a,.str b=>if a.length + b.length <= 16777216 then some (.str (a ++ b)) else none
 | .lst a,.lst b=>if a.length + b.length <= 16777216 then some (.lst (a ++ b)) else none
 | _,_=>none
noncomputable abbrev zf4 : D -> D -> Option D:=dI0 fun i j=>.int (i - j)
noncomputable abbrev z0p : D -> D -> Option D:=dI zh9 fun i j=>.int (i * j)
noncomputable abbrev zga : D -> D -> Option D:=dI zk2 fun i j=>.int (i / j)
noncomputable abbrev zbj : D -> D -> Option D:=dI (fun _ j=>0 < j) fun i j=>.int (i % j)
noncomputable abbrev zm0 : D -> D -> Option D:=dI zhp fun i j=>.int (i ^ j.toNat)
noncomputable abbrev z0v : D -> D -> Option D:=dI (fun _ j=>0 <= j) fun i j=>.int (i / 2 ^ j.toNat)
noncomputable abbrev z4q : D -> D -> Option D:=dI0 fun i j=>.int (Builtin.bitAnd i j)
noncomputable abbrev dLt : D -> D -> Option D:=dI0 fun i j=>.bl (decide (i < j))
noncomputable abbrev dLe : D -> D -> Option D:=dI0 fun i j=>.bl (decide (i <= j))
noncomputable abbrev dGt : D -> D -> Option D:=dI0 fun i j=>.bl (decide (j < i))
noncomputable abbrev dGe : D -> D -> Option D:=dI0 fun i j=>.bl (decide (j <= i))
section
variable {c : Str -> Addr} {X : Cx}
theorem zmf {f : Value -> Value -> Sem Value} {C : Int -> Int -> Prop} [∀ i j,Decidable (C i j)] {g : Int -> Int -> V} {gd : Int -> Int -> D} (h : OpR X f (rI C g)) (hg : ∀ G H i j,Rep G H (gd i j) (g i j)) : OpD c X f (dI C gd):=by
 rintro pins s σ H vx vy v u Q I rx ry ⟨Hf,x,y,d,s0,r1,r2,e,k⟩
 unfold dI at e
 split at e
 ·split at e
  ·rename_i hc
   cases e
   exact h pins s σ H vx vy v u Q I rx ry ⟨_,_,r1,r2,hc,k _ Hf H (Ext.refl s0) (hg _ _ _ _)⟩
  ·cases e
 ·cases e
theorem zks {f : Value -> Value -> Sem Value} {g : Int -> Int -> V} {gd : Int -> Int -> D} (h : OpR X f (rI0 g)) (hg : ∀ G H i j,Rep G H (gd i j) (g i j)) : OpD c X f (dI0 gd):=by
 rintro pins s σ H vx vy v u Q I rx ry ⟨Hf,x,y,d,s0,r1,r2,e,k⟩
 unfold dI0 at e
 split at e
 ·cases e
  exact h pins s σ H vx vy v u Q I rx ry ⟨_,_,r1,r2,k _ Hf H (Ext.refl s0) (hg _ _ _ _)⟩
 ·cases e
theorem zc4 : OpD c X (binaryOp .Add) zb7:=by
 rintro pins s σ H vx vy v u Q I rx ry ⟨Hf,x,y,d,s0,r1,r2,e,k⟩
 unfold zb7 at e
 split at e
 ·cases e
  exact zv5 pins s σ H vx vy v u Q I rx ry ⟨_,_,r1,r2,k _ Hf H (Ext.refl s0) rfl⟩
 ·split at e
  ·rename_i hl
   cases e
   exact zx8 pins s σ H vx vy v u Q I rx ry ⟨_,_,r1,r2,by rw [sizeLine_eq]; exact hl,k _ Hf H (Ext.refl s0) rfl⟩
  ·cases e
 ·split at e
  ·rename_i hl
   cases e
   obtain ⟨a,vs,e1,q1,r1⟩:=r1
   obtain ⟨b,us,e2,q2,r2⟩:=r2
   exact zqx pins s σ H vx vy v u Q I rx ry ⟨a,b,vs,us,e1,e2,s0 _ _ q1,s0 _ _ q2,by rw [sizeLine_eq,<- r1.length,<- r2.length]; exact hl,
    fun p hp=>k _ (upd Hf p (.lst (vs ++ us))) (upd H p (.lst (vs ++ us))) (Ext.new s0 hp) ⟨p,_,rfl,zbm,(r1.append r2).up (zcg (s0.free hp))⟩⟩
  ·cases e
 ·cases e
theorem zkg : OpD c X (binaryOp .Sub) zf4:=zks zyk fun _ _ _ _=>rfl
theorem zhw : OpD c X (binaryOp .FloorDiv) zga:=zmf z10 fun _ _ _ _=>rfl
theorem zb6 : OpD c X (binaryOp .Mod) zbj:=zmf z0w fun _ _ _ _=>rfl
theorem ztz : OpD c X (binaryOp .Pow) zm0:=zmf zya fun _ _ _ _=>rfl
theorem zlp : OpD c X (compareOp .Lt) dLt:=zks z6b fun _ _ _ _=>rfl
theorem zl2 : OpD c X (compareOp .LtE) dLe:=zks z8w fun _ _ _ _=>rfl
theorem zkx : OpD c X (compareOp .Gt) dGt:=zks zzw fun _ _ _ _=>rfl
theorem zp3 : OpD c X (compareOp .GtE) dGe:=zks zww fun _ _ _ _=>rfl
theorem zl0 {g : Int -> Int -> D} (hg : ∀ i j,(g i j).scalar = true) : ∀ x y d,dI0 g x y = some d -> d.scalar = true:=by
 intro x y d e
 unfold dI0 at e
 split at e
 ·cases e; exact hg _ _
 ·cases e
theorem zlb : ∀ x y d,dLt x y = some d -> d.scalar = true:=zl0 fun _ _=>rfl
theorem zmy : ∀ x y d,dLe x y = some d -> d.scalar = true:=zl0 fun _ _=>rfl
theorem zk0 : ∀ x y d,dGt x y = some d -> d.scalar = true:=zl0 fun _ _=>rfl
theorem zp8 : ∀ x y d,dGe x y = some d -> d.scalar = true:=zl0 fun _ _=>rfl
noncomputable def zho : D -> Option D
 | .int i=>some (.int (-i))
 | _=>none
noncomputable def m1 (m : D -> Option D) (f : List Sl -> Option D) (ρ : List Sl) : Option D:=(f ρ).bind m
theorem zos {a : Expr} {f : List Sl -> Option D} {pos : Pos} (ha : DE c X a f) : DE c X (.UnaryOp .USub a pos) (m1 zho f):=PE.imp (z0d z45 ha) fun σ H Q q_=>by
 obtain ⟨Hf0,H0,Hf,ρ,d,st,ef,k⟩:=q_
 unfold m1 at ef
 cases e1 : f ρ with
 | none=>rw [e1] at ef; cases ef
 | some y =>
  rw [e1] at ef
  cases y with
  | int i=>cases ef; exact ⟨Hf0,H0,Hf,ρ,.int i,st,e1,fun v Hf' H' x r=>⟨i,r,k _ Hf' H' x rfl⟩⟩
  | _=>cases ef
noncomputable def zri : D -> Bool
 | .non=>true
 | _=>false
theorem zve {G : Gc} {H : Hp} {x : D} {v : V} (r : Rep G H x v) : decide (v = .non) = zri x:=by
 cases x with
 | non=>cases r; rfl
 | bl b=>cases r; rfl
 | int i=>cases r; rfl
 | str x=>cases r; rfl
 | lst _=>obtain ⟨a,_,e,_⟩:=r; subst e; rfl
 | tup _=>obtain ⟨a,_,e,_⟩:=r; subst e; rfl
 | kl _=>obtain ⟨a,_,e,_⟩:=r; subst e; rfl
 | kt _=>obtain ⟨a,_,e,_⟩:=r; subst e; rfl
 | dic _ _=>obtain ⟨a,_,e,_⟩:=r; subst e; rfl
 | ins _ _ _=>obtain ⟨a,_,_,e,_⟩:=r; subst e; rfl
 | kd _ _=>obtain ⟨a,_,_,e,_⟩:=r; subst e; rfl
noncomputable def isD (x y : D) : Option Bool:=match y with
 | .non=>some (zri x)
 | .bl b=>match x with
  | .non=>some false
  | .bl a=>some (a == b)
  | _=>none
 | _=>none
noncomputable def dIs (x y : D) : Option D:=(isD x y).map .bl
noncomputable def zel (x y : D) : Option D:=(isD x y).map fun b=>.bl (!b)
theorem zfn : OpD c X (compareOp .Is) dIs:=by
 rintro pins s σ H vx vy v u Q I rx ry ⟨Hf,x,y,d,s0,r1,r2,e,k⟩
 unfold dIs isD at e
 cases y with
 | non =>
  cases e
  exact z44 pins s σ H vx vy v u Q I rx ry ⟨r2,by rw [zve r1]; exact k _ Hf H (Ext.refl s0) rfl⟩
 | bl b =>
  cases x with
  | non=>cases e; cases r1; exact zrv pins s σ H _ vy v u Q I rx ry ⟨b,r2,.inl rfl,k _ Hf H (Ext.refl s0) rfl⟩
  | bl a=>cases e; cases r1; exact zrv pins s σ H _ vy v u Q I rx ry ⟨b,r2,.inr ⟨a,rfl⟩,by rw [zkz]; exact k _ Hf H (Ext.refl s0) rfl⟩
  | _=>cases e
 | _=>cases e
theorem zhx : OpD c X (compareOp .IsNot) zel:=by
 rintro pins s σ H vx vy v u Q I rx ry ⟨Hf,x,y,d,s0,r1,r2,e,k⟩
 unfold zel isD at e
 cases y with
 | non =>
  cases e
  exact z2n pins s σ H vx vy v u Q I rx ry ⟨r2,by rw [zve r1]; exact k _ Hf H (Ext.refl s0) rfl⟩
 | bl b =>
  cases x with
  | non=>cases e; cases r1; exact zui pins s σ H _ vy v u Q I rx ry ⟨b,r2,.inl rfl,k _ Hf H (Ext.refl s0) rfl⟩
  | bl a=>cases e; cases r1; exact zui pins s σ H _ vy v u Q I rx ry ⟨b,r2,.inr ⟨a,rfl⟩,by rw [zkz]; exact k _ Hf H (Ext.refl s0) rfl⟩
  | _=>cases e
 | _=>cases e
theorem zk3 {x : Option Bool} {g : Bool -> Bool} : ∀ d,x.map (fun b=>D.bl (g b)) = some d -> d.scalar = true:=by
 intro d e
 cases x with
 | none=>cases e
 | some b=>cases e; rfl
theorem zfg : ∀ x y d,dIs x y = some d -> d.scalar = true:=fun _ _ d e=>zk3 (g:=id) d e
theorem zh6 : ∀ x y d,zel x y = some d -> d.scalar = true:=fun _ _ d e=>zk3 (g:=not) d e
noncomputable def eqF : D -> D -> Bool
 | .non,.non=>true
 | .bl a,.bl b=>a == b
 | .int a,.int b=>a == b
 | .str a,.str b=>a == b
 | _,_=>false
noncomputable def zb5 (f : D -> D -> Option Bool) : List D -> List D -> Option Bool
 | [],[]=>some true
 | x :: xs,y :: ys=>(f x y).bind fun b=>(zb5 f xs ys).map fun r=>b && r
 | _,_=>some false
noncomputable def zn4 : D -> D -> Bool
 | .bl _,.int _=>true
 | .int _,.bl _=>true
 | _,_=>false
noncomputable def zh7 (f : D -> D -> Option Bool) : D -> D -> Option Bool
 | .lst xs,.lst ys=>if xs.length = ys.length then zb5 f xs ys else some false
 | .tup xs,.tup ys=>if xs.length = ys.length then zb5 f xs ys else none
 | x,y=>if x.scalar && y.scalar && !zn4 x y then some (eqF x y) else none
noncomputable def deq : Nat -> D -> D -> Option Bool
 | 0,_,_=>none
 | n + 1,x,y=>zh7 (deq n) x y
noncomputable def dEq (x y : D) : Option D:=(deq 20 x y).map .bl
noncomputable def dNe (x y : D) : Option D:=(deq 20 x y).map fun b=>.bl (!b)
theorem zbx : ∀ x y d,dEq x y = some d -> d.scalar = true:=fun _ _ d e=>zk3 (g:=id) d e
theorem zhn : ∀ x y d,dNe x y = some d -> d.scalar = true:=fun _ _ d e=>zk3 (g:=not) d e
theorem zlf {f : D -> D -> Option Bool} {x y : D} {xs ys : List D} {b : Bool} (h : zb5 f (x :: xs) (y :: ys) = some b) : ∃ b1 b2,f x y = some b1 /\ zb5 f xs ys = some b2 /\ b = (b1 && b2):=by
 unfold zb5 at h
 cases e1 : f x y with
 | none=>rw [e1] at h; cases h
 | some b1 =>
  cases e2 : zb5 f xs ys with
  | none=>rw [e1,e2] at h; cases h
  | some b2=>rw [e1,e2] at h; cases h; exact ⟨b1,b2,rfl,rfl,rfl⟩
theorem zhy {f : D -> D -> Option Bool} : ∀ {xs ys : List D} {b : Bool},xs.length = ys.length -> zb5 f xs ys = some b -> ∃ e : Nat -> Bool,(∀ j x y,xs[j]? = some x -> ys[j]? = some y -> f x y = some (e j)) /\ (List.range xs.length).all e = b
 | [],[],b,_,h=>by cases h; exact ⟨fun _=>true,fun j x y e=>by simp at e,rfl⟩
 | x :: xs,y :: ys,b,hl,h=>by
  obtain ⟨b1,b2,h1,h2,rfl⟩:=zlf h
  obtain ⟨e,he,ha⟩:=zhy (by simpa using hl) h2
  refine ⟨fun j=>match j with | 0=>b1 | j + 1=>e j,fun j x' y' ex ey=>?_,?_⟩
  ·cases j with
   | zero=>simp at ex ey; subst ex ey; exact h1
   | succ j=>exact he j x' y' (by simpa using ex) (by simpa using ey)
  ·rw [List.length_cons,List.range_succ_eq_map,List.all_cons,List.all_map,<- ha]
   rfl
 | [],_ :: _,_,hl,_=>by cases hl
 | _ :: _,[],_,hl,_=>by cases hl
theorem zl6 {G : Gc} {H : Hp} {x y : D} {v u : V} (hs : (x.scalar && y.scalar && !zn4 x y) = true) (r1 : Rep G H x v) (r2 : Rep G H y u) : zdv v = true /\ zdv u = true /\ eqV v u = eqF x y /\ zn9 v u = true /\ decide (v = u) = eqF x y:=by
 cases x <;> first
  | (cases hs; done)
  | (cases y <;> first
   | (cases hs; done)
   | (cases r1; cases r2; refine ⟨rfl,rfl,rfl,rfl,?_⟩; first | exact zkz | exact znr | exact zob | rfl))
theorem zmi {n : Nat} {x y : D} {b : Bool} (hs : ¬ (∃ xs ys,x = .lst xs /\ y = .lst ys) /\ ¬ (∃ xs ys,x = .tup xs /\ y = .tup ys)) (h : deq (n + 1) x y = some b) : (x.scalar && y.scalar && !zn4 x y) = true /\ b = eqF x y:=by
 replace h : zh7 (deq n) x y = some b:=h
 unfold zh7 at h
 split at h
 ·exact absurd ⟨_,_,rfl,rfl⟩ hs.1
 ·exact absurd ⟨_,_,rfl,rfl⟩ hs.2
 ·split at h
  ·rename_i hc
   cases h
   exact ⟨hc,rfl⟩
  ·cases h
theorem zq2 {G : Gc} {H : Hp} : ∀ (n : Nat) {x y : D} {b : Bool} {v : V},deq n x y = some b -> Rep G H x v -> Rep G H y v -> b = true:=by
 intro n
 induction n with
 | zero=>intro x y b v h; cases h
 | succ n ih =>
  have all : ∀ (xs ys : List D) (vs : List V) (b : Bool),zai G H xs vs -> zai G H ys vs -> zb5 (deq n) xs ys = some b -> b = true:=by
   intro xs
   induction xs with
   | nil =>
    intro ys vs b r1 r2 h
    cases (show vs = [] from r1)
    have : ys = []:=List.length_eq_zero_iff.mp r2.length
    subst this
    cases h; rfl
   | cons x xs ihx =>
    intro ys vs b r1 r2 h
    obtain ⟨v,r,e,h1,h2⟩:=r1
    subst e
    cases ys with
    | nil=>cases (show v :: r = [] from r2)
    | cons y ys =>
     obtain ⟨v',r',e,h1',h2'⟩:=r2
     cases e
     obtain ⟨b1,b2,e1,e2,rfl⟩:=zlf h
     rw [ih e1 h1 h1',ihx ys _ b2 h2 h2' e2]
     rfl
  intro x y b v h r1 r2
  by_cases hl : ∃ xs ys,x = .lst xs /\ y = .lst ys
  ·obtain ⟨xs,ys,rfl,rfl⟩:=hl
   obtain ⟨a,vs,e,q,r1⟩:=r1
   obtain ⟨a',vs',e',q',r2⟩:=r2
   subst e; cases e'
   rw [q] at q'; cases q'
   have hlen : xs.length = ys.length:=r1.length.trans r2.length.symm
   replace h : (if xs.length = ys.length then zb5 (deq n) xs ys else some false) = some b:=h
   rw [if_pos hlen] at h
   exact all xs ys vs b r1 r2 h
  ·by_cases ht : ∃ xs ys,x = .tup xs /\ y = .tup ys
   ·obtain ⟨xs,ys,rfl,rfl⟩:=ht
    obtain ⟨a,vs,e,q,r1⟩:=r1
    obtain ⟨a',vs',e',q',r2⟩:=r2
    subst e; cases e'
    rw [q] at q'; cases q'
    have hlen : xs.length = ys.length:=r1.length.trans r2.length.symm
    replace h : (if xs.length = ys.length then zb5 (deq n) xs ys else none) = some b:=h
    rw [if_pos hlen] at h
    exact all xs ys vs b r1 r2 h
   ·obtain ⟨hs,rfl⟩:=zmi ⟨hl,ht⟩ h
    obtain ⟨_,_,_,_,e⟩:=zl6 hs r1 r2
    rw [<- e]
    exact decide_eq_true rfl
section
variable {pins : List (Addr × Obj)} {σ : St} {H : Hp} {s : Shared}
theorem zig {G : Gc} {xs ys : List D} {vs us : List V} {its its2 : List Value} {n : Nat} {A : Around} {e : Nat -> Bool} (r1 : zai G H xs vs) (r2 : zai G H ys us) (r : zas vs its) (r' : zas us its2)
  (he : ∀ j x y,xs[j]? = some x -> ys[j]? = some y -> deq n x y = some (e j))
  (ih : ∀ {x y : D} {b : Bool} {v u : V} {w w' : Value},deq n x y = some b -> Rep G H x v -> Rep G H y u -> zaw v w -> zaw u w' -> SeqAt.EqAt A s w w' b) :
  ∀ j (h1 : j < its.toArray.size) (h2 : j < its2.toArray.size),SeqAt.EqAt A s its.toArray[j] its2.toArray[j] (e j):=fun j h1 h2=>by
 have h1' : j < its.length:=by simpa using h1
 have h2' : j < its2.length:=by simpa using h2
 obtain ⟨v,ev,rv⟩:=r.at' (i:=j) (u:=its[j]) (by simp [h1'])
 obtain ⟨u,eu,ru⟩:=r'.at' (i:=j) (u:=its2[j]) (by simp [h2'])
 obtain ⟨x,ex,rx⟩:=r1.get' ev
 obtain ⟨y,ey,ry⟩:=r2.get' eu
 exact ih (he j x y ex ey) rx ry rv ru
theorem zpk (I : Inv X pins σ H s) : ∀ (n : Nat) {A : Around} {x y : D} {b : Bool} {v u : V} {w w' : Value},A.units + n < cLine -> deq n x y = some b -> Rep (Gx c X) H x v -> Rep (Gx c X) H y u -> zaw v w -> zaw u w' -> SeqAt.EqAt A s w w' b:=by
 intro n
 induction n with
 | zero=>intro A x y b v u w w' _ h; cases h
 | succ n ih =>
  intro A x y b v u w w' hu h r1 r2 rv ru
  have hin : ∀ {x y : D} {b : Bool} {v u : V} {w w' : Value},deq n x y = some b -> Rep (Gx c X) H x v -> Rep (Gx c X) H y u -> zaw v w -> zaw u w' -> SeqAt.EqAt A.in1 s w w' b:=fun h a b c d=>ih (by rw [Around.in1_units]; omega) h a b c d
  by_cases hl : ∃ xs ys,x = .lst xs /\ y = .lst ys
  ·obtain ⟨xs,ys,rfl,rfl⟩:=hl
   obtain ⟨a,vs,e,q,rs1⟩:=id r1
   obtain ⟨a',vs',e',q',rs2⟩:=id r2
   subst e e'
   cases rv; cases ru
   by_cases hab : a = a'
   ·subst hab
    have:=zq2 (n + 1) h (show Rep (Gx c X) H (.lst xs) (.ref a) from ⟨a,vs,rfl,q,rs1⟩) ⟨a,vs',rfl,q',rs2⟩
    subst this
    exact SeqAt.EqAt.same _
   ·refine SeqAt.EqAt.of_refs hab ?_
    obtain ⟨its,rr,pl,hz⟩:=I.list (SqL.of (K:=X.K) q)
    obtain ⟨its2,rr2,pl2,hz2⟩:=I.list (SqL.of (K:=X.K) q')
    have l1:=rr.length
    have l2:=rr2.length
    have l3:=rs1.length
    have l4:=rs2.length
    replace h : (if xs.length = ys.length then zb5 (deq n) xs ys else some false) = some b:=h
    split at h
    ·rename_i hlen
     obtain ⟨ee,he,ha⟩:=zhy hlen h
     have:=SeqAt.RcAt.lists (A:=A) (s:=s) pl.isList pl2.isList (by simp only [List.size_toArray]; omega) (by omega) (zig (A:=A.in1) (s:=s) rs1 rs2 rr rr2 he hin)
     rw [List.size_toArray,<- l1,<- l3,ha] at this
     exact this
    ·rename_i hlen
     cases h
     exact SeqAt.RcAt.lists_lengths (A:=A) (s:=s) pl.isList pl2.isList (by simp only [List.size_toArray,bne_iff_ne,ne_eq]; omega) (by omega)
  ·by_cases ht : ∃ xs ys,x = .tup xs /\ y = .tup ys
   ·obtain ⟨xs,ys,rfl,rfl⟩:=ht
    obtain ⟨a,vs,e,q,rs1⟩:=id r1
    obtain ⟨a',vs',e',q',rs2⟩:=id r2
    subst e e'
    cases rv; cases ru
    by_cases hab : a = a'
    ·subst hab
     have:=zq2 (n + 1) h (show Rep (Gx c X) H (.tup xs) (.ref a) from ⟨a,vs,rfl,q,rs1⟩) ⟨a,vs',rfl,q',rs2⟩
     subst this
     exact SeqAt.EqAt.same _
    ·refine SeqAt.EqAt.of_refs hab ?_
     obtain ⟨its,rr,pl,hz⟩:=I.tuple (SqT.of (K:=X.K) q)
     obtain ⟨its2,rr2,pl2,hz2⟩:=I.tuple (SqT.of (K:=X.K) q')
     have l1:=rr.length
     have l2:=rr2.length
     have l3:=rs1.length
     have l4:=rs2.length
     replace h : (if xs.length = ys.length then zb5 (deq n) xs ys else none) = some b:=h
     split at h
     ·rename_i hlen
      obtain ⟨ee,he,ha⟩:=zhy hlen h
      have:=SeqAt.RcAt.tuples (A:=A) (s:=s) (show s.heap.IsTuple a its.toArray from pl) (show s.heap.IsTuple a' its2.toArray from pl2) (by omega) (zig (A:=A.in1) (s:=s) rs1 rs2 rr rr2 he hin)
      have hsz : its.toArray.size = its2.toArray.size:=by simp only [List.size_toArray]; omega
      rw [<- hsz,Nat.min_self,beq_self_eq_true,Bool.and_true,List.size_toArray,<- l1,<- l3,ha] at this
      exact this
     ·cases h
   ·obtain ⟨hs,rfl⟩:=zmi ⟨hl,ht⟩ h
    obtain ⟨f1,f2,e,_,_⟩:=zl6 hs r1 r2
    rw [<- e]
    exact ztk rv ru f1 f2
end
theorem zby (hu : X.A.units + 64 < cLine) : OpD c X (compareOp .Eq) dEq:=by
 rintro pins s σ H v u w w' Q I rv ru ⟨Hf,x,y,d,s0,r1,r2,e,k⟩
 unfold dEq at e
 cases h : deq 20 x y with
 | none=>rw [h] at e; cases e
 | some b =>
  rw [h] at e
  cases e
  have q0:=k (.bl b) Hf H (Ext.refl s0) rfl
  have fin : EP X pins σ Q (.bool b) s:=⟨.bl b,H,I,rfl,q0⟩
  have r1:=r1.up s0
  have r2:=r2.up s0
  have hin : ∀ {x y : D} {b : Bool} {v u : V} {w w' : Value},deq 19 x y = some b -> Rep (Gx c X) H x v -> Rep (Gx c X) H y u -> zaw v w -> zaw u w' -> SeqAt.EqAt X.A.in1 s w w' b:=fun h a b c d=>zpk I 19 (by rw [Around.in1_units]; omega) h a b c d
  by_cases hl : ∃ xs ys,x = .lst xs /\ y = .lst ys
  ·obtain ⟨xs,ys,rfl,rfl⟩:=hl
   obtain ⟨a,vs,e,q,rs1⟩:=id r1
   obtain ⟨a',vs',e',q',rs2⟩:=id r2
   subst e e'
   cases rv; cases ru
   obtain ⟨its,rr,pl,hz⟩:=I.list (SqL.of (K:=X.K) q)
   obtain ⟨its2,rr2,pl2,hz2⟩:=I.list (SqL.of (K:=X.K) q')
   have l1:=rr.length
   have l2:=rr2.length
   have l3:=rs1.length
   have l4:=rs2.length
   replace h : (if xs.length = ys.length then zb5 (deq 19) xs ys else some false) = some b:=h
   split at h
   ·rename_i hlen
    obtain ⟨ee,he,ha⟩:=zhy hlen h
    refine SeqAt.eq_listAt pl.isList pl2.isList (by simp only [List.size_toArray]; omega) (by omega) (zig rs1 rs2 rr rr2 he hin) ?_
    rw [List.size_toArray,<- l1,<- l3,ha]
    exact fin
   ·rename_i hlen
    cases h
    exact SeqAt.eq_list_lengthsAt pl.isList pl2.isList (by simp only [List.size_toArray,bne_iff_ne,ne_eq]; omega) (by omega) fin
  ·by_cases ht : ∃ xs ys,x = .tup xs /\ y = .tup ys
   ·obtain ⟨xs,ys,rfl,rfl⟩:=ht
    obtain ⟨a,vs,e,q,rs1⟩:=id r1
    obtain ⟨a',vs',e',q',rs2⟩:=id r2
    subst e e'
    cases rv; cases ru
    obtain ⟨its,rr,pl,hz⟩:=I.tuple (SqT.of (K:=X.K) q)
    obtain ⟨its2,rr2,pl2,hz2⟩:=I.tuple (SqT.of (K:=X.K) q')
    have l1:=rr.length
    have l2:=rr2.length
    have l3:=rs1.length
    have l4:=rs2.length
    replace h : (if xs.length = ys.length then zb5 (deq 19) xs ys else none) = some b:=h
    split at h
    ·rename_i hlen
     obtain ⟨ee,he,ha⟩:=zhy hlen h
     refine SeqAt.eq_tupleAt (show s.heap.IsTuple a its.toArray from pl) (show s.heap.IsTuple a' its2.toArray from pl2) (by omega) (zig rs1 rs2 rr rr2 he hin) ?_
     have hsz : its.toArray.size = its2.toArray.size:=by simp only [List.size_toArray]; omega
     rw [<- hsz,Nat.min_self,beq_self_eq_true,Bool.and_true,List.size_toArray,<- l1,<- l3,ha]
     exact fin
    ·cases h
   ·obtain ⟨hs,rfl⟩:=zmi ⟨hl,ht⟩ h
    obtain ⟨_,_,_,hsc,e⟩:=zl6 hs r1 r2
    exact z11 pins s σ H v u w w' Q I rv ru ⟨hsc,by rw [e]; exact q0⟩
theorem zhz (hu : X.A.units + 64 < cLine) : OpD c X (compareOp .NotEq) dNe:=by
 rintro pins s σ H v u w w' Q I rv ru ⟨Hf,x,y,d,s0,r1,r2,e,k⟩
 unfold dNe at e
 cases h : deq 20 x y with
 | none=>rw [h] at e; cases e
 | some b =>
  rw [h] at e
  cases e
  have q0:=k (.bl (!b)) Hf H (Ext.refl s0) rfl
  have fin : EP X pins σ Q (.bool (!b)) s:=⟨.bl (!b),H,I,rfl,q0⟩
  have r1:=r1.up s0
  have r2:=r2.up s0
  have hin : ∀ {x y : D} {b : Bool} {v u : V} {w w' : Value},deq 19 x y = some b -> Rep (Gx c X) H x v -> Rep (Gx c X) H y u -> zaw v w -> zaw u w' -> SeqAt.EqAt X.A.in1 s w w' b:=fun h a b c d=>zpk I 19 (by rw [Around.in1_units]; omega) h a b c d
  by_cases hl : ∃ xs ys,x = .lst xs /\ y = .lst ys
  ·obtain ⟨xs,ys,rfl,rfl⟩:=hl
   obtain ⟨a,vs,e,q,rs1⟩:=id r1
   obtain ⟨a',vs',e',q',rs2⟩:=id r2
   subst e e'
   cases rv; cases ru
   obtain ⟨its,rr,pl,hz⟩:=I.list (SqL.of (K:=X.K) q)
   obtain ⟨its2,rr2,pl2,hz2⟩:=I.list (SqL.of (K:=X.K) q')
   have l1:=rr.length
   have l2:=rr2.length
   have l3:=rs1.length
   have l4:=rs2.length
   replace h : (if xs.length = ys.length then zb5 (deq 19) xs ys else some false) = some b:=h
   split at h
   ·rename_i hlen
    obtain ⟨ee,he,ha⟩:=zhy hlen h
    refine SeqAt.RcNeAt.lists (A:=X.A) (s:=s) pl.isList pl2.isList (by simp only [List.size_toArray]; omega) (by omega) (zig rs1 rs2 rr rr2 he hin) X.prog X.w X.xe _ ?_
    rw [List.size_toArray,<- l1,<- l3,ha]
    exact fin
   ·rename_i hlen
    cases h
    exact SeqAt.RcNeAt.lists_lengths (A:=X.A) (s:=s) pl.isList pl2.isList (by simp only [List.size_toArray,bne_iff_ne,ne_eq]; omega) (by omega) X.prog X.w X.xe _ fin
  ·by_cases ht : ∃ xs ys,x = .tup xs /\ y = .tup ys
   ·obtain ⟨xs,ys,rfl,rfl⟩:=ht
    obtain ⟨a,vs,e,q,rs1⟩:=id r1
    obtain ⟨a',vs',e',q',rs2⟩:=id r2
    subst e e'
    cases rv; cases ru
    obtain ⟨its,rr,pl,hz⟩:=I.tuple (SqT.of (K:=X.K) q)
    obtain ⟨its2,rr2,pl2,hz2⟩:=I.tuple (SqT.of (K:=X.K) q')
    have l1:=rr.length
    have l2:=rr2.length
    have l3:=rs1.length
    have l4:=rs2.length
    replace h : (if xs.length = ys.length then zb5 (deq 19) xs ys else none) = some b:=h
    split at h
    ·rename_i hlen
     obtain ⟨ee,he,ha⟩:=zhy hlen h
     refine SeqAt.RcNeAt.tuples (A:=X.A) (s:=s) (show s.heap.IsTuple a its.toArray from pl) (show s.heap.IsTuple a' its2.toArray from pl2) (by omega) (zig rs1 rs2 rr rr2 he hin) X.prog X.w X.xe _ ?_
     have hsz : its.toArray.size = its2.toArray.size:=by simp only [List.size_toArray]; omega
     rw [<- hsz,Nat.min_self,beq_self_eq_true,Bool.and_true,List.size_toArray,<- l1,<- l3,ha]
     exact fin
    ·cases h
   ·obtain ⟨hs,rfl⟩:=zmi ⟨hl,ht⟩ h
    obtain ⟨_,_,_,hsc,e⟩:=zl6 hs r1 r2
    exact z1k pins s σ H v u w w' Q I rv ru ⟨hsc,by rw [e]; exact q0⟩
noncomputable def eqX : D -> D -> Bool
 | .non,.non=>true
 | .bl a,.bl b=>a == b
 | .bl a,.int b=>(if a then 1 else 0) == b
 | .int a,.bl b=>a == (if b then 1 else 0)
 | .int a,.int b=>a == b
 | .str a,.str b=>a == b
 | _,_=>false
noncomputable def inD (x y : D) : Option Bool:=(zg8 y).bind fun ds=>if x.scalar && ds.all D.scalar then some (ds.any fun d=>eqX d x) else none
noncomputable def dIn (x y : D) : Option D:=(inD x y).map .bl
theorem z4v : ∀ x y d,dIn x y = some d -> d.scalar = true:=fun _ _ d e=>zk3 (g:=id) d e
theorem z7n {G : Gc} {H : Hp} {x y : D} {v u : V} (hx : x.scalar = true) (hy : y.scalar = true) (r1 : Rep G H x v) (r2 : Rep G H y u) : zdv v = true /\ zdv u = true /\ eqV v u = eqX x y:=by
 cases x <;> first
  | (cases hx; done)
  | (cases y <;> first
   | (cases hy; done)
   | (cases r1; cases r2; exact ⟨rfl,rfl,rfl⟩))
theorem zqy {G : Gc} {H : Hp} {x : D} {v : V} (hx : x.scalar = true) (r : Rep G H x v) : ∀ {ds : List D} {vs : List V},ds.all D.scalar = true -> zai G H ds vs -> vs.all zdv = true /\ inV v vs = ds.any fun d=>eqX d x
 | [],_,_,h=>by cases (show _ = [] from h); exact ⟨rfl,rfl⟩
 | d :: ds,_,ha,⟨u,r',e,h1,h2⟩=>by
  subst e
  rw [List.all_cons,Bool.and_eq_true] at ha
  obtain ⟨f1,f2,e⟩:=z7n ha.1 hx h1 r
  obtain ⟨g1,g2⟩:=zqy hx r ha.2 h2
  refine ⟨by rw [List.all_cons,f1,g1]; rfl,?_⟩
  unfold inV at g2 ⊢
  rw [List.any_cons,List.any_cons,e,g2]
theorem z0q {G : Gc} {H : Hp} {x y : D} {v u : V} {b : Bool} (e : inD x y = some b) (r1 : Rep G H x v) (r2 : Rep G H y u) : ∃ p vs,u = .ref p /\ (SqL G.K H p vs \/ SqT G.K H p vs) /\ zdv v = true /\ vs.all zdv = true /\ inV v vs = b:=by
 unfold inD at e
 cases es : zg8 y with
 | none=>rw [es] at e; cases e
 | some ds =>
  rw [es] at e
  replace e : (if (x.scalar && ds.all D.scalar) = true then some (ds.any fun d=>eqX d x) else none) = some b:=e
  split at e
  ·rename_i hc
   cases e
   rw [Bool.and_eq_true] at hc
   obtain ⟨a,vs,e1,q,r⟩:=zlj es r2
   obtain ⟨g1,g2⟩:=zqy hc.1 r1 hc.2 r
   have f : zdv v = true:=by cases x <;> first | (cases r1; rfl) | (cases hc.1)
   exact ⟨a,vs,e1,q,f,g1,g2⟩
  ·cases e
theorem z8t : OpD c X (compareOp .In) dIn:=by
 rintro pins s σ H v u w w' Q I rv ru ⟨Hf,x,y,d,s0,r1,r2,e,k⟩
 unfold dIn at e
 cases h : inD x y with
 | none=>rw [h] at e; cases e
 | some b =>
  rw [h] at e
  cases e
  obtain ⟨p,vs,e1,q,f1,f2,e2⟩:=z0q h (r1.up s0) (r2.up s0)
  refine z13 pins s σ H v u w w' Q I rv ru ⟨p,vs,e1,q,f1,f2,?_⟩
  rw [if_neg Bool.false_ne_true,e2]
  exact k _ Hf H (Ext.refl s0) rfl
end
section
variable {c : Str -> Addr} {X : Cx} {e a b o : Expr} {es : List Expr} {pos p apos : Pos}
theorem z8r {G : Gc} {H : Hp} {ds : List D} {vs : List V} {i : Int} {d : D} (h : atI ds i = some d) (r : zai G H ds vs) : ∃ v,atI vs i = some v /\ Rep G H d v:=by
 unfold atI at h ⊢
 rw [<- r.length]
 cases e : ixN ds.length i with
 | none=>rw [e] at h; cases h
 | some j =>
  rw [e] at h
  exact r.get h
noncomputable def ixD (ds : List D) : D -> Option D
 | .int k=>atI ds k
 | _=>none
noncomputable def mIx (f : List Sl -> Option (List D)) (g : List Sl -> Option D) (ρ : List Sl) : Option D:=(f ρ).bind fun ds=>(g ρ).bind fun i=>ixD ds i
theorem zah {f : List Sl -> Option (List D)} {g : List Sl -> Option D} (ha : DC c X a f) (hb : DE c X b g) (hs : zuo b:=by exact fun _ _=>rfl) : DE c X (.Subscript a b pos) (mIx f g) :=
 PE.imp (z6u (z74.or z41) ha hb hs) fun σ H Q q_=>by
  obtain ⟨Hf0,H0,Hf,ρ,d,st,ef,k⟩:=q_
  unfold mIx at ef
  cases e1 : f ρ with
  | none=>rw [e1] at ef; cases ef
  | some ds =>
   cases e2 : g ρ with
   | none=>rw [e1,e2] at ef; cases ef
   | some i =>
    rw [e1,e2] at ef
    replace ef : ixD ds i = some d:=ef
    cases i with
    | int n =>
     replace ef : atI ds n = some d:=ef
     refine ⟨Hf0,H0,Hf,ρ,ds,st,e1,fun l vs Hf1 H1 x1 q r=>⟨Hf0,H0,Hf1,ρ,.int n,st.step x1,e2,fun u Hf2 H2 x2 r2=>?_⟩⟩
     cases (show u = V.int n from r2)
     obtain ⟨v,ev,rv⟩:=z8r ef r
     have fin:=k v Hf2 H2 (x1.trans x2) (rv.up x2.f)
     rcases q with q | q
     ·exact .inl ⟨l,vs,n,v,rfl,rfl,x2.h.seq q,ev,fin⟩
     ·exact .inr ⟨l,vs,n,v,rfl,rfl,x2.h.tup q,ev,fin⟩
    | _=>cases ef
noncomputable def zhl (xs : List D) (lo hi : Option Int) : List D:=(xs.drop (HT.sIx xs.length 0 lo)).take (HT.sIx xs.length xs.length hi - HT.sIx xs.length 0 lo)
noncomputable def lsD : D -> Option (List D)
 | .lst xs=>some xs
 | .kl xs=>some xs
 | _=>none
theorem zg0 {G : Gc} {H : Hp} {d : D} {v : V} {ds : List D} (e : lsD d = some ds) (r : Rep G H d v) : ∃ a vs,v = .ref a /\ SqL G.K H a vs /\ zai G H ds vs:=by
 cases d with
 | lst xs=>cases e; obtain ⟨a,vs,e1,q,r⟩:=r; exact ⟨a,vs,e1,SqL.of q,r⟩
 | kl xs=>cases e; obtain ⟨a,vs,e1,q,r⟩:=r; exact ⟨a,vs,e1,q,r⟩
 | _=>cases e
noncomputable def z02 (G : Gc) (f : List Sl -> Option (Option Int)) : TO:=fun σ H Q=>∃ Hf0 H0 Hf ρ i,za0 G Hf0 H0 Hf H σ ρ /\ f ρ = some i /\ ∀ Hf' H',Ext Hf H Hf' H' -> Q i H'
noncomputable def DPt (c : Str -> Addr) (X : Cx) (e : Option Expr) (f : List Sl -> Option (Option Int)) : Prop:=PO X e (z02 (Gx c X) f)
theorem zef : DPt c X none (fun _=>some none):=fun pins s σ H Q I q_=>by
 obtain ⟨Hf0,H0,Hf,ρ,i,st,ef,k⟩:=q_
 exact (zyr pins s σ H Q I (by cases ef; exact k Hf H (Ext.refl st.sub)))
noncomputable def mPt (f : List Sl -> Option D) (ρ : List Sl) : Option (Option Int):=(f ρ).bind fun d=>match d with
 | .int i=>some (some i)
 | _=>none
theorem zc7 {f : List Sl -> Option D} (h : DE c X e f) : DPt c X (some e) (mPt f):=fun pins s σ H Q I q_=>by
 obtain ⟨Hf0,H0,Hf,ρ,i,st,ef,k⟩:=q_
 exact (z42 h pins s σ H Q I (by
 unfold mPt at ef
 cases e1 : f ρ with
 | none=>rw [e1] at ef; cases ef
 | some d =>
  rw [e1] at ef
  cases d with
  | int n=>cases ef; exact ⟨Hf0,H0,Hf,ρ,.int n,st,e1,fun v Hf' H' x r=>⟨n,r,k Hf' H' x⟩⟩
  | _=>cases ef))
noncomputable def mSl (f : List Sl -> Option D) (l h : List Sl -> Option (Option Int)) (ρ : List Sl) : Option (List D):=(f ρ).bind fun d=>(lsD d).bind fun ds=>(l ρ).bind fun lo=>(h ρ).map fun hi=>zhl ds lo hi
theorem zxs {G : Gc} {H : Hp} {ds : List D} {vs : List V} (r : zai G H ds vs) (lo hi : Option Int) : zai G H (zhl ds lo hi) (zg6 vs lo hi):=by
 unfold zhl zg6
 rw [r.length]
 exact (r.drop _).take _
theorem zdl {f : List Sl -> Option D} {l h : List Sl -> Option (Option Int)} {lo hi : Option Expr} {p2 : Pos} (ha : DE c X e f) (hl : DPt c X lo l) (hh : DPt c X hi h) : DO c X (.Subscript e (.Slice lo hi none p2) pos) (mSl f l h) :=
 PE.imp (z0g z3f ha hl hh) fun σ H Q q_=>by
  obtain ⟨Hf0,H0,Hf,ρ,rs,st,ef,k⟩:=q_
  unfold mSl at ef
  cases e1 : f ρ with
  | none=>rw [e1] at ef; cases ef
  | some d =>
   cases e2 : lsD d with
   | none=>rw [e1] at ef; replace ef : (lsD d).bind _ = _:=ef; rw [e2] at ef; cases ef
   | some ds =>
    cases e3 : l ρ with
    | none=>rw [e1] at ef; replace ef : (lsD d).bind _ = _:=ef; rw [e2,e3] at ef; cases ef
    | some lo' =>
     cases e4 : h ρ with
     | none=>rw [e1] at ef; replace ef : (lsD d).bind _ = _:=ef; rw [e2,e3,e4] at ef; cases ef
     | some hi' =>
      rw [e1] at ef
      replace ef : (lsD d).bind _ = _:=ef
      rw [e2,e3,e4] at ef
      cases ef
      refine ⟨Hf0,H0,Hf,ρ,d,st,e1,fun v Hf1 H1 x1 r1=>⟨Hf0,H0,Hf1,ρ,lo',st.step x1,e3,fun Hf2 H2 x2=>⟨Hf0,H0,Hf2,ρ,hi',(st.step x1).step x2,e4,fun Hf3 H3 x3=>?_⟩⟩⟩
      obtain ⟨a,vs,ea,q,r⟩:=zg0 e2 r1
      subst ea
      have x:=(x1.trans x2).trans x3
      have y:=(x2.trans x3)
      refine ⟨a,vs,rfl,(x1.s.trans y.h).seq q,fun p hp=>?_⟩
      exact k p (zg6 vs lo' hi') Hf3 (upd H3 p (.lst (zg6 vs lo' hi'))) (x.trans (Ext.tmp x.s hp)) (x.h.free hp) (x.s.free hp) zbm (zxs (r.up y.f) _ _)
noncomputable def rCD (G : Gc) (m : List D -> Option D) : List V -> Hp -> VK -> Prop:=fun vs H Q=>∃ Hf ds d,zau Hf H /\ zai G Hf ds vs /\ m ds = some d /\ ∀ v Hf' H',Ext Hf H Hf' H' -> Rep G Hf' d v -> Q v H'
noncomputable abbrev zhk (c : Str -> Addr) (X : Cx) (f : Value) (m : List D -> Option D) : Prop:=zdp X f (rCD (Gx c X) m)
noncomputable def zao (m : List D -> Option D) (f : List Sl -> Option (List D)) (ρ : List Sl) : Option D:=(f ρ).bind m
theorem zoz {m : List D -> Option D} {f : List Sl -> Option (List D)} {ρ : List Sl} {d : D} (h : zao m f ρ = some d) : ∃ ds,f ρ = some ds /\ m ds = some d:=by
 unfold zao at h
 cases e : f ρ with
 | none=>rw [e] at h; cases h
 | some ds=>rw [e] at h; exact ⟨ds,rfl,h⟩
theorem zy4 {m : List D -> Option D} {f : List Sl -> Option (List D)} {x : Str} {id : String} (hc : zhk c X (.builtin id) m) (hg : Gl X x) (hm : X.mg x = none) (hv : bootBuiltins x = some (.builtin id)) (ha : DA c X (e :: es) f) (hn : x ≠ "__name__":=by decide) (hdb : (x == ("__debug__" : Str)) = false:=by decide)
  (he : starEach (e :: es) X.env = (false,eval e X.env) :: starEach es X.env:=by rfl) (hpl : (backTo pos (starEach es X.env)).any (·.1) = false:=by rfl) :
  DE c X (.Call (.Name x p) (e :: es) [] pos) (zao m f):=PE.imp (zne hc hg hm hv ha.pa hn hdb he hpl) fun σ H Q q_=>by
 obtain ⟨Hf0,H0,Hf,ρ,d,st,ef,k⟩:=q_
 obtain ⟨ds,e1,e2⟩:=zoz ef
 exact ⟨Hf0,H0,Hf,ρ,ds,st,e1,fun vs Hf' H' x r=>⟨Hf',ds,d,x.s,r,e2,fun v Hf2 H2 x2 r2=>k v Hf2 H2 (x.trans x2) r2⟩⟩
theorem zci {m : List D -> Option D} {f : List Sl -> Option (List D)} {x : Str} {id : String} (hc : zhk c X (.builtin id) m) (hs : ∀ ds d,m ds = some d -> d.scalar = true) (hg : Gl X x) (hm : X.mg x = none) (hv : bootBuiltins x = some (.builtin id)) (ha : DAB c X (e :: es) f) (hn : x ≠ "__name__":=by decide) (hdb : (x == ("__debug__" : Str)) = false:=by decide)
  (he : starEach (e :: es) X.env = (false,eval e X.env) :: starEach es X.env:=by rfl) (hpl : (backTo pos (starEach es X.env)).any (·.1) = false:=by rfl) :
  DE c X (.Call (.Name x p) (e :: es) [] pos) (zao m f):=PE.imp (zne hc hg hm hv ha.pa hn hdb he hpl) fun σ H Q q_=>by
 obtain ⟨Hf0,H0,Hf,ρ,d,st,ef,k⟩:=q_
 obtain ⟨ds,e1,e2⟩:=zoz ef
 exact ⟨Hf0,H0,Hf,ρ,ds,st,e1,fun vs Hf' H' x r=>⟨H',ds,d,zau.refl _,r,e2,fun v Hf2 H2 x2 r2=>k v Hf' H2 (x.trans (Ext.grow x.s x2.h)) (r2.sc (hs _ _ e2))⟩⟩
noncomputable def zcz : List D -> Option D
 | [.lst xs]=>some (.int xs.length)
 | [.tup xs]=>some (.int xs.length)
 | [.kl xs]=>some (.int xs.length)
 | [.kt xs]=>some (.int xs.length)
 | [.str x]=>if x.length <= 16777216 then some (.int x.length) else none
 | _=>none
theorem zai.one {G : Gc} {H : Hp} {d : D} {vs : List V} (r : zai G H [d] vs) : ∃ v,vs = [v] /\ Rep G H d v:=by
 obtain ⟨v,r',e,h,q⟩:=r
 cases (show r' = [] from q)
 exact ⟨v,e,h⟩
theorem zai.two {G : Gc} {H : Hp} {d d' : D} {vs : List V} (r : zai G H [d,d'] vs) : ∃ v v',vs = [v,v'] /\ Rep G H d v /\ Rep G H d' v':=by
 obtain ⟨v,r',e,h,q⟩:=r
 obtain ⟨v',e',h'⟩:=q.one
 subst e'
 exact ⟨v,v',e,h,h'⟩
theorem zek : zhk c X (.builtin "len") zcz:=by
 rintro pins s σ H vs us Q I rv ⟨Hf,ds,d,s0,r,e,k⟩
 have sq : ∀ (d0 : D) (xs : List D),ds = [d0] -> zg8 d0 = some xs -> d = .int xs.length -> wpAny (model X.prog X.w) X.A (call (.builtin "len") us) (EP X pins σ Q) X.xe s:=fun d0 xs ed es e0=>by
  subst ed e0
  obtain ⟨v,e1,r1⟩:=r.one
  subst e1
  obtain ⟨a,ws,e2,q,rs⟩:=zlj es r1
  subst e2
  refine zxn pins s σ H _ us Q I rv ⟨a,ws,rfl,znw s0 q,?_⟩
  rw [<- rs.length]
  exact k _ Hf H (Ext.refl s0) rfl
 unfold zcz at e
 split at e
 ·cases e; exact sq _ _ rfl rfl rfl
 ·cases e; exact sq _ _ rfl rfl rfl
 ·cases e; exact sq _ _ rfl rfl rfl
 ·cases e; exact sq _ _ rfl rfl rfl
 ·split at e
  ·rename_i hl
   cases e
   obtain ⟨v,e1,r1⟩:=r.one
   subst e1
   exact z12 pins s σ H _ us Q I rv ⟨_,by rw [show v = V.str _ from r1],by rw [sizeLine_eq]; exact hl,k _ Hf H (Ext.refl s0) rfl⟩
  ·cases e
 ·cases e
theorem zee : ∀ ds d,zcz ds = some d -> d.scalar = true:=by
 intro ds d e
 unfold zcz at e
 split at e <;> first | (cases e; done) | (cases e; rfl) | (split at e <;> first | (cases e; done) | (cases e; rfl))
noncomputable def zem : List D -> Option (List Int)
 | []=>some []
 | .int i :: ds=>(zem ds).map fun r=>i :: r
 | _=>none
theorem zt7 {G : Gc} {H : Hp} : ∀ {ds : List D} {ns : List Int} {vs : List V},zem ds = some ns -> zai G H ds vs -> vs = ns.map V.int
 | [],_,_,e,r=>by cases e; exact r
 | .int i :: ds,_,_,e,⟨v,r',e',h1,h2⟩=>by
  subst e'
  cases es : zem ds with
  | none=>rw [zem,es] at e; cases e
  | some ns =>
   rw [zem,es] at e
   cases e
   rw [zt7 es h2,show v = V.int i from h1]
   rfl
 | .non :: _,_,_,e,_=>by cases e
 | .bl _ :: _,_,_,e,_=>by cases e
 | .str _ :: _,_,_,e,_=>by cases e
 | .lst _ :: _,_,_,e,_=>by cases e
 | .tup _ :: _,_,_,e,_=>by cases e
 | .kl _ :: _,_,_,e,_=>by cases e
 | .kt _ :: _,_,_,e,_=>by cases e
 | .dic _ _ :: _,_,_,e,_=>by cases e
 | .ins _ _ _ :: _,_,_,e,_=>by cases e
theorem z3w (ns : List Int) : zem (ns.map D.int) = some ns:=by
 induction ns with
 | nil=>rfl
 | cons n ns ih=>rw [List.map_cons,zem,ih]; rfl
noncomputable def zdu : List D -> Option D
 | [d]=>(lsD d).bind fun ds=>(zem ds).map fun ns=>.int ns.sum
 | _=>none
theorem zh4 (hc : X.calm = true) : zhk c X (.builtin "sum") zdu:=by
 rintro pins s σ H vs us Q I rv ⟨Hf,ds,d,s0,r,e,k⟩
 unfold zdu at e
 split at e
 ·rename_i d0
  cases e1 : lsD d0 with
  | none=>rw [e1] at e; cases e
  | some xs =>
   cases e2 : zem xs with
   | none=>rw [e1] at e; replace e : (zem xs).map _ = _:=e; rw [e2] at e; cases e
   | some ns =>
    rw [e1] at e
    replace e : (zem xs).map _ = _:=e
    rw [e2] at e
    cases e
    obtain ⟨v,ev,r1⟩:=r.one
    subst ev
    obtain ⟨a,ws,ea,q,rs⟩:=zg0 e1 r1
    subst ea
    refine z4j hc pins s σ H _ us Q I rv ⟨a,ns,rfl,?_,k _ Hf H (Ext.refl s0) rfl⟩
    rw [<- zt7 e2 rs]
    exact s0.seq q
 ·cases e
theorem zh8 : ∀ ds d,zdu ds = some d -> d.scalar = true:=by
 intro ds d e
 unfold zdu at e
 split at e
 ·rename_i d0
  cases e1 : lsD d0 with
  | none=>rw [e1] at e; cases e
  | some xs =>
   rw [e1] at e
   replace e : (zem xs).map _ = _:=e
   cases e2 : zem xs with
   | none=>rw [e2] at e; cases e
   | some ns=>rw [e2] at e; cases e; rfl
 ·cases e
theorem zg4 {f : List Sl -> Option (List D)} {x : Str} (hx : bootBuiltins x = some (.type "list")) (hg : Gl X x) (hm : X.mg x = none) (ha : DC c X e f) (hs : starEach [e] X.env = (false,eval e X.env) :: starEach [] X.env:=by rfl) (hn : x ≠ "__name__":=by decide) (hdb : (x == ("__debug__" : Str)) = false:=by decide)
  (hpl : (backTo pos (starEach [] X.env)).any (·.1) = false:=by rfl) : DO c X (.Call (.Name x p) [e] [] pos) f :=
 PE.imp (z7i zv1 hg hm hx (zdr ha zdy hs) hn hdb hs hpl) fun σ H Q ⟨Hf0,H0,Hf,ρ,ds,st,ef,k⟩ =>
  ⟨Hf0,H0,Hf,ρ,ds,st,ef,fun a vs Hf' H' x q r=>⟨a,vs,rfl,q,fun l hl=>k l vs Hf' (upd H' l (.lst vs)) (x.trans (Ext.tmp x.s hl)) (x.h.free hl) (x.s.free hl) zbm r⟩⟩
noncomputable def tyN : D -> Option String
 | .non=>some "NoneType"
 | .bl _=>some "bool"
 | .int _=>some "int"
 | .str _=>some "str"
 | .lst _=>some "list"
 | .tup _=>some "tuple"
 | .dic _ _=>some "dict"
 | _=>none
noncomputable def zox (T : String) (d : D) : Option D:=(tyN d).map fun t=>.bl (t == T || (t == "bool" && T == "int"))
theorem z7z {G : Gc} {H : Hp} {d : D} {v : V} {t : String} (e : tyN d = some t) (r : Rep G H d v) : zed G.K H v (.type t):=by
 cases d with
 | non=>cases e; cases r; exact .non
 | bl b=>cases e; cases r; exact .bl b
 | int i=>cases e; cases r; exact .int i
 | str x=>cases e; cases r; exact .str x
 | lst xs=>cases e; obtain ⟨a,vs,e1,q,r⟩:=r; subst e1; exact .lst q
 | tup xs=>cases e; obtain ⟨a,vs,e1,q,r⟩:=r; subst e1; exact .tup q
 | dic ks xs=>cases e; obtain ⟨a,vs,e1,q,l,r⟩:=r; subst e1; exact .dK q
 | _=>cases e
noncomputable def zqw (K : PySem.W.Frag) (T : String) : Prop:=∀ t ∈ ["NoneType","bool","int","str","list","tuple","dict"],PySem.W.kitOne K (.type t) (.type T) = some (t == T || (t == "bool" && T == "int"))
theorem z1o {d : D} {t : String} (e : tyN d = some t) : t ∈ ["NoneType","bool","int","str","list","tuple","dict"]:=by
 cases d <;> first | (cases e; decide) | cases e
noncomputable def zp6 (T : String) (f : List Sl -> Option D) (ρ : List Sl) : Option D:=(f ρ).bind (zox T)
theorem zyp {f : List Sl -> Option D} {T : String} {q1 : Pos} {y : Str} (hk : zqw X.K T) (hg : Gl X "isinstance") (hm : X.mg "isinstance" = none) (hy : bootBuiltins y = some (.type T)) (hgy : Gl X y) (hmy : X.mg y = none) (ha : DB c X e f)
  (hs : starEach [e,.Name y q1] X.env = (false,eval e X.env) :: starEach [.Name y q1] X.env:=by rfl) (hs2 : starEach [.Name y q1] X.env = (false,eval (.Name y q1) X.env) :: starEach [] X.env:=by rfl)
  (hn : y ≠ "__name__":=by decide) (hdb : (y == ("__debug__" : Str)) = false:=by decide) (hpl : (backTo pos (starEach [.Name y q1] X.env)).any (·.1) = false:=by rfl) :
  DE c X (.Call (.Name "isinstance" p) [e,.Name y q1] [] pos) (zp6 T f) :=
 PE.imp (zne z6k hg hm boot_isinstance (zdr ha (zdr (zxp (v:=.ty T) hgy hmy hy rfl hn hdb) zdy hs2) hs) (by decide) (by decide) hs hpl) fun σ H Q q_=>by
  obtain ⟨Hf0,H0,Hf,ρ,d,st,ef,k⟩:=q_
  unfold zp6 at ef
  cases e1 : f ρ with
  | none=>rw [e1] at ef; cases ef
  | some x =>
   rw [e1] at ef
   replace ef : zox T x = some d:=ef
   unfold zox at ef
   cases e2 : tyN x with
   | none=>rw [e2] at ef; cases ef
   | some t =>
    rw [e2] at ef
    cases ef
    exact ⟨Hf0,H0,Hf,ρ,x,st,e1,fun v Hf' H' x1 r=>⟨v,T,.type t,_,rfl,z7z e2 r,hk t (z1o e2),k _ Hf' H' x1 rfl⟩⟩
end
noncomputable def tDG (G : Gc) (g : D -> List Sl -> Option (List Sl)) : TG:=fun v σ H Q=>∃ Hf0 H0 Hf ρ d ρ',za0 G Hf0 H0 Hf H σ ρ /\ Rep G Hf d v /\ g d ρ = some ρ' /\ ∀ σ',za0 G Hf0 H0 Hf H σ' ρ' -> Q σ' H
noncomputable def z2v (G : Gc) (g : List D -> List Sl -> Option (List Sl)) : TGs:=fun vs σ H Q=>∃ Hf0 H0 Hf ρ ds ρ',za0 G Hf0 H0 Hf H σ ρ /\ zai G Hf ds vs /\ g ds ρ = some ρ' /\ ∀ σ',za0 G Hf0 H0 Hf H σ' ρ' -> Q σ' H
structure DG (c : Str -> Addr) (X : Cx) (tg : Expr) (k : Nat) (g : D -> List Sl -> Option (List Sl)) : Prop where
 pg : PG X tg (tDG (Gx c X) g)
 len : ∀ d ρ ρ',g d ρ = some ρ' -> ρ'.length = ρ.length
 keep : ∀ d ρ ρ' i,g d ρ = some ρ' -> k <= i -> ρ'[i]? = ρ[i]?
structure DGs (c : Str -> Addr) (X : Cx) (tg : List Expr) (k : Nat) (g : List D -> List Sl -> Option (List Sl)) : Prop where
 pg : PGs X tg (z2v (Gx c X) g)
 len : ∀ d ρ ρ',g d ρ = some ρ' -> ρ'.length = ρ.length
 keep : ∀ d ρ ρ' i,g d ρ = some ρ' -> k <= i -> ρ'[i]? = ρ[i]?
 many : ∀ ds ρ ρ',g ds ρ = some ρ' -> ds.length = tg.length
section
variable {c : Str -> Addr} {X : Cx} {e : Expr} {es : List Expr} {pos : Pos}
noncomputable def zar (i : Nat) (d : D) (ρ : List Sl) : Option (List Sl):=some (ρ.set i (.im d))
theorem zq6 {i k : Nat} (h : PG X e (zhb i)) (hk : i < k) : DG c X e k (zar i) :=
 ⟨PG.imp h fun v σ H Q ⟨Hf0,H0,Hf,ρ,d,ρ',st,r,eg,q⟩=>by cases eg; exact q _ (st.setIm r),fun d ρ ρ' h=>by cases h; simp,fun d ρ ρ' j h hj=>by
  cases h
  rw [List.getElem?_set_ne (by omega)]⟩
theorem zca (i k : Nat) {x : Str} (hN : X.N.Nodup) (hk : i < k:=by decide) (hi : X.N[i]? = some x:=by rfl) (hx : Loc X.env.scope x:=by first | exact Or.inl rfl | exact Or.inr rfl) (hf : X.fn x = true \/ X.env.scope.names.lookup x = some .local:=by first | exact .inl rfl | exact .inr rfl) : DG c X (.Name x pos) k (zar i) :=
 zq6 (zu9 hN hi hx hf) hk
noncomputable def zcr (ds : List D) (ρ : List Sl) : Option (List Sl):=match ds with
 | []=>some ρ
 | _=>none
noncomputable def zbc (g : D -> List Sl -> Option (List Sl)) (h : List D -> List Sl -> Option (List Sl)) (ds : List D) (ρ : List Sl) : Option (List Sl):=match ds with
 | d :: ds=>(g d ρ).bind fun ρ1=>h ds ρ1
 | []=>none
theorem zc3 {k : Nat} : DGs c X [] k zcr:=by
 refine ⟨PGs.imp z7s fun vs σ H Q ⟨Hf0,H0,Hf,ρ,ds,ρ',st,r,eg,q⟩=>?_,fun d ρ ρ' h=>?_,fun d ρ ρ' i h _=>?_,fun d ρ ρ' h=>?_⟩
 ·cases ds with
  | nil=>cases eg; exact ⟨r,q _ st⟩
  | cons d ds=>cases eg
 ·cases d with
  | nil=>cases h; rfl
  | cons a b=>cases h
 ·cases d with
  | nil=>cases h; rfl
  | cons a b=>cases h
 ·cases d with
  | nil=>cases h; rfl
  | cons a b=>cases h
theorem zmd {g : D -> List Sl -> Option (List Sl)} {h : List D -> List Sl -> Option (List Sl)} {ds : List D} {ρ ρ' : List Sl} (e : zbc g h ds ρ = some ρ') : ∃ d r ρ1,ds = d :: r /\ g d ρ = some ρ1 /\ h r ρ1 = some ρ':=by
 cases ds with
 | nil=>cases e
 | cons d r =>
  replace e : (g d ρ).bind _ = _:=e
  cases e1 : g d ρ with
  | none=>rw [e1] at e; cases e
  | some ρ1=>rw [e1] at e; exact ⟨d,r,ρ1,rfl,e1,e⟩
theorem zbp {k : Nat} {g : D -> List Sl -> Option (List Sl)} {h : List D -> List Sl -> Option (List Sl)} (h1 : DG c X e k g) (h2 : DGs c X es k h) (hs : (assignEach (e :: es) X.env).map (·.2) = assign e X.env :: (assignEach es X.env).map (·.2):=by rfl) : DGs c X (e :: es) k (zbc g h):=by
 refine ⟨PGs.imp (z0c h1.pg h2.pg hs) fun vs σ H Q ⟨Hf0,H0,Hf,ρ,ds,ρ',st,r,eg,q⟩=>?_,fun d ρ ρ' h=>?_,fun d ρ ρ' i h hi=>?_,fun d ρ ρ' h=>?_⟩
 ·obtain ⟨d,dr,ρ1,rfl,e1,e2⟩:=zmd eg
  obtain ⟨v,vr,ev,rv,rr⟩:=r
  exact ⟨v,vr,ev,Hf0,H0,Hf,ρ,d,ρ1,st,rv,e1,fun σ1 st1=>⟨Hf0,H0,Hf,ρ1,dr,ρ',st1,rr,e2,q⟩⟩
 ·obtain ⟨d,dr,ρ1,rfl,e1,e2⟩:=zmd h
  rw [h2.len _ _ _ e2,h1.len _ _ _ e1]
 ·obtain ⟨d,dr,ρ1,rfl,e1,e2⟩:=zmd h
  rw [h2.keep _ _ _ _ e2 hi,h1.keep _ _ _ _ e1 hi]
 ·obtain ⟨d,dr,ρ1,rfl,e1,e2⟩:=zmd h
  rw [List.length_cons,List.length_cons,h2.many _ _ _ e2]
noncomputable def tpD : D -> Option (List D)
 | .tup xs=>some xs
 | .kt xs=>some xs
 | _=>none
theorem zq7 {G : Gc} {H : Hp} {d : D} {v : V} {ds : List D} (e : tpD d = some ds) (r : Rep G H d v) : ∃ a vs,v = .ref a /\ SqT G.K H a vs /\ zai G H ds vs:=by
 cases d with
 | tup xs=>cases e; obtain ⟨a,vs,e1,q,r⟩:=r; exact ⟨a,vs,e1,SqT.of q,r⟩
 | kt xs=>cases e; obtain ⟨a,vs,e1,q,r⟩:=r; exact ⟨a,vs,e1,q,r⟩
 | _=>cases e
noncomputable def zcm (g : List D -> List Sl -> Option (List Sl)) (d : D) (ρ : List Sl) : Option (List Sl):=(tpD d).bind fun ds=>g ds ρ
theorem zpf {g : List D -> List Sl -> Option (List Sl)} {d : D} {ρ ρ' : List Sl} (h : zcm g d ρ = some ρ') : ∃ ds,tpD d = some ds /\ g ds ρ = some ρ':=by
 unfold zcm at h
 cases e : tpD d with
 | none=>rw [e] at h; cases h
 | some ds=>rw [e] at h; exact ⟨ds,rfl,h⟩
theorem zc1 {k : Nat} {g : List D -> List Sl -> Option (List Sl)} {kk : Nat} (hc : X.calm = true) (h : DGs c X es k g) (hn : (assignEach es X.env).length = es.length:=by rfl) (hst : (assignEach es X.env).findIdx? (·.1) = none:=by rfl) : DG c X (.Tuple es kk pos) k (zcm g):=by
 refine ⟨PG.imp (z1s hc h.pg hn hst) fun v σ H Q ⟨Hf0,H0,Hf,ρ,d,ρ',st,r,eg,q⟩=>?_,fun d ρ ρ' h'=>?_,fun d ρ ρ' i h' hi=>?_⟩
 ·obtain ⟨ds,e1,e2⟩:=zpf eg
  obtain ⟨a,vs,ea,qa,ra⟩:=zq7 e1 r
  exact ⟨a,vs,ea,st.sub.tup qa,by rw [<- ra.length]; exact h.many _ _ _ e2,Hf0,H0,Hf,ρ,ds,ρ',st,ra,e2,q⟩
 ·obtain ⟨ds,e1,e2⟩:=zpf h'
  exact h.len _ _ _ e2
 ·obtain ⟨ds,e1,e2⟩:=zpf h'
  exact h.keep _ _ _ _ e2 hi
end
noncomputable def zkj (G : Gc) (Hf : Hp) (J : It) (ds : List D) : Prop:=∀ Hf' H',zau Hf Hf' -> zau Hf' H' -> ∀ i : Nat,
 (∀ d,ds[i]? = some d -> J.go i H' /\ ∀ x H2,J.yld i H' x H2 -> ∃ Hf2,Ext Hf' H' Hf2 H2 /\ Rep G Hf2 d x) /\ (i = ds.length -> J.stop i H')
noncomputable def zqe (G : Gc) (Hf H : Hp) (J : It) (ds : List D) : Prop:=∀ Hf' H',Ext Hf H Hf' H' -> ∀ i : Nat,
 (∀ d,ds[i]? = some d -> J.go i H' /\ ∀ x H2,J.yld i H' x H2 -> ∃ Hf2,Ext Hf' H' Hf2 H2 /\ Rep G Hf2 d x) /\ (i = ds.length -> J.stop i H')
theorem zkj.toE {G : Gc} {Hf H : Hp} {J : It} {ds : List D} (h : zkj G Hf J ds) : zqe G Hf H J ds:=fun Hf' H' x i=>h Hf' H' x.f x.s i
noncomputable def tDI (G : Gc) (f : List Sl -> Option (List D)) : TI:=fun σ H R=>∃ Hf0 H0 Hf ρ ds,za0 G Hf0 H0 Hf H σ ρ /\ f ρ = some ds /\ ∀ J Hf' H',Ext Hf H Hf' H' -> zkj G Hf' J ds -> R J H'
noncomputable def zuz (G : Gc) (f : List Sl -> Option (List D)) : TI:=fun σ H R=>∃ Hf0 H0 Hf ρ ds,za0 G Hf0 H0 Hf H σ ρ /\ f ρ = some ds /\ ∀ J Hf' H',Ext Hf H Hf' H' -> zqe G Hf' H' J ds -> R J H'
noncomputable def DI (c : Str -> Addr) (X : Cx) (tg iter : Expr) (f : List Sl -> Option (List D)) : Prop:=PI X tg iter (tDI (Gx c X) f)
noncomputable def DIe (c : Str -> Addr) (X : Cx) (tg iter : Expr) (f : List Sl -> Option (List D)) : Prop:=PI X tg iter (zuz (Gx c X) f)
section
variable {c : Str -> Addr} {X : Cx} {tg e a b : Expr} {es : List Expr} {pos p : Pos}
theorem DI.de {f : List Sl -> Option (List D)} (h : DI c X tg e f) : DIe c X tg e f:=PI.imp h fun σ H R q_=>by
 obtain ⟨Hf0,H0,Hf,ρ,ds,st,ef,k⟩:=q_
 exact (⟨Hf0,H0,Hf,ρ,ds,st,ef,fun J Hf' H' x i=>k J Hf' H' x i.toE⟩)
theorem z7t {G : Gc} {Hf H : Hp} {ds : List D} {l : Addr} {vs : List V} (q : SqL G.K H l vs) (r : zai G Hf ds vs) : zqe G Hf H (Itl G.K l) ds:=fun Hf' H' xx i=>by
 have q' : SqL G.K H' l vs:=xx.h.seq q
 refine ⟨fun d ed=>?_,fun ei=>⟨vs,q',by rw [<- r.length,ei]; exact Nat.le_refl _⟩⟩
 obtain ⟨v,ev,rv⟩:=r.get ed
 refine ⟨⟨vs,v,q',ev⟩,fun x H2 ⟨e2,y⟩=>?_⟩
 subst e2
 have:=y vs q'
 rw [ev] at this
 cases this
 exact ⟨Hf',Ext.refl xx.s,rv.up xx.f⟩
theorem zx2 {G : Gc} {Hf : Hp} {ds : List D} {l : Addr} {vs : List V} (q : SqT G.K Hf l vs) (r : zai G Hf ds vs) : zkj G Hf (Itt G.K l) ds:=fun Hf' H' f s i=>by
 have q' : SqT G.K H' l vs:=(f.trans s).tup q
 refine ⟨fun d ed=>?_,fun ei=>⟨vs,q',by rw [<- r.length,ei]; exact Nat.le_refl _⟩⟩
 obtain ⟨v,ev,rv⟩:=r.get ed
 refine ⟨⟨vs,v,q',ev⟩,fun x H2 ⟨e2,y⟩=>?_⟩
 subst e2
 have:=y vs q'
 rw [ev] at this
 cases this
 exact ⟨Hf',Ext.refl s,rv.up f⟩
theorem zb9 {f : List Sl -> Option D} (h : DE c X e f) : DI c X tg e (zbh f):=fun pins s σ H R I q_=>by
 obtain ⟨Hf0,H0,Hf,ρ,ds,st,ef,k⟩:=q_
 unfold zbh at ef
 cases e1 : f ρ with
 | none=>rw [e1] at ef; cases ef
 | some d =>
  rw [e1] at ef
  replace ef : zg8 d = some ds:=ef
  have un : ∀ {l : Addr} {H' : Hp} {us vs : List V},SqL X.K H' l us -> SqL X.K H' l vs -> us = vs \/ True:=fun _ _=>.inr trivial
  cases e2 : lsD d with
  | some ds' =>
   have : ds' = ds:=by cases d <;> first | (cases e2; done) | (cases e2; cases ef; rfl)
   subst this
   refine zun h pins s σ H R I ⟨Hf0,H0,Hf,ρ,d,st,e1,fun v Hf' H' x r=>?_⟩
   obtain ⟨a,vs,ea,q,rs⟩:=zg0 e2 r
   exact ⟨a,ea,⟨vs,x.s.seq q⟩,k _ Hf' H' x fun Hf2 H2 f2 s2 i=>by
    have q' : SqL X.K H2 a vs:=(f2.trans s2).seq q
    refine ⟨fun d ed=>?_,fun ei=>⟨vs,q',by rw [<- rs.length,ei]; exact Nat.le_refl _⟩⟩
    obtain ⟨v,ev,rv⟩:=rs.get ed
    refine ⟨⟨vs,v,q',ev⟩,fun x H3 ⟨e3,y⟩=>?_⟩
    subst e3
    have:=y vs q'
    rw [ev] at this
    cases this
    exact ⟨Hf2,Ext.refl s2,rv.up f2⟩⟩
  | none =>
   have e3 : tpD d = some ds:=by cases d <;> first | (cases e2; done) | (cases ef; done) | (cases ef; rfl)
   refine z6w h pins s σ H R I ⟨Hf0,H0,Hf,ρ,d,st,e1,fun v Hf' H' x r=>?_⟩
   obtain ⟨a,vs,ea,q,rs⟩:=zq7 e3 r
   exact ⟨a,ea,⟨vs,x.s.tup q⟩,k _ Hf' H' x (zx2 q rs)⟩
theorem zz3 {i : Nat} (h : PE X e (zd8 i)) : DIe c X tg e (zaf i):=fun pins s σ H R I q_=>by
 obtain ⟨Hf0,H0,Hf,ρ,ds,st,ef,k⟩:=q_
 cases es : ρ[i]? with
 | none=>unfold zaf at ef; rw [es] at ef; cases ef
 | some sl =>
  cases sl with
  | im d =>
   refine DI.de (zb9 (zou h)) pins s σ H R I ⟨Hf0,H0,Hf,ρ,ds,st,?_,k⟩
   unfold zaf at ef
   rw [es] at ef
   unfold zbh zaa
   rw [es]
   exact ef
  | own xs =>
   unfold zaf at ef
   rw [es] at ef
   cases ef
   obtain ⟨l,e1,_,_,vs,q,r⟩:=st.ownAt rfl es
   exact zun h pins s σ H R I ⟨_,e1,l,rfl,⟨vs,SqL.of q⟩,k _ Hf H (Ext.refl st.sub) (z7t (SqL.of q) r)⟩
  | _=>unfold zaf at ef; rw [es] at ef; cases ef
theorem z5c (i : Nat) {x : Str} (hN : X.N[i]? = some x:=by rfl) (hv : Vis X.env.scope x:=by first | exact Or.inl rfl | exact Or.inr (Or.inl rfl) | exact Or.inr (Or.inr rfl)) (hd : (x == ("__debug__" : Str)) = false:=by decide)
  (hcd : (x == ("__classdict__" : Str)) = false:=by decide) : DIe c X tg (.Name x pos) (zaf i):=zz3 (zhj hN hv hd hcd)
noncomputable def rng (lo : Int) (n : Nat) : List D:=(List.range n).map fun (i : Nat)=>.int (lo + i)
theorem zvv {G : Gc} {Hf : Hp} {lo : Int} {n : Nat} : zkj G Hf (Itr lo n) (rng lo n):=fun Hf' H' f s i=>by
 refine ⟨fun d ed=>?_,fun ei=>?_⟩
 ·unfold rng at ed
  rw [List.getElem?_map] at ed
  cases e : (List.range n)[i]? with
  | none=>rw [e] at ed; cases ed
  | some j =>
   rw [e] at ed
   obtain ⟨hi,ej⟩:=List.getElem?_eq_some_iff.mp e
   rw [List.length_range] at hi
   rw [List.getElem_range] at ej
   subst ej
   cases ed
   exact ⟨hi,fun x H2 ⟨e2,y⟩=>by subst e2; exact ⟨Hf',Ext.refl s,y⟩⟩
 ·unfold rng at ei
  rw [List.length_map,List.length_range] at ei
  exact Nat.le_of_eq ei.symm
noncomputable def zpp : List D -> Option (List D)
 | [.int j]=>if -(2 ^ 62) <= j /\ j < 2 ^ 62 then some (rng 0 j.toNat) else none
 | [.int i,.int j]=>if -(2 ^ 62) <= i /\ i < 2 ^ 62 /\ -(2 ^ 62) <= j /\ j < 2 ^ 62 then some (rng i (j - i).toNat) else none
 | _=>none
noncomputable def zdt (f : List Sl -> Option (List D)) (ρ : List Sl) : Option (List D):=(f ρ).bind zpp
theorem zfx {f : List Sl -> Option (List D)} (hg : Gl X "range") (hm : X.mg "range" = none) (ha : DA c X [a] f) (hs : starEach [a] X.env = [(false,eval a X.env)]:=by rfl) : DI c X tg (.Call (.Name "range" p) [a] [] pos) (zdt f) :=
 PI.imp (z61 hg hm ha.pa hs) fun σ H R q_=>by
  obtain ⟨Hf0,H0,Hf,ρ,ds,st,ef,k⟩:=q_
  unfold zdt at ef
  cases e1 : f ρ with
  | none=>rw [e1] at ef; cases ef
  | some as =>
   rw [e1] at ef
   replace ef : zpp as = some ds:=ef
   have hl:=ha.len ρ as e1
   refine ⟨Hf0,H0,Hf,ρ,as,st,e1,fun vs Hf' H' x r=>?_⟩
   unfold zpp at ef
   split at ef
   ·split at ef
    ·rename_i j hj
     cases ef
     obtain ⟨v,ev,rv⟩:=r.one
     cases (show v = V.int j from rv)
     exact ⟨j,ev,hj.1,hj.2,k _ Hf' H' x zvv⟩
    ·cases ef
   ·cases hl
   ·cases ef
end
noncomputable def zdc (k : Nat) (js : List Nat) (ρ : List Sl) : List Sl:=List.replicate k .no ++ js.map fun j=>(ρ[j]?).getD .no
section
variable {G : Gc} {Hf0 H0 Hf H : Hp} {σ : St} {ρ : List Sl}
theorem za0.weak {ρ' : List Sl} (h : za0 G Hf0 H0 Hf H σ ρ) (hl : ρ'.length = ρ.length) (hw : ∀ (i : Nat) (s : Sl),ρ'[i]? = some s -> s = .no \/ ρ[i]? = some s) : za0 G Hf0 H0 Hf H σ ρ':=by
 refine h.re h.ext hl (fun i v s a b=>?_) fun i s v a b c p=>?_
 ·rcases hw i s b with e | e
  ·subst e; trivial
  ·exact h.at' i v s a e
 ·rcases hw i s b with e | e
  ·subst e; exact (p.calm rfl).elim
  ·exact ⟨s,e,p⟩
theorem zll {α : Type} {k : Nat} {x : α} {l : List α} {i : Nat} {y : α} (h : (List.replicate k x ++ l)[i]? = some y) : (i < k /\ y = x) \/ (k <= i /\ l[i - k]? = some y):=by
 by_cases hi : i < k
 ·left
  rw [List.getElem?_append_left (by simpa using hi),List.getElem?_replicate,if_pos hi] at h
  exact ⟨hi,(Option.some.inj h).symm⟩
 ·right
  rw [List.getElem?_append_right (by simpa using Nat.le_of_not_lt hi),List.length_replicate] at h
  exact ⟨Nat.le_of_not_lt hi,h⟩
theorem zh1 {α β : Type} {f : α -> β} {l : List α} {i : Nat} {y : β} (h : (l.map f)[i]? = some y) : ∃ x,l[i]? = some x /\ y = f x:=by
 rw [List.getElem?_map] at h
 cases e : l[i]? with
 | none=>rw [e] at h; cases h
 | some x=>rw [e] at h; exact ⟨x,rfl,(Option.some.inj h).symm⟩
theorem z33 {js : List Nat} (h : js.Nodup) {i j x : Nat} (a : js[i]? = some x) (b : js[j]? = some x) : i = j:=by
 obtain ⟨h1,e1⟩:=List.getElem?_eq_some_iff.mp a
 obtain ⟨h2,e2⟩:=List.getElem?_eq_some_iff.mp b
 exact (List.getElem_inj h).mp (e1.trans e2.symm)
theorem za0.comp (k : Nat) {js : List Nat} (h : za0 G Hf0 H0 Hf H σ ρ) (hj : js.Nodup) : za0 G Hf0 H0 Hf H (zfw k js σ) (zdc k js ρ):=by
 have own : ∀ (i : Nat) (s : Sl),(zdc k js ρ)[i]? = some s -> s.calm = false -> ∃ j,k <= i /\ js[i - k]? = some j /\ ρ[j]? = some s:=fun i s a hs=>by
  rcases zll a with ⟨_,e⟩ | ⟨hi,a⟩
  ·subst e; cases hs
  ·obtain ⟨j,ej,es⟩:=zh1 a
   cases e : ρ[j]? with
   | none=>rw [e] at es; subst es; cases hs
   | some t=>rw [e] at es; replace es : s = t:=es; subst es; exact ⟨j,hi,ej,e⟩
 have val : ∀ (i : Nat) (v : Option V) (j : Nat),(zfw k js σ)[i]? = some v -> k <= i -> js[i - k]? = some j -> v = (σ[j]?).getD none:=fun i v j a hi ej=>by
  rcases zll a with ⟨hi',_⟩ | ⟨_,a⟩
  ·omega
  ·obtain ⟨j',ej',es⟩:=zh1 a
   rw [ej] at ej'; cases ej'
   exact es
 refine ⟨h.ext,by simp [zfw,zdc],fun i v s a b=>?_,fun i j s t y z l a b c d p q=>?_⟩
 ·rcases zll b with ⟨_,e⟩ | ⟨hi,b⟩
  ·subst e; trivial
  ·obtain ⟨j,ej,es⟩:=zh1 b
   have ev:=val i v j a hi ej
   cases e : ρ[j]? with
   | none=>rw [e] at es; subst es; trivial
   | some t =>
    rw [e] at es
    replace es : s = t:=es
    subst es
    obtain ⟨u,eu,q⟩:=h.slot e
    rw [eu] at ev
    replace ev : v = u:=ev
    subst ev
    exact q
 ·have hs : s.calm = false:=by
   cases hc : s.calm with
   | true=>exact (p.calm hc).elim
   | false=>rfl
  have ht : t.calm = false:=by
   cases hc : t.calm with
   | true=>exact (q.calm hc).elim
   | false=>rfl
  obtain ⟨i',hi,ei,e1⟩:=own i s a hs
  obtain ⟨j',hj',ej,e2⟩:=own j t b ht
  have v1:=val i _ i' c hi ei
  have v2:=val j _ j' d hj' ej
  obtain ⟨u1,eu1,_⟩:=h.slot e1
  obtain ⟨u2,eu2,_⟩:=h.slot e2
  rw [eu1] at v1
  rw [eu2] at v2
  replace v1 : some y = u1:=v1
  replace v2 : some z = u2:=v2
  subst v1 v2
  have:=h.dj i' j' s t y z l e1 e2 eu1 eu2 p q
  subst this
  have:=z33 hj ei ej
  omega
end
noncomputable def zen (h : D -> Option (Option D)) : List D -> Option (List D)
 | []=>some []
 | d :: ds=>(h d).bind fun o=>(zen h ds).map fun r=>match o with
  | some y=>y :: r
  | none=>r
theorem z1j {h : D -> Option (Option D)} {d : D} {ds r : List D} (e : zen h (d :: ds) = some r) : ∃ o r',h d = some o /\ zen h ds = some r' /\ r = (match o with | some y=>y :: r' | none=>r'):=by
 unfold zen at e
 cases e1 : h d with
 | none=>rw [e1] at e; cases e
 | some o =>
  cases e2 : zen h ds with
  | none=>rw [e1,e2] at e; cases e
  | some r' =>
   rw [e1,e2] at e
   cases e
   refine ⟨o,r',rfl,rfl,?_⟩
   cases o <;> rfl
noncomputable def ze1 (g : D -> List Sl -> Option (List Sl)) (ft : List Sl -> Option Bool) (fe : List Sl -> Option D) (ρ : List Sl) (d : D) : Option (Option D):=(g d ρ).bind fun ρ1=>(ft ρ1).bind fun b=>if b then (fe ρ1).map some else some none
noncomputable def zbl (k : Nat) (js : List Nat) (fi : List Sl -> Option (List D)) (g : D -> List Sl -> Option (List Sl)) (ft : List Sl -> Option Bool) (fe : List Sl -> Option D) (ρ : List Sl) : Option (List D) :=
 (fi ρ).bind fun ds=>if ds.length <= 16777216 then zen (ze1 g ft fe (zdc k js ρ)) ds else none
theorem zs9 {α : Type} {l : List α} {i : Nat} (h : i < l.length) : ∃ x,l[i]? = some x /\ l.drop i = x :: l.drop (i + 1):=⟨l[i],by simp [h],(List.drop_eq_getElem_cons h)⟩
noncomputable def DTs (c : Str -> Addr) (X : Cx) (ifs : List Expr) (f : List Sl -> Option Bool) : Prop:=PTs X ifs (tDT (Gx c X) f)
section
variable {c : Str -> Addr} {X : Cx} {elt tg iter e : Expr} {ifs : List Expr} {scope : Scope} {pos : Pos} {Nc : List Str} {k : Nat} {js : List Nat}
 {fi : List Sl -> Option (List D)} {g : D -> List Sl -> Option (List Sl)} {ft : List Sl -> Option Bool} {fe : List Sl -> Option D}
theorem zdf : DTs c X [] (fun _=>some true):=PTs.imp zxr fun σ H Q q_=>by
 obtain ⟨Hf0,H0,Hf,ρ,b,st,ef,k⟩:=q_
 exact (by cases ef; exact k Hf H (Ext.refl st.sub))
theorem zgd {f : List Sl -> Option Bool} (h : DT c X e f) : DTs c X [e] f:=z2d h
theorem zo3 {G : Gc} (hj : js.Nodup) (hk : ∀ d ρ ρ' i,g d ρ = some ρ' -> k <= i -> ρ'[i]? = ρ[i]?) (hlen : ∀ d ρ ρ',g d ρ = some ρ' -> ρ'.length = ρ.length) {σ : St} {H : Hp} {Q : VK} (h : tDO G (zbl k js fi g ft fe) σ H Q) :
  zow k js (zuz G fi) (tDG G g) (tDT G ft) (tD G fe) σ H Q:=by
 obtain ⟨Hf0,H0,Hf,ρ,rs,st,ef,kq⟩:=h
 unfold zbl at ef
 cases e1 : fi ρ with
 | none=>rw [e1] at ef; cases ef
 | some ds =>
  rw [e1] at ef
  replace ef : (if ds.length <= 16777216 then zen (ze1 g ft fe (zdc k js ρ)) ds else none) = some rs:=ef
  by_cases hz : ds.length <= 16777216
  ·rw [if_pos hz] at ef
   refine ⟨Hf0,H0,Hf,ρ,ds,st,e1,fun J Hf1 H1 x1 it=>?_⟩
   refine ⟨fun i m ys σ' H'=>m = ds.length - i /\ i <= ds.length /\ ∃ Hf' as zcd,Ext Hf1 H1 Hf' H' /\ za0 G Hf0 H0 Hf' H' σ' (zdc k js ρ) /\ zai G Hf' as ys /\ zen (ze1 g ft fe (zdc k js ρ)) (ds.drop i) = some zcd /\ rs = as ++ zcd /\ as.length <= i,
    ⟨ds.length,rfl,Nat.zero_le _,Hf1,[],rs,Ext.refl x1.s,(st.step x1).comp k hj,rfl,ef,rfl,Nat.le_refl _⟩,?_⟩
   rintro i m ys σ' H' ⟨rfl,hi,Hf',as,zcd,x2,st2,ra,ec,er,hal⟩
   have hys : ys.length <= sizeLine:=by rw [sizeLine_eq,<- ra.length]; omega
   obtain ⟨it1,it2⟩:=it Hf' H' x2 i
   by_cases hlt : i < ds.length
   ·obtain ⟨d,ed,edr⟩:=zs9 hlt
    obtain ⟨go,yl⟩:=it1 d ed
    refine .inr ⟨go,hys,fun ys' σ2 H2=>ds.length - (i + 1) = ds.length - (i + 1) /\ i + 1 <= ds.length /\ ∃ Hf' as zcd,Ext Hf1 H1 Hf' H2 /\ za0 G Hf0 H0 Hf' H2 σ2 (zdc k js ρ) /\ zai G Hf' as ys' /\ zen (ze1 g ft fe (zdc k js ρ)) (ds.drop (i + 1)) = some zcd /\ rs = as ++ zcd /\ as.length <= i + 1,
     fun ys' σ2 H2 w=>⟨ds.length - (i + 1),by omega,w⟩,fun x H2 y=>?_⟩
    obtain ⟨Hf2,x3,rx⟩:=yl x H2 y
    rw [edr] at ec
    obtain ⟨o,r',eo,ec',erest⟩:=z1j ec
    unfold ze1 at eo
    cases eg : g d (zdc k js ρ) with
    | none=>rw [eg] at eo; cases eo
    | some ρ1 =>
     rw [eg] at eo
     replace eo : (ft ρ1).bind _ = _:=eo
     cases et : ft ρ1 with
     | none=>rw [et] at eo; cases eo
     | some b =>
      rw [et] at eo
      replace eo : (if b = true then (fe ρ1).map some else some none) = some o:=eo
      refine ⟨Hf0,H0,Hf2,zdc k js ρ,d,ρ1,st2.step x3,rx,eg,fun σ3 st3=>⟨Hf0,H0,Hf2,ρ1,b,st3,et,fun Hf4 H4 x4=>?_⟩⟩
      have back : ∀ {Hf5 H5 : Hp},za0 G Hf0 H0 Hf5 H5 σ3 ρ1 -> za0 G Hf0 H0 Hf5 H5 σ3 (zdc k js ρ):=fun {Hf5 H5} s5=>s5.weak (hlen _ _ _ eg).symm fun j s hs=>by
       rcases zll hs with ⟨_,e⟩ | ⟨hj',_⟩
       ·exact .inl e
       ·exact .inr (by rw [hk _ _ _ _ eg hj']; exact hs)
      cases b with
      | true =>
       rw [if_pos rfl] at eo
       refine zvx ?_
       cases ee : fe ρ1 with
       | none=>rw [ee] at eo; cases eo
       | some y' =>
        rw [ee] at eo
        cases eo
        refine ⟨Hf0,H0,Hf4,ρ1,y',st3.step x4,ee,fun v Hf5 H5 x5 r5=>?_⟩
        have x:=(x3.trans x4).trans x5
        refine ⟨rfl,hlt,Hf5,as ++ [y'],r',x2.trans x,back ((st3.step x4).step x5),(ra.up x.f).append (.cons r5 .nil),ec',?_,by rw [List.length_append,List.length_singleton]; omega⟩
        rw [er,erest,List.append_assoc]
        rfl
      | false =>
       rw [if_neg Bool.false_ne_true] at eo
       refine zwh ?_
       cases eo
       have x:=x3.trans x4
       exact ⟨rfl,hlt,Hf4,as,r',x2.trans x,back (st3.step x4),ra.up x.f,ec',by rw [er,erest],by omega⟩
   ·have ei : i = ds.length:=by omega
    subst ei
    refine .inl ⟨it2 rfl,hys,fun l h1 h2=>?_⟩
    rw [List.drop_eq_nil_of_le (Nat.le_refl _)] at ec
    cases ec
    rw [List.append_nil] at er
    subst er
    have x:=x1.trans x2
    exact kq l ys Hf' (upd H' l (.lst ys)) (x.trans (Ext.tmp x.s h2)) (x.h.free h2) (x.s.free h2) zbm ra
  ·rw [if_neg hz] at ef
   cases ef
theorem zcw (k : Nat) (js : List Nat) (Nc : List Str) (hc : X.calm = true) (hi : DIe c X tg iter fi) (hg : ∀ cl C ex s₂ H₂,DG c (X.comp scope Nc cl C ex s₂ H₂) tg k g) (ht : ∀ cl C ex s₂ H₂,DTs c (X.comp scope Nc cl C ex s₂ H₂) ifs ft)
  (he : ∀ cl C ex s₂ H₂,DE c (X.comp scope Nc cl C ex s₂ H₂) elt fe) (ck : zhr scope X.env.scope.names X.N Nc k js = true:=by rfl) (hs : ∀ x,foldedSetIterable iter X.env x = pure x:=by intro _; rfl) (hj : js.Nodup:=by decide) :
  DO c X (.ListComp elt [⟨tg,iter,ifs,0⟩] scope pos) (zbl k js fi g ft fe) :=
 PE.imp (z3y (g:=tDG (Gx c X) g) (tt:=tDT (Gx c X) ft) (te:=tD (Gx c X) fe) k js Nc hc hi (fun cl C ex s₂ H₂=>(hg cl C ex s₂ H₂).pg) ht he ck hs) fun σ H Q h =>
  zo3 hj (hg [] 0 [] X.s₀ X.H₀).keep (hg [] 0 [] X.s₀ X.H₀).len h
end
section
variable {c : Str -> Addr} {X : Cx} {tg : Expr} {scope : Scope} {Nc : List Str} {cl : List (Str × Addr)} {C : Addr} {ex : List Addr} {s₂ : Shared} {H₂ : Hp}
theorem dvc (i : Nat) {x : Str} {pos : Pos} (hN : Nc[i]? = some x:=by rfl) (hv : Vis scope x:=by first | exact Or.inl rfl | exact Or.inr (Or.inl rfl) | exact Or.inr (Or.inr rfl)) (hd : (x == ("__debug__" : Str)) = false:=by decide)
  (hcd : (x == ("__classdict__" : Str)) = false:=by decide) : DE c (X.comp scope Nc cl C ex s₂ H₂) (.Name x pos) (zaa i):=zou (pvc i hN hv hd hcd)
theorem z5o (i : Nat) {x : Str} {pos : Pos} (hN : Nc[i]? = some x:=by rfl) (hv : Vis scope x:=by first | exact Or.inl rfl | exact Or.inr (Or.inl rfl) | exact Or.inr (Or.inr rfl)) (hd : (x == ("__debug__" : Str)) = false:=by decide)
  (hcd : (x == ("__classdict__" : Str)) = false:=by decide) : DB c (X.comp scope Nc cl C ex s₂ H₂) (.Name x pos) (zgi i):=zq9 (pvc i hN hv hd hcd)
theorem zdo (i : Nat) {x : Str} {pos : Pos} (hN : Nc[i]? = some x:=by rfl) (hv : Vis scope x:=by first | exact Or.inl rfl | exact Or.inr (Or.inl rfl) | exact Or.inr (Or.inr rfl)) (hd : (x == ("__debug__" : Str)) = false:=by decide)
  (hcd : (x == ("__classdict__" : Str)) = false:=by decide) : DC c (X.comp scope Nc cl C ex s₂ H₂) (.Name x pos) (zaf i):=zty (pvc i hN hv hd hcd)
theorem dgc (i k : Nat) {x : Str} {pos : Pos} (hk : i < k:=by decide) (hN : Nc.Nodup:=by decide +kernel) (hi : Nc[i]? = some x:=by rfl) (hl : scope.names.lookup x = some .local:=by rfl) : DG c (X.comp scope Nc cl C ex s₂ H₂) (.Name x pos) k (zar i) :=
 zq6 (pgc i hN hi hl) hk
end
inductive Fl where
 | nx (ρ : List Sl)
 | bk (ρ : List Sl)
 | ct (ρ : List Sl)
 | rt (d : D)
 | rtO (ds : List D)
 | rtS (d : D) (ρ : List Sl)
 | rtT (o : O)
noncomputable def zmp (G : Gc) (Hf0 H0 Hf : Hp) (E : zhc) : Fl -> Prop
 | .nx ρ'=>∀ σ' Hf' H',zau Hf Hf' -> za0 G Hf0 H0 Hf' H' σ' ρ' -> E.nx σ' H'
 | .bk ρ'=>∀ σ' Hf' H',zau Hf Hf' -> za0 G Hf0 H0 Hf' H' σ' ρ' -> E.bk σ' H'
 | .ct ρ'=>∀ σ' Hf' H',zau Hf Hf' -> za0 G Hf0 H0 Hf' H' σ' ρ' -> E.ct σ' H'
 | .rt d=>∀ v Hf' H',Ext Hf0 H0 Hf' H' -> Rep G Hf' d v -> E.rt v H'
 | .rtO ds=>∀ l vs Hf' H',Ext Hf0 H0 Hf' H' -> H0 l = none -> Hf' l = none -> H' l = some (.lst vs) -> zai G Hf' ds vs -> E.rt (.ref l) H'
 | .rtS d ρ=>∀ v σ' Hf' H',za0 G Hf0 H0 Hf' H' σ' ρ -> Rep G Hf' d v -> E.rt v H'
 | .rtT o=>∀ u fp Hf' H',Ext Hf0 H0 Hf' H' -> OT G Hf' H' o u fp -> fp.Nodup -> (∀ a ∈ fp,H0 a = none /\ Hf' a = none) -> E.rt u H'
noncomputable def tDS (G : Gc) (F : List Sl -> Option Fl) : TS:=fun E σ H=>∃ Hf0 H0 Hf ρ o,za0 G Hf0 H0 Hf H σ ρ /\ F ρ = some o /\ zmp G Hf0 H0 Hf E o
noncomputable def DS (c : Str -> Addr) (X : Cx) (st : Stmt) (F : List Sl -> Option Fl) : Prop:=PS X st (tDS (Gx c X) F)
noncomputable def DSs (c : Str -> Addr) (X : Cx) (st : List Stmt) (F : List Sl -> Option Fl) : Prop:=PSs X st (tDS (Gx c X) F)
noncomputable def zbq (ρ : List Sl) : Option Fl:=some (.nx ρ)
noncomputable def zak (F F' : List Sl -> Option Fl) (ρ : List Sl) : Option Fl:=(F ρ).bind fun o=>match o with
 | .nx ρ'=>F' ρ'
 | o=>some o
noncomputable def zbd (t : List Sl -> Option Bool) (F F' : List Sl -> Option Fl) (ρ : List Sl) : Option Fl:=(t ρ).bind fun b=>if b then F ρ else F' ρ
noncomputable def zbf (i : Nat) (f : List Sl -> Option D) (ρ : List Sl) : Option Fl:=(f ρ).map fun d=>.nx (ρ.set i (.im d))
noncomputable def zcv (i : Nat) (f : List Sl -> Option (List D)) (ρ : List Sl) : Option Fl:=(f ρ).map fun d=>.nx (ρ.set i (.own d))
noncomputable def zay (f : List Sl -> Option D) (ρ : List Sl) : Option Fl:=(f ρ).map .rt
noncomputable def zha (f : List Sl -> Option (List D)) (ρ : List Sl) : Option Fl:=(f ρ).map .rtO
noncomputable def zd0 (i : Nat) (ρ : List Sl) : Option Fl:=match ρ[i]? with
 | some (.im d)=>some (.rt d)
 | some (.own xs)=>some (.rtO xs)
 | _=>none
noncomputable def zfa (g : D -> List Sl -> Option (List Sl)) (F : List Sl -> Option Fl) : List D -> List Sl -> Option Fl
 | [],ρ=>some (.nx ρ)
 | d :: ds,ρ=>(g d ρ).bind fun ρ1=>(F ρ1).bind fun o=>match o with
  | .nx ρ2=>zfa g F ds ρ2
  | .ct ρ2=>zfa g F ds ρ2
  | .bk ρ2=>some (.nx ρ2)
  | .rt d=>some (.rt d)
  | .rtO d=>some (.rtO d)
  | .rtS d ρ2=>some (.rtS d ρ2)
  | .rtT o=>some (.rtT o)
noncomputable def zco (fi : List Sl -> Option (List D)) (g : D -> List Sl -> Option (List Sl)) (F : List Sl -> Option Fl) (ρ : List Sl) : Option Fl:=(fi ρ).bind fun ds=>zfa g F ds ρ
noncomputable def zjd (i : Nat) (ρ : List Sl) : List Sl:=match ρ[i]? with
 | some (.own xs)=>ρ.set i (.im (.lst xs))
 | some (.ownd ks xs)=>ρ.set i (.im (.dic ks xs))
 | some (.obj c ns xs)=>ρ.set i (.im (.ins c ns xs))
 | _=>ρ
noncomputable def zdq (i : Nat) (F : List Sl -> Option Fl) (ρ : List Sl) : Option Fl:=F (zjd i ρ)
noncomputable def zd9 (i : Nat) (f : List Sl -> Option D) (ρ : List Sl) : Option Fl:=(f ρ).bind fun d=>match ρ[i]? with
 | some (.own xs)=>if xs.length < 16777216 then some (.nx (ρ.set i (.own (xs ++ [d])))) else none
 | _=>none
noncomputable def ziw (f : List Sl -> Option D) (ρ : List Sl) : Option (List D):=(f ρ).bind fun d=>match d with
 | .lst xs=>some xs
 | _=>none
noncomputable def zij (i : Nat) (f : List Sl -> Option (List D)) (ρ : List Sl) : Option Fl:=(f ρ).bind fun ds=>match ρ[i]? with
 | some (.own xs)=>if xs.length + ds.length <= 16777216 then some (.nx (ρ.set i (.own (xs ++ ds)))) else none
 | _=>none
section
variable {c : Str -> Addr} {X : Cx} {st : Stmt} {sts a b : List Stmt} {e cd tg iter : Expr} {pos : Pos} {F F' : List Sl -> Option Fl}
theorem zbs : DSs c X [] zbq:=PSs.imp zqu fun E σ H q_=>by
 obtain ⟨Hf0,H0,Hf,ρ,o,so,ef,k⟩:=q_
 exact (by cases ef; exact k σ Hf H (zau.refl _) so)
theorem zmp.up {G : Gc} {Hf0 H0 Hf Hf' : Hp} {E : zhc} {o : Fl} (h : zmp G Hf0 H0 Hf E o) (s : zau Hf Hf') : zmp G Hf0 H0 Hf' E o:=by
 cases o with
 | nx ρ=>exact fun σ' Hf2 H2 s2 q=>h σ' Hf2 H2 (s.trans s2) q
 | bk ρ=>exact fun σ' Hf2 H2 s2 q=>h σ' Hf2 H2 (s.trans s2) q
 | ct ρ=>exact fun σ' Hf2 H2 s2 q=>h σ' Hf2 H2 (s.trans s2) q
 | rt d=>exact h
 | rtO d=>exact h
 | rtS d ρ=>exact h
 | rtT o=>exact h
theorem zal (h1 : DS c X st F) (h2 : DSs c X sts F') : DSs c X (st :: sts) (zak F F'):=PSs.imp (zu7 h1 h2) fun E σ H q_=>by
 obtain ⟨Hf0,H0,Hf,ρ,o,so,ef,k⟩:=q_
 unfold zak at ef
 cases e1 : F ρ with
 | none=>rw [e1] at ef; cases ef
 | some o1 =>
  rw [e1] at ef
  refine ⟨Hf0,H0,Hf,ρ,o1,so,e1,?_⟩
  cases o1 with
  | nx ρ1=>exact fun σ1 Hf1 H1 s1 so1=>⟨Hf0,H0,Hf1,ρ1,o,so1,ef,k.up s1⟩
  | bk ρ1=>cases ef; exact k
  | ct ρ1=>cases ef; exact k
  | rt d=>cases ef; exact k
  | rtO d=>cases ef; exact k
  | rtS d ρ1=>cases ef; exact k
  | rtT o'=>cases ef; exact k
theorem zam (h1 : DS c X st F) : DSs c X [st] F:=zxz h1
theorem zbr {t : List Sl -> Option Bool} (hc : DT c X cd t) (ha : DSs c X a F) (hb : DSs c X b F') : DS c X (.If cd a b pos) (zbd t F F'):=PS.imp (zwo hc ha hb) fun E σ H q_=>by
 obtain ⟨Hf0,H0,Hf,ρ,o,so,ef,k⟩:=q_
 unfold zbd at ef
 cases e1 : t ρ with
 | none=>rw [e1] at ef; cases ef
 | some x =>
  rw [e1] at ef
  refine ⟨Hf0,H0,Hf,ρ,x,so,e1,fun Hf1 H1 x1=>?_⟩
  cases x with
  | true=>rw [if_pos rfl]; exact ⟨Hf0,H0,Hf1,ρ,o,so.step x1,ef,k.up x1.f⟩
  | false=>rw [if_neg Bool.false_ne_true]; exact ⟨Hf0,H0,Hf1,ρ,o,so.step x1,ef,k.up x1.f⟩
theorem zte {te : TE} {i : Nat} {f : List Sl -> Option D} (hp : PS X st (zh5 te (zhb i))) (hi : ∀ σ H Q,tD (Gx c X) f σ H Q -> te σ H Q) : DS c X st (zbf i f):=PS.imp hp fun E σ H q_=>by
 obtain ⟨Hf0,H0,Hf,ρ,o,so,ef,k⟩:=q_
 unfold zbf at ef
 cases e1 : f ρ with
 | none=>rw [e1] at ef; cases ef
 | some d =>
  rw [e1] at ef
  cases ef
  exact hi _ _ _ ⟨Hf0,H0,Hf,ρ,d,so,e1,fun v Hf' H' x r=>k _ Hf' H' x.f ((so.step x).setIm r)⟩
theorem zva {te : TE} {i : Nat} {f : List Sl -> Option (List D)} (hp : PS X st (zh5 te (zhb i))) (hi : ∀ σ H Q,tDO (Gx c X) f σ H Q -> te σ H Q) : DS c X st (zcv i f):=PS.imp hp fun E σ H q_=>by
 obtain ⟨Hf0,H0,Hf,ρ,o,so,ef,k⟩:=q_
 unfold zcv at ef
 cases e1 : f ρ with
 | none=>rw [e1] at ef; cases ef
 | some d =>
  rw [e1] at ef
  cases ef
  exact hi _ _ _ ⟨Hf0,H0,Hf,ρ,d,so,e1,fun l vs Hf' H' x hn hf hl r=>k _ Hf' H' x.f (so.setOwn (s:=.own d) rfl x hn hf ⟨vs,hl,r⟩)⟩
theorem zb3 (i : Nat) {x : Str} {f : List Sl -> Option D} {pos' : Pos} (hN : X.N.Nodup) (he : DE c X e f) (hi : X.N[i]? = some x:=by rfl) (hx : Loc X.env.scope x:=by first | exact Or.inl rfl | exact Or.inr rfl) (hs : swapsWith e (some (.Name x pos')) pos.line X.env = pure false:=by rfl) (hf : X.fn x = true \/ X.env.scope.names.lookup x = some .local:=by first | exact .inl rfl | exact .inr rfl) :
  DS c X (.Assign [.Name x pos'] e pos) (zbf i f):=zte (znh hN hi hx he hs hf) fun _ _ _ h=>h
theorem zep (i : Nat) {x : Str} {f : List Sl -> Option (List D)} {pos' : Pos} (hN : X.N.Nodup) (he : DO c X e f) (hi : X.N[i]? = some x:=by rfl) (hx : Loc X.env.scope x:=by first | exact Or.inl rfl | exact Or.inr rfl) (hs : swapsWith e (some (.Name x pos')) pos.line X.env = pure false:=by rfl) (hf : X.fn x = true \/ X.env.scope.names.lookup x = some .local:=by first | exact .inl rfl | exact .inr rfl) :
  DS c X (.Assign [.Name x pos'] e pos) (zcv i f):=zva (znh hN hi hx he hs hf) fun _ _ _ h=>h
theorem z2i {G : Gc} {f : List Sl -> Option (List D)} {σ : St} {H : Hp} {Q : VK} (h : tD G (zan f) σ H Q) : tDO G f σ H Q:=by
 obtain ⟨Hf0,H0,Hf,ρ,d,st,ef,k⟩:=h
 unfold zan at ef
 cases ed : f ρ with
 | none=>rw [ed] at ef; cases ef
 | some ds =>
  rw [ed] at ef
  have ef : D.lst ds = d:=Option.some.inj ef
  subst ef
  exact ⟨Hf0,H0,Hf,ρ,ds,st,ed,fun l vs Hf' H' x hn hf hl r=>k _ (upd Hf' l (.lst vs)) H' (x.fix hn hf hl) ⟨l,vs,rfl,zbm,r.up (zcg hf)⟩⟩
theorem zwk (i : Nat) {x : Str} {pos' spos : Pos} {elt : Expr} {ifs : List Expr} {scope : Scope} {fi : List Sl -> Option (List D)} {g : D -> List Sl -> Option (List Sl)} {ft : List Sl -> Option Bool} {fe : List Sl -> Option D} (k : Nat) (js : List Nat) (Nc : List Str) (hN : X.N.Nodup) (hc : X.calm = true) (hi : DIe c X tg iter fi)
  (hg : ∀ cl C ex s₂ H₂,DG c (X.comp scope Nc cl C ex s₂ H₂) tg k g) (ht : ∀ cl C ex s₂ H₂,DTs c (X.comp scope Nc cl C ex s₂ H₂) ifs ft) (he : ∀ cl C ex s₂ H₂,DE c (X.comp scope Nc cl C ex s₂ H₂) elt fe)
  (hi' : X.N[i]? = some x:=by rfl) (hx : Loc X.env.scope x:=by first | exact Or.inl rfl | exact Or.inr rfl)
  (hsw : swapsWith (.ListComp elt [⟨tg,iter,ifs,0⟩] scope pos) (some (.Name x pos')) spos.line X.env = pure true:=by rfl)
  (ck : zhr scope X.env.scope.names X.N Nc k js = true:=by rfl) (hs : ∀ x,foldedSetIterable iter X.env x = pure x:=by intro _; rfl) (hj : js.Nodup:=by decide)
  (hf : X.fn x = true \/ X.env.scope.names.lookup x = some .local:=by first | exact .inl rfl | exact .inr rfl) :
  DS c X (.Assign [.Name x pos'] (.ListComp elt [⟨tg,iter,ifs,0⟩] scope pos) spos) (zcv i (zbl k js fi g ft fe)) :=
 zva (zu2 (g:=tDG (Gx c X) g) (tt:=tDT (Gx c X) ft) (te:=tD (Gx c X) fe) k js Nc hN hi' hx hc hi (fun cl C ex s₂ H₂=>(hg cl C ex s₂ H₂).pg) ht he hsw ck hs hf) fun σ H Q h=>zo3 hj (hg [] 0 [] X.s₀ X.H₀).keep (hg [] 0 [] X.s₀ X.H₀).len h
theorem zkb (i : Nat) {x : Str} {pos' spos : Pos} {elt : Expr} {ifs : List Expr} {scope : Scope} {fi : List Sl -> Option (List D)} {g : D -> List Sl -> Option (List Sl)} {ft : List Sl -> Option Bool} {fe : List Sl -> Option D} (k : Nat) (js : List Nat) (Nc : List Str) (hN : X.N.Nodup) (hc : X.calm = true) (hi : DIe c X tg iter fi)
  (hg : ∀ cl C ex s₂ H₂,DG c (X.comp scope Nc cl C ex s₂ H₂) tg k g) (ht : ∀ cl C ex s₂ H₂,DTs c (X.comp scope Nc cl C ex s₂ H₂) ifs ft) (he : ∀ cl C ex s₂ H₂,DE c (X.comp scope Nc cl C ex s₂ H₂) elt fe)
  (hi' : X.N[i]? = some x:=by rfl) (hx : Loc X.env.scope x:=by first | exact Or.inl rfl | exact Or.inr rfl)
  (hsw : swapsWith (.ListComp elt [⟨tg,iter,ifs,0⟩] scope pos) (some (.Name x pos')) spos.line X.env = pure true:=by rfl)
  (ck : zhr scope X.env.scope.names X.N Nc k js = true:=by rfl) (hs : ∀ x,foldedSetIterable iter X.env x = pure x:=by intro _; rfl) (hj : js.Nodup:=by decide)
  (hf : X.fn x = true \/ X.env.scope.names.lookup x = some .local:=by first | exact .inl rfl | exact .inr rfl) :
  DS c X (.Assign [.Name x pos'] (.ListComp elt [⟨tg,iter,ifs,0⟩] scope pos) spos) (zbf i (zan (zbl k js fi g ft fe))) :=
 zte (zu2 (g:=tDG (Gx c X) g) (tt:=tDT (Gx c X) ft) (te:=tD (Gx c X) fe) k js Nc hN hi' hx hc hi (fun cl C ex s₂ H₂=>(hg cl C ex s₂ H₂).pg) ht he hsw ck hs hf) fun σ H Q h=>zo3 hj (hg [] 0 [] X.s₀ X.H₀).keep (hg [] 0 [] X.s₀ X.H₀).len (z2i h)
theorem za1 {f : List Sl -> Option D} (he : DE c X e f) : DS c X (.Return (some e) pos) (zay f):=PS.imp (zni he) fun E σ H q_=>by
 obtain ⟨Hf0,H0,Hf,ρ,o,so,ef,k⟩:=q_
 unfold zay at ef
 cases e1 : f ρ with
 | none=>rw [e1] at ef; cases ef
 | some d =>
  rw [e1] at ef
  cases ef
  exact ⟨Hf0,H0,Hf,ρ,d,so,e1,fun v Hf' H' x r=>k v Hf' H' (so.ext.trans x) r⟩
theorem zl5 {f : List Sl -> Option (List D)} (he : DO c X e f) : DS c X (.Return (some e) pos) (zha f):=PS.imp (zni he) fun E σ H q_=>by
 obtain ⟨Hf0,H0,Hf,ρ,o,so,ef,k⟩:=q_
 unfold zha at ef
 cases e1 : f ρ with
 | none=>rw [e1] at ef; cases ef
 | some d =>
  rw [e1] at ef
  cases ef
  exact ⟨Hf0,H0,Hf,ρ,d,so,e1,fun l vs Hf' H' x hn hf hl r=>k l vs Hf' H' (so.ext.trans x) (so.ext.h.free hn) hf hl r⟩
theorem z1z {i : Nat} (he : PE X e (zd8 i)) : DS c X (.Return (some e) pos) (zd0 i):=PS.imp (zni he) fun E σ H q_=>by
 obtain ⟨Hf0,H0,Hf,ρ,o,so,ef,k⟩:=q_
 unfold zd0 at ef
 cases es : ρ[i]? with
 | none=>rw [es] at ef; cases ef
 | some s =>
  rw [es] at ef
  cases s with
  | im d =>
   cases ef
   obtain ⟨v,e1,r⟩:=so.imm es
   exact ⟨_,e1,k v Hf H so.ext r⟩
  | own xs =>
   cases ef
   obtain ⟨l,e1,h0,hf,vs,q,r⟩:=so.ownAt rfl es
   exact ⟨_,e1,k l vs Hf H so.ext h0 hf q r⟩
  | _=>cases ef
theorem zgn (i : Nat) {x : Str} {p : Pos} (hN : X.N[i]? = some x:=by rfl) (hv : Vis X.env.scope x:=by first | exact Or.inl rfl | exact Or.inr (Or.inl rfl) | exact Or.inr (Or.inr rfl)) (hd : (x == ("__debug__" : Str)) = false:=by decide)
  (hcd : (x == ("__classdict__" : Str)) = false:=by decide) : DS c X (.Return (some (.Name x p)) pos) (zd0 i):=z1z (zhj hN hv hd hcd)
theorem zc5 {fi : List Sl -> Option (List D)} {g : D -> List Sl -> Option (List Sl)} {kk : Nat} (hp : PassesOwn (model X.prog X.w) X.A X.env X.xe) (hc : X.calm = true) (hi : DI c X tg iter fi) (hg : DG c X tg kk g) (hb : DSs c X a F) (hs : ∀ x,foldedSetIterable iter X.env x = pure x:=by intro _; rfl) :
  DS c X (.For tg iter a [] pos) (zco fi g F):=PS.imp (z8e hp hc hi hg.pg hb hs) fun E σ H q_=>by
 obtain ⟨Hf0,H0,Hf,ρ,o,so,ef,k⟩:=q_
 unfold zco at ef
 cases e1 : fi ρ with
 | none=>rw [e1] at ef; cases ef
 | some ds =>
  rw [e1] at ef
  replace ef : zfa g F ds ρ = some o:=ef
  refine ⟨Hf0,H0,Hf,ρ,ds,so,e1,fun J Hf1 H1 x1 it=>?_⟩
  refine ⟨fun i m σ' H'=>m = ds.length - i /\ i <= ds.length /\ ∃ Hf' ρ',za0 (Gx c X) Hf0 H0 Hf' H' σ' ρ' /\ zau Hf1 Hf' /\ zfa g F (ds.drop i) ρ' = some o,⟨ds.length,rfl,Nat.zero_le _,Hf1,ρ,so.step x1,zau.refl _,ef⟩,?_⟩
  rintro i m σ' H' ⟨rfl,hi',Hf',ρ',so',s1,em⟩
  obtain ⟨it1,it2⟩:=it Hf' H' s1 so'.sub i
  by_cases hlt : i < ds.length
  ·obtain ⟨d,ed,edr⟩:=zs9 hlt
   obtain ⟨go,yl⟩:=it1 d ed
   rw [edr] at em
   unfold zfa at em
   refine .inr ⟨go,fun σ2 H2=>ds.length - (i + 1) = ds.length - (i + 1) /\ i + 1 <= ds.length /\ ∃ Hf' ρ',za0 (Gx c X) Hf0 H0 Hf' H2 σ2 ρ' /\ zau Hf1 Hf' /\ zfa g F (ds.drop (i + 1)) ρ' = some o,fun σ2 H2 w=>⟨ds.length - (i + 1),by omega,w⟩,fun x H2 y=>?_⟩
   obtain ⟨Hf2,x2,rx⟩:=yl x H2 y
   cases eg : g d ρ' with
   | none=>rw [eg] at em; cases em
   | some ρ1 =>
    rw [eg] at em
    replace em : (F ρ1).bind _ = _:=em
    cases eF : F ρ1 with
    | none=>rw [eF] at em; cases em
    | some o1 =>
     rw [eF] at em
     refine ⟨Hf0,H0,Hf2,ρ',d,ρ1,so'.step x2,rx,eg,fun σ3 so3=>⟨Hf0,H0,Hf2,ρ1,o1,so3,eF,?_⟩⟩
     have sf:=s1.trans x2.f
     cases o1 with
     | nx ρ2=>exact fun σ4 Hf4 H4 s4 so4=>⟨rfl,hlt,Hf4,ρ2,so4,sf.trans s4,em⟩
     | ct ρ2=>exact fun σ4 Hf4 H4 s4 so4=>⟨rfl,hlt,Hf4,ρ2,so4,sf.trans s4,em⟩
     | bk ρ2=>cases em; exact fun σ4 Hf4 H4 s4 so4=>k σ4 Hf4 H4 ((x1.f.trans sf).trans s4) so4
     | rt d=>cases em; exact k
     | rtO d=>cases em; exact k
     | rtS d ρ2=>cases em; exact k
     | rtT o'=>cases em; exact k
  ·have ei : i = ds.length:=by omega
   subst ei
   rw [List.drop_eq_nil_of_le (Nat.le_refl _)] at em
   cases em
   exact .inl ⟨it2 rfl,k σ' Hf' H' (x1.f.trans s1) so'⟩
theorem z6v {G : Gc} {i : Nat} {E : zhc} {σ : St} {H : Hp} (h : tDS G (zdq i F) E σ H) : tDS G F E σ H:=by
 obtain ⟨Hf0,H0,Hf,ρ,o,so,ef,k⟩:=h
 unfold zdq zjd at ef
 split at ef
 ·rename_i xs es
  obtain ⟨l,e1,h0,hf,vs,q,r⟩:=so.ownAt rfl es
  exact ⟨Hf0,H0,_,_,o,so.fixd (d:=.lst xs) rfl es e1 q ⟨l,vs,rfl,zbm,r.up (zcg hf)⟩,ef,k.up (zcg hf)⟩
 ·rename_i ks xs es
  obtain ⟨l,e1,h0,hf,vs,q,z,r⟩:=so.ownAt rfl es
  exact ⟨Hf0,H0,_,_,o,so.fixd (d:=.dic ks xs) rfl es e1 q ⟨l,vs,rfl,zbm,z,r.up (zcg hf)⟩,ef,k.up (zcg hf)⟩
 ·rename_i c' ns xs es
  obtain ⟨l,e1,h0,hf,dx,vs,q,z,r⟩:=so.ownAt rfl es
  exact ⟨Hf0,H0,_,_,o,so.fixd (d:=.ins c' ns xs) rfl es e1 q ⟨l,dx,vs,rfl,zbm,z,r.up (zcg hf)⟩,ef,k.up (zcg hf)⟩
 ·exact ⟨Hf0,H0,Hf,ρ,o,so,ef,k⟩
theorem zey (i : Nat) (h : DS c X st F) : DS c X st (zdq i F):=PS.imp h fun _ _ _=>z6v
theorem zf2 {i : Nat} {f : List Sl -> Option D} (h : PS X st (zqb (tBM X.K "list" zta (zd8 i) (zl9 (tD (Gx c X) f) zlc)))) : DS c X st (zd9 i f):=PS.imp h fun E σ H q_=>by
 obtain ⟨Hf0,H0,Hf,ρ,o,so,ef,k⟩:=q_
 unfold zd9 at ef
 cases e1 : f ρ with
 | none=>rw [e1] at ef; cases ef
 | some d =>
  rw [e1] at ef
  replace ef : (match ρ[i]? with | some (.own xs)=>if xs.length < 16777216 then some (Fl.nx (ρ.set i (.own (xs ++ [d])))) else none | _=>none) = some o:=ef
  split at ef
  ·rename_i xs es
   split at ef
   ·rename_i hl
    cases ef
    obtain ⟨l,e2,h0,hf,vs,q,r⟩:=so.ownAt rfl es
    refine ⟨_,e2,.inl ⟨rfl,_,SqL.of q⟩,Hf0,H0,Hf,ρ,d,so,e1,fun v Hf' H' x r'=>?_⟩
    have so':=so.step x
    have q':=x.h _ _ q
    refine ⟨l,vs,v,rfl,rfl,q',by rw [sizeLine_eq,<- r.length]; exact hl,k σ Hf' _ x.f (so'.mutd (s:=.own xs) (s':=.own (xs ++ [d])) rfl rfl es e2 ⟨vs ++ [v],zbm,(r.up x.f).append (.cons r' .nil)⟩)⟩
   ·cases ef
  ·cases ef
theorem z3p {i : Nat} {f : List Sl -> Option D} (h : PS X st (zqb (tBM X.K "list" zst (zd8 i) (zl9 (tD (Gx c X) f) zlc)))) : DS c X st (zij i (ziw f)):=PS.imp h fun E σ H q_=>by
 obtain ⟨Hf0,H0,Hf,ρ,o,so,ef,k⟩:=q_
 unfold zij ziw at ef
 cases e1 : f ρ with
 | none=>rw [e1] at ef; cases ef
 | some d =>
  rw [e1] at ef
  cases d with
  | lst ds =>
   replace ef : (match ρ[i]? with | some (.own xs)=>if xs.length + ds.length <= 16777216 then some (Fl.nx (ρ.set i (.own (xs ++ ds)))) else none | _=>none) = some o:=ef
   split at ef
   ·rename_i xs es
    split at ef
    ·rename_i hl
     cases ef
     obtain ⟨l,e2,h0,hf,vs,q,r⟩:=so.ownAt rfl es
     refine ⟨_,e2,.inl ⟨rfl,_,SqL.of q⟩,Hf0,H0,Hf,ρ,.lst ds,so,e1,fun v Hf' H' x r'=>?_⟩
     obtain ⟨a,us,ea,qa,ra⟩:=r'
     subst ea
     have so':=so.step x
     have q':=x.h _ _ q
     refine ⟨l,a,vs,us,rfl,rfl,q',x.s _ _ qa,by rw [sizeLine_eq,<- r.length,<- ra.length]; exact hl,k σ Hf' _ x.f (so'.mutd (s:=.own xs) (s':=.own (xs ++ ds)) rfl rfl es e2 ⟨vs ++ us,zbm,(r.up x.f).append ra⟩)⟩
    ·cases ef
   ·cases ef
  | _=>cases ef
end
noncomputable def zpq : Fl -> Option D
 | .rt d=>some d
 | .rtO ds=>some (.lst ds)
 | .rtS d _=>some d
 | .nx _=>some .non
 | _=>none
noncomputable def zei (n : Nat) (ds : List D) : List Sl:=ds.map .im ++ List.replicate (n - ds.length) .no
noncomputable def za8 (n : Nat) (F : List Sl -> Option Fl) (ds : List D) : Option D:=(F (zei n ds)).bind zpq
noncomputable def zkc (n : Nat) (F : List Sl -> Option Fl) (ds : List D) : Option (List D):=(F (zei n ds)).bind fun o=>match o with
 | .rtO ds=>some ds
 | _=>none
noncomputable def spD (G : Gc) (n : Nat) (m : List D -> Option D) : Sp:=fun vs H Q _=>∃ Hf ds d,zau Hf H /\ zai G Hf ds vs /\ ds.length = n /\ m ds = some d /\ ∀ v Hf' H',Ext Hf H Hf' H' -> Rep G Hf' d v -> Q v H'
noncomputable def spO (G : Gc) (n : Nat) (m : List D -> Option (List D)) : Sp:=fun vs H Q _=>∃ Hf ds rs,zau Hf H /\ zai G Hf ds vs /\ ds.length = n /\ m ds = some rs /\
 ∀ l us Hf' H',Ext Hf H Hf' H' -> H l = none -> Hf' l = none -> H' l = some (.lst us) -> zai G Hf' rs us -> Q (.ref l) H'
theorem za0.start {G : Gc} {Hf H : Hp} {N : List Str} {ds : List D} {vs : List V} (s0 : zau Hf H) (r : zai G Hf ds vs) : za0 G Hf H Hf H (start N vs) (zei N.length ds):=by
 have hl:=r.length
 have im : ∀ (i : Nat) (s : Sl),(zei N.length ds)[i]? = some s -> s = .no \/ ∃ d,ds[i]? = some d /\ s = .im d:=fun i s b=>by
  unfold zei at b
  by_cases hi : i < ds.length
  ·rw [List.getElem?_append_left (by simpa using hi)] at b
   obtain ⟨d,ed,es⟩:=zh1 b
   exact .inr ⟨d,ed,es⟩
  ·rw [List.getElem?_append_right (by simpa using Nat.le_of_not_lt hi)] at b
   obtain ⟨_,e⟩:=List.getElem?_eq_some_iff.mp b
   rw [List.getElem_replicate] at e
   exact .inl e.symm
 refine ⟨Ext.refl s0,by simp [L2.start,zei,hl],fun i v s a b=>?_,fun i j s t v w l a b c d p q=>?_⟩
 ·rcases im i s b with e | ⟨d,ed,es⟩
  ·subst e; trivial
  ·subst es
   obtain ⟨u,eu,ru⟩:=r.get ed
   refine ⟨u,?_,ru⟩
   have hi : i < vs.length:=(List.getElem?_eq_some_iff.mp eu).1
   unfold L2.start at a
   rw [List.getElem?_append_left (by simpa using hi),List.getElem?_map,eu] at a
   exact (Option.some.inj a).symm
 ·rcases im i s a with e | ⟨d,ed,es⟩
  ·subst e; exact (p.calm rfl).elim
  ·subst es; exact (p.calm rfl).elim
section
variable {P : Program} {w : World} {K : PySem.W.Frag} {mg : Str -> Option Value} {base : Heap} {c : Str -> Addr}
theorem zbi {x qual : Str} {st : Stmt} {f : Addr} {fd : FuncData} {N ps : List Str} {k : Nat} {F : List Sl -> Option Fl} (Fn : Fun K x qual st f fd) (S : za6 N ps (zaj st))
  (h : ∀ (cdv : Value) (A : Around) (outer : List Env) (s : Shared) (H : Hp) (E : XK),zb2 k (A.deeper (envOfC qual (zaj st) s.heap.objs.size f cdv)) -> DSs c (zf8 CX0 P w K mg base N qual (zaj st) f cdv A outer s H E).nox (za4 st) F) :
  zax P w K mg base CX0 (k + 1) f fd ps (spD ⟨K,c⟩ ps.length (za8 N.length F)):=by
 refine Fn.ok S (fun vs H Q E ⟨Hf,ds,d,s0,r,hl,_⟩=>by rw [<- r.length]; exact hl) fun cdv A outer s H vs Q E hr ⟨Hf,ds,d,s0,r,hl,e,kq⟩=>⟨_,h cdv A outer s H E hr,?_⟩
 unfold za8 at e
 cases eF : F (zei N.length ds) with
 | none=>rw [eF] at e; cases e
 | some o =>
  rw [eF] at e
  replace e : zpq o = some d:=e
  refine ⟨Hf,H,Hf,_,o,za0.start s0 r,eF,?_⟩
  cases o with
  | nx ρ=>cases e; exact fun σ' Hf' H' _ so=>kq _ Hf' H' so.ext rfl
  | bk ρ=>cases e
  | ct ρ=>cases e
  | rt d=>cases e; exact kq
  | rtO rs=>cases e; exact fun l vs Hf' H' x hn hf hl r=>kq _ (upd Hf' l (.lst vs)) H' (x.fix hn hf hl) ⟨l,vs,rfl,zbm,r.up (zcg hf)⟩
  | rtS d ρ=>cases e; exact fun v σ' Hf' H' so r=>kq v Hf' H' so.ext r
  | rtT o=>cases e
theorem zzs {x qual : Str} {st : Stmt} {f : Addr} {fd : FuncData} {N ps : List Str} {k : Nat} {F : List Sl -> Option Fl} (Fn : Fun K x qual st f fd) (S : za6 N ps (zaj st))
  (h : ∀ (cdv : Value) (A : Around) (outer : List Env) (s : Shared) (H : Hp) (E : XK),zb2 k (A.deeper (envOfC qual (zaj st) s.heap.objs.size f cdv)) -> DSs c (zf8 CX0 P w K mg base N qual (zaj st) f cdv A outer s H E).nox (za4 st) F) :
  zax P w K mg base CX0 (k + 1) f fd ps (spO ⟨K,c⟩ ps.length (zkc N.length F)):=by
 refine Fn.ok S (fun vs H Q E ⟨Hf,ds,d,s0,r,hl,_⟩=>by rw [<- r.length]; exact hl) fun cdv A outer s H vs Q E hr ⟨Hf,ds,rs,s0,r,hl,e,kq⟩=>⟨_,h cdv A outer s H E hr,?_⟩
 unfold zkc at e
 cases eF : F (zei N.length ds) with
 | none=>rw [eF] at e; cases e
 | some o =>
  rw [eF] at e
  refine ⟨Hf,H,Hf,_,o,za0.start s0 r,eF,?_⟩
  cases o with
  | rtO rs'=>cases e; exact kq
  | _=>cases e
end
section
variable {c : Str -> Addr} {X : Cx} {k : Nat} {f C : Addr} {fd : FuncData} {ps : List Str} {x : Str} {p pos apos : Pos} {e o : Expr} {es : List Expr} {fa : List Sl -> Option (List D)}
theorem za9 {m : List D -> Option D} (F : zax X.prog X.w X.K X.mg X.base CX0 k f fd ps (spD (Gx c X) ps.length m)) (hr : zb2 k X.A) (hg : Gl X x) (hm : X.mg x = some (.ref f)) (hk : PySem.W.keepIn X.K (.ref f) = true) (hb : za3 X.K fd ps []) (ha : DA c X (e :: es) fa)
  (hl : (e :: es).length = ps.length:=by rfl) (hdb : (x == ("__debug__" : Str)) = false:=by decide) (he : starEach (e :: es) X.env = (false,eval e X.env) :: starEach es X.env:=by rfl) (hpl : (backTo pos (starEach es X.env)).any (·.1) = false:=by rfl) :
  DE c X (.Call (.Name x p) (e :: es) [] pos) (zao m fa):=PE.imp (zlg F hr hg hm hk hb .nil zjc ha.pa hdb he hpl) fun σ H Q q_=>by
 obtain ⟨Hf0,H0,Hf,ρ,d,st,ef,kq⟩:=q_
 obtain ⟨ds,e1,e2⟩:=zoz ef
 refine ⟨Hf0,H0,Hf,ρ,ds,st,e1,fun vs Hf' H' x r=>?_⟩
 dsimp only
 rw [List.append_nil]
 exact ⟨Hf',ds,d,x.s,r,(ha.len ρ ds e1).trans hl,e2,fun v Hf2 H2 x2 r2=>kq v Hf2 H2 (x.trans x2) r2⟩
noncomputable def zk1 (m : List D -> Option (List D)) (f : List Sl -> Option (List D)) (ρ : List Sl) : Option (List D):=(f ρ).bind m
theorem zzm {m : List D -> Option (List D)} (F : zax X.prog X.w X.K X.mg X.base CX0 k f fd ps (spO (Gx c X) ps.length m)) (hr : zb2 k X.A) (hg : Gl X x) (hm : X.mg x = some (.ref f)) (hk : PySem.W.keepIn X.K (.ref f) = true) (hb : za3 X.K fd ps []) (ha : DA c X (e :: es) fa)
  (hl : (e :: es).length = ps.length:=by rfl) (hdb : (x == ("__debug__" : Str)) = false:=by decide) (he : starEach (e :: es) X.env = (false,eval e X.env) :: starEach es X.env:=by rfl) (hpl : (backTo pos (starEach es X.env)).any (·.1) = false:=by rfl) :
  DO c X (.Call (.Name x p) (e :: es) [] pos) (zk1 m fa):=PE.imp (zlg F hr hg hm hk hb .nil zjc ha.pa hdb he hpl) fun σ H Q q_=>by
 obtain ⟨Hf0,H0,Hf,ρ,rs,st,ef,kq⟩:=q_
 unfold zk1 at ef
 cases e1 : fa ρ with
 | none=>rw [e1] at ef; cases ef
 | some ds =>
  rw [e1] at ef
  refine ⟨Hf0,H0,Hf,ρ,ds,st,e1,fun vs Hf' H' x r=>?_⟩
  dsimp only
  rw [List.append_nil]
  exact ⟨Hf',ds,rs,x.s,r,(ha.len ρ ds e1).trans hl,ef,fun l us Hf2 H2 x2 hn hf hl' r2=>kq l us Hf2 H2 (x.trans x2) (x.h.free hn) hf hl' r2⟩
noncomputable def zih (m : List D -> Option D) (f : List Sl -> Option (List D)) (ρ : List Sl) : Option D:=(f ρ).bind fun ds=>(m ds).bind fun d=>if d.scalar then some d else none
theorem zrq {m : List D -> Option D} (F : zax X.prog X.w X.K X.mg X.base CX0 k f fd ps (spD (Gx c X) ps.length m)) (hr : zb2 k X.A) (hg : Gl X x) (hm : X.mg x = some (.ref f)) (hk : PySem.W.keepIn X.K (.ref f) = true) (hb : za3 X.K fd ps []) (ha : DAB c X (e :: es) fa)
  (hl : (e :: es).length = ps.length:=by rfl) (hdb : (x == ("__debug__" : Str)) = false:=by decide) (he : starEach (e :: es) X.env = (false,eval e X.env) :: starEach es X.env:=by rfl) (hpl : (backTo pos (starEach es X.env)).any (·.1) = false:=by rfl) :
  DE c X (.Call (.Name x p) (e :: es) [] pos) (zih m fa):=PE.imp (zlg F hr hg hm hk hb .nil zjc ha.pa hdb he hpl) fun σ H Q q_=>by
 obtain ⟨Hf0,H0,Hf,ρ,d,st,ef,kq⟩:=q_
 unfold zih at ef
 cases e1 : fa ρ with
 | none=>rw [e1] at ef; cases ef
 | some ds =>
  rw [e1] at ef
  replace ef : (m ds).bind _ = _:=ef
  cases e2 : m ds with
  | none=>rw [e2] at ef; cases ef
  | some d' =>
   rw [e2] at ef
   replace ef : (if d'.scalar = true then some d' else none) = some d:=ef
   split at ef
   ·rename_i hs
    cases ef
    refine ⟨Hf0,H0,Hf,ρ,ds,st,e1,fun vs Hf' H' x r=>?_⟩
    dsimp only
    rw [List.append_nil]
    exact ⟨H',ds,_,zau.refl _,r,(ha.len ρ ds e1).trans hl,e2,fun v Hf2 H2 x2 r2=>kq v Hf' H2 (x.trans (Ext.grow x.s x2.h)) (r2.sc hs)⟩
   ·cases ef
end
theorem zsc {G : Gc} {H : Hp} {f : Str} {d : D} : ∀ {ns : List Str} {ds : List D} {vs : List V},(ns.zip ds).lookup f = some d -> zai G H ds vs -> ∃ v,(ns.zip vs).lookup f = some v /\ Rep G H d v
 | [],_,_,e,_=>by simp at e
 | n :: ns,[],_,e,_=>by simp at e
 | n :: ns,x :: ds,_,e,⟨v,r,ev,h1,h2⟩=>by
  subst ev
  rw [List.zip_cons_cons,List.lookup_cons] at e
  rw [List.zip_cons_cons,List.lookup_cons]
  cases hf : f == n with
  | true=>rw [hf] at e; cases e; exact ⟨v,rfl,h1⟩
  | false=>rw [hf] at e; exact zsc e h2
theorem zuq {f : Str} : ∀ {ns : List Str} {vs : List V},ns.contains f = false -> (ns.zip vs).lookup f = none
 | [],_,_=>by simp
 | n :: ns,[],_=>by simp
 | n :: ns,v :: vs,h=>by
  rw [List.contains_cons,Bool.or_eq_false_iff] at h
  rw [List.zip_cons_cons,List.lookup_cons,h.1]
  exact zuq h.2
noncomputable def zrc (cn f : Str) : D -> Option D
 | .ins c' ns ds=>if c' = cn then (ns.zip ds).lookup f else none
 | _=>none
noncomputable def zd1 (cn f : Str) (m : List Sl -> Option D) (ρ : List Sl) : Option D:=(m ρ).bind (zrc cn f)
noncomputable def zc0 (cn f : Str) (m : List D -> Option D) (fo : List Sl -> Option D) (fa : List Sl -> Option (List D)) (ρ : List Sl) : Option D:=(fo ρ).bind fun d=>match d with
 | .ins c' ns ds=>if c' = cn /\ ns.contains f = false then (fa ρ).bind fun as=>m (.ins c' ns ds :: as) else none
 | _=>none
section
variable {c : Str -> Addr} {X : Cx} {k : Nat} {f C : Addr} {fd : FuncData} {ps : List Str} {x fl cn : Str} {p pos apos : Pos} {e o : Expr} {es : List Expr} {fo : List Sl -> Option D} {fa : List Sl -> Option (List D)}
theorem ze0 (cn : Str) (hc : Cls X.K (c cn)) (hn : zc6 X.K (c cn) fl) (ho : DE c X o fo) (hb : attributeBase o fl X.env (eval o X.env) = eval o X.env:=by rfl) : DE c X (.Attribute o fl pos) (zd1 cn fl fo) :=
 PE.imp (z01 ho hb) fun σ H Q q_=>by
  obtain ⟨Hf0,H0,Hf,ρ,d,st,ef,k⟩:=q_
  unfold zd1 at ef
  cases e1 : fo ρ with
  | none=>rw [e1] at ef; cases ef
  | some y =>
   rw [e1] at ef
   replace ef : zrc cn fl y = some d:=ef
   cases y with
   | ins c' ns ds =>
    replace ef : (if c' = cn then (ns.zip ds).lookup fl else none) = some d:=ef
    split at ef
    ·rename_i hcc
     subst hcc
     refine ⟨Hf0,H0,Hf,ρ,_,st,e1,fun v Hf' H' x r=>?_⟩
     obtain ⟨a,dx,vs,ev,q,hl,rs⟩:=r
     obtain ⟨u,eu,ru⟩:=zsc ef rs
     exact ⟨a,c c',dx,ns.zip vs,u,ev,x.s _ _ q,hc,hn,eu,k u Hf' H' x ru⟩
    ·cases ef
   | _=>cases ef
theorem zgu {m : List D -> Option D} {pl : Sem Bool} (cn : Str) (ho : DE c X o fo) (hc : Cls X.K (c cn)) (hm : zdb X.K (c cn) fl f) (F : zax X.prog X.w X.K X.mg X.base CX0 k f fd ps (spD (Gx c X) ps.length m)) (hr : zb2 k X.A) (hb : za3 X.K fd ps []) (ha : DA c X (e :: es) fa)
  (hl : (e :: es).length + 1 = ps.length:=by rfl)
  (hst : starEach (e :: es) X.env = (false,eval e X.env) :: starEach es X.env:=by rfl) (hpl : (backTo pos (starEach es X.env)).any (·.1) = false:=by rfl)
  (ht : eval (.Call (.Attribute o fl apos) (e :: es) [] pos) X.env = (do
   let ov <- eval o X.env
   standAt apos.atName
   let (f,first) <- holding [ov] (getMethod ov fl pl)
   callWith pos f first (backTo pos (starEach (e :: es) X.env)) (backToKw pos (keywordEach [] X.env))):=by rfl) :
  DE c X (.Call (.Attribute o fl apos) (e :: es) [] pos) (zc0 cn fl m fo fa):=PE.imp (z0t ho hc hm F hr hb .nil zjc ha.pa hst hpl ht) fun σ H Q q_=>by
 obtain ⟨Hf0,H0,Hf,ρ,d,st,ef,kq⟩:=q_
 unfold zc0 at ef
 cases e1 : fo ρ with
 | none=>rw [e1] at ef; cases ef
 | some y =>
  rw [e1] at ef
  cases y with
  | ins c' ns ds =>
   replace ef : (if c' = cn /\ ns.contains fl = false then (fa ρ).bind fun as=>m (.ins c' ns ds :: as) else none) = some d:=ef
   split at ef
   ·rename_i hcc
    obtain ⟨rfl,hno⟩:=hcc
    cases e2 : fa ρ with
    | none=>rw [e2] at ef; cases ef
    | some as =>
     rw [e2] at ef
     replace ef : m (.ins c' ns ds :: as) = some d:=ef
     refine ⟨Hf0,H0,Hf,ρ,_,st,e1,fun v Hf' H' x r=>?_⟩
     obtain ⟨a,dx,vs,ev,q,hlen,rs⟩:=id r
     refine ⟨a,dx,ns.zip vs,ev,x.s _ _ q,zuq hno,Hf0,H0,Hf',ρ,as,st.step x,e2,fun ws Hf2 H2 x2 r2=>?_⟩
     dsimp only
     rw [List.append_nil]
     exact ⟨Hf2,.ins c' ns ds :: as,d,x2.s,.cons (r.up x2.f) r2,by rw [List.length_cons,ha.len ρ as e2]; exact hl,ef,fun u Hf3 H3 x3 r3=>kq u Hf3 H3 ((x.trans x2).trans x3) r3⟩
   ·cases ef
  | _=>cases ef
end
noncomputable def zky : List (Str × (List Sl -> Option D)) -> List Sl -> List Str -> List D -> Option (List Str × List D)
 | [],_,ns,ds=>some (ns,ds)
 | (f,m) :: r,ρ,ns,ds=>(m ρ).bind fun d=>if ns.contains f then none else zky r ρ (ns ++ [f]) (ds ++ [d])
noncomputable def z5u (G : Gc) (cn : Str) (fs : List (Str × (List Sl -> Option D))) : TS:=fun E σ H=>∃ x dx Hf0 H0 Hf ρ ns us ds r,σ[0]? = some (some (.ref x)) /\ (∀ s ∈ ρ,Sl.calm s = true) /\ za0 G Hf0 H0 Hf H σ ρ /\ H0 x = none /\ Hf x = none /\
 H x = some (.ins (G.cl cn) dx (ns.zip us)) /\ ns.length = us.length /\ ns.length + fs.length <= 900 /\ zai G Hf ds us /\ zky fs ρ ns ds = some r /\
 ∀ us' Hf' H',Ext Hf0 H0 Hf' H' -> Hf' x = none -> H' x = some (.ins (G.cl cn) dx (r.1.zip us')) -> r.1.length = us'.length -> zai G Hf' r.2 us' -> E.nx σ H'
noncomputable def DSI (c : Str -> Addr) (X : Cx) (cn : Str) (sts : List Stmt) (fs : List (Str × (List Sl -> Option D))) : Prop:=PSs X sts (z5u (Gx c X) cn fs)
theorem zkf {f : Str} {v : V} : ∀ {ns : List Str} {us : List V},ns.length = us.length -> ns.contains f = false -> zde f v (ns.zip us) = (ns ++ [f]).zip (us ++ [v])
 | [],[],_,_=>rfl
 | n :: ns,u :: us,hl,h=>by
  rw [List.contains_cons,Bool.or_eq_false_iff] at h
  have h1 : ¬ (n = f):=fun z=>by rw [z,beq_self_eq_true] at h; cases h.1
  rw [List.zip_cons_cons]
  unfold zde
  first
   | (rw [if_neg h1,zkf (by simpa using hl) h.2]; rfl)
   | (rw [if_neg (fun z=>h1 (Eq.symm z)),zkf (by simpa using hl) h.2]; rfl)
   | (rw [if_neg (by simpa using h1),zkf (by simpa using hl) h.2]; rfl)
   | (rw [if_neg (by simpa using fun z=>h1 (Eq.symm z)),zkf (by simpa using hl) h.2]; rfl)
 | [],_ :: _,hl,_=>by cases hl
 | _ :: _,[],hl,_=>by cases hl
section
variable {c : Str -> Addr} {X : Cx} {cn fl : Str} {e o : Expr} {sts : List Stmt} {pos pos' : Pos} {m : List Sl -> Option D} {fs : List (Str × (List Sl -> Option D))}
theorem zm3 : DSI c X cn [] []:=PSs.imp zqu fun E σ H q=>by
 obtain ⟨x,dx,Hf0,H0,Hf,ρ,ns,us,ds,r,e0,no,so,h0,hf,hx,hl,hz,rd,em,k⟩:=q
 cases em
 exact k us Hf H so.ext hf hx hl rd
theorem zjl (hc : Cls X.K (c cn)) (hn : zc6 X.K (c cn) fl) (ho : PE X o (zd8 0)) (he : DE c X e m) (h : DSI c X cn sts fs) (hs : swapsWith e (some (.Attribute o fl pos')) pos.line X.env = pure false:=by rfl) :
  DSI c X cn (.Assign [.Attribute o fl pos'] e pos :: sts) ((fl,m) :: fs):=PSs.imp (zu7 (zwz ho he hs) h) fun E σ H q=>by
 obtain ⟨x,dx,Hf0,H0,Hf,ρ,ns,us,ds,r,e0,no,so,h0,hf,hx,hl,hz,rd,em,k⟩:=q
 unfold zky at em
 cases e1 : m ρ with
 | none=>rw [e1] at em; cases em
 | some d =>
  rw [e1] at em
  replace em : (if ns.contains fl = true then none else zky fs ρ (ns ++ [fl]) (ds ++ [d])) = some r:=em
  split at em
  ·cases em
  ·rename_i hnc
   have hnc : ns.contains fl = false:=by simpa using hnc
   refine ⟨Hf0,H0,Hf,ρ,d,so,e1,fun v Hf' H' xx rv=>⟨_,e0,x,c cn,dx,ns.zip us,rfl,xx.h _ _ hx,hc,hn,?_,?_⟩⟩
   ·have h1:=List.length_zip (l₁:=ns) (l₂:=us)
    rw [List.length_cons] at hz
    omega
   ·have hf' : Hf' x = none:=by rw [xx.n _ _ hx rfl]; exact hf
    have so':=so.step xx
    have so2 : za0 (Gx c X) Hf0 H0 Hf' (upd H' x (.ins (c cn) dx (zde fl v (ns.zip us)))) σ ρ:=by
     refine so'.re ⟨so'.ext.f,fun b u e=>?_,fun b u e=>?_,so'.ext.n⟩ rfl (fun i w s a b=>?_) fun i s w a b _ p=>(p.calm (no s (List.mem_of_getElem? b))).elim
     ·rw [za2 (zc8 e h0)]; exact so'.ext.h b u e
     ·rw [za2 (zc8 e hf')]; exact so'.ext.s b u e
     ·have hs:=no s (List.mem_of_getElem? b)
      have q:=so'.at' i w s a b
      cases s with
      | no=>trivial
      | im d=>exact q
      | _=>cases hs
    refine ⟨x,dx,Hf0,H0,Hf',ρ,ns ++ [fl],us ++ [v],ds ++ [d],r,e0,no,so2,h0,hf',?_,by rw [List.length_append,List.length_append,hl]; rfl,by rw [List.length_cons] at hz; rw [List.length_append,List.length_singleton]; omega,(rd.up xx.f).append (.cons rv .nil),em,k⟩
    rw [zbm,zkf hl hnc]
end
noncomputable def del (H : Hp) (x : Addr) : Hp:=fun b=>if b = x then none else H b
theorem zsv {H : Hp} {x : Addr} : del H x x = none:=if_pos rfl
theorem zti {H : Hp} {x b : Addr} (h : b ≠ x) : del H x b = H b:=if_neg h
noncomputable def zk4 (n : Nat) (fs : List (Str × (List Sl -> Option D))) (as : List D) : Option (List Str × List D):=zky fs (.no :: (as.map .im ++ List.replicate (n - 1 - as.length) .no)) [] []
noncomputable def spI (G : Gc) (cn : Str) (n : Nat) (m : List D -> Option (List Str × List D)) : Sp:=fun vs H Q _=>∃ x dx Hf as vs' r,vs = .ref x :: vs' /\ H x = some (.ins (G.cl cn) dx []) /\ Hf x = none /\ zau Hf H /\ zai G Hf as vs' /\ as.length + 1 = n /\ m as = some r /\
 ∀ us Hf' H',Ext Hf (del H x) Hf' H' -> Hf' x = none -> H' x = some (.ins (G.cl cn) dx (r.1.zip us)) -> r.1.length = us.length -> zai G Hf' r.2 us -> Q .non H'
section
variable {P : Program} {w : World} {K : PySem.W.Frag} {mg : Str -> Option Value} {base : Heap} {c : Str -> Addr}
theorem zm9 {x qual cn : Str} {st : Stmt} {f : Addr} {fd : FuncData} {N ps : List Str} {k : Nat} {fs : List (Str × (List Sl -> Option D))} (Fn : Fun K x qual st f fd) (S : za6 N ps (zaj st))
  (h : ∀ (cdv : Value) (A : Around) (outer : List Env) (s : Shared) (H : Hp) (E : XK),zb2 k (A.deeper (envOfC qual (zaj st) s.heap.objs.size f cdv)) -> DSI c (zf8 CX0 P w K mg base N qual (zaj st) f cdv A outer s H E).nox cn (za4 st) fs)
  (hz : fs.length <= 900:=by decide) : zax P w K mg base CX0 (k + 1) f fd ps (spI ⟨K,c⟩ cn ps.length (zk4 N.length fs)):=by
 refine Fn.ok S (fun vs H Q E q=>by obtain ⟨x,dx,Hf,as,vs',r,ev,_,_,_,ra,hl,_⟩:=q; subst ev; rw [List.length_cons,<- ra.length]; exact hl) fun cdv A outer s H vs Q E hr q=>⟨_,h cdv A outer s H E hr,?_⟩
 obtain ⟨x,dx,Hf,as,vs',r,ev,hx,hf,s0,ra,hl,e,kq⟩:=q
 subst ev
 have la:=ra.length
 have im : ∀ (i : Nat) (s : Sl),(Sl.no :: (as.map Sl.im ++ List.replicate (N.length - 1 - as.length) .no))[i]? = some s -> s = .no \/ ∃ d j,i = j + 1 /\ as[j]? = some d /\ s = .im d:=fun i s b=>by
  cases i with
  | zero=>left; simpa using b.symm
  | succ i =>
   rw [List.getElem?_cons_succ] at b
   by_cases hi : i < as.length
   ·rw [List.getElem?_append_left (by simpa using hi)] at b
    obtain ⟨d,ed,es⟩:=zh1 b
    exact .inr ⟨d,i,rfl,ed,es⟩
   ·rw [List.getElem?_append_right (by simpa using Nat.le_of_not_lt hi)] at b
    obtain ⟨_,e⟩:=List.getElem?_eq_some_iff.mp b
    rw [List.getElem_replicate] at e
    exact .inl e.symm
 have no : ∀ s ∈ (Sl.no :: (as.map Sl.im ++ List.replicate (N.length - 1 - as.length) .no)),Sl.calm s = true:=fun s hs=>by
  obtain ⟨i,hi⟩:=List.getElem?_of_mem hs
  rcases im i s hi with e | ⟨d,_,_,_,e⟩ <;> (subst e; rfl)
 refine ⟨x,dx,Hf,del H x,Hf,_,[],[],[],r,rfl,no,⟨⟨zau.refl _,fun b o e=>?_,s0,fun _ _ _ _=>rfl⟩,?_,fun i v s a b=>?_,fun i j s t v w l a b _ _ p _=>?_⟩,zsv,hf,hx,rfl,by simpa using hz,rfl,e,fun us Hf' H' xx h1 h2 h3 h4=>kq us Hf' H' xx h1 h2 h3 h4⟩
 ·by_cases hb : b = x
  ·subst hb; rw [zsv] at e; cases e
  ·rw [zti hb] at e; exact e
 ·unfold L2.start
  simp only [List.length_append,List.length_map,List.length_cons,List.length_replicate]
  omega
 ·rcases im i s b with e | ⟨d,j,ei,ed,es⟩
  ·subst e; trivial
  ·subst es ei
   obtain ⟨u,eu,ru⟩:=ra.get ed
   refine ⟨u,?_,ru⟩
   have hi : j < vs'.length:=(List.getElem?_eq_some_iff.mp eu).1
   unfold L2.start at a
   rw [List.map_cons,List.cons_append,List.getElem?_cons_succ,List.getElem?_append_left (by simpa using hi),List.getElem?_map,eu] at a
   exact (Option.some.inj a).symm
 ·exact (p.calm (no s (List.mem_of_getElem? a))).elim
end
section
variable {c : Str -> Addr} {X : Cx} {k : Nat} {f : Addr} {fd : FuncData} {ps : List Str} {x cn : Str} {p pos : Pos} {e : Expr} {es : List Expr} {fa : List Sl -> Option (List D)}
noncomputable def zi0 (cn : Str) (m : List D -> Option (List Str × List D)) (fa : List Sl -> Option (List D)) (ρ : List Sl) : Option D:=(fa ρ).bind fun as=>(m as).map fun r=>.ins cn r.1 r.2
theorem zmb {m : List D -> Option (List Str × List D)} (cn : Str) (M : Mk X.K (c cn) f) (F : zax X.prog X.w X.K X.mg X.base CX0 k f fd ps (spI (Gx c X) cn ps.length m)) (hr : zb2 (k + 1) X.A) (hg : Gl X x) (hm : X.mg x = some (.ref (c cn))) (hb : za3 X.K fd ps []) (ha : DA c X (e :: es) fa)
  (hl : (e :: es).length + 1 = ps.length:=by rfl) (hdb : (x == ("__debug__" : Str)) = false:=by decide) (he : starEach (e :: es) X.env = (false,eval e X.env) :: starEach es X.env:=by rfl) (hpl : (backTo pos (starEach es X.env)).any (·.1) = false:=by rfl) :
  DE c X (.Call (.Name x p) (e :: es) [] pos) (zi0 cn m fa):=PE.imp (z3k M F hr hg hm hb .nil zjc ha.pa hdb he hpl) fun σ H Q q_=>by
 obtain ⟨Hf0,H0,Hf,ρ,d,st,ef,kq⟩:=q_
 unfold zi0 at ef
 cases e1 : fa ρ with
 | none=>rw [e1] at ef; cases ef
 | some as =>
  rw [e1] at ef
  replace ef : (m as).map _ = _:=ef
  cases e2 : m as with
  | none=>rw [e2] at ef; cases ef
  | some r =>
   rw [e2] at ef
   cases ef
   refine ⟨Hf0,H0,Hf,ρ,as,st,e1,fun vs Hf' H' xx rv y dx ny ndx nex=>?_⟩
   try dsimp only
   rw [List.append_nil]
   have hy : (upd H' dx (.own y)) y = none:=by rw [za2 nex.symm]; exact ny
   have s1 : zau H' (upd H' dx (.own y)):=zcg ndx
   have s2:=s1.trans (zcg (o:=.ins (c cn) dx []) hy)
   have s3 : zau H' (del (upd (upd H' dx (.own y)) y (.ins (c cn) dx [])) y):=fun b u q=>by
    have:=zc8 q ny
    rw [zti this]
    exact s2 b u q
   refine ⟨y,dx,Hf',as,vs,r,rfl,zbm,xx.s.free ny,xx.s.trans s2,rv,by rw [ha.len ρ as e1]; exact hl,e2,fun us Hf2 H2 x2 hf2 hy2 hlen r2=>⟨rfl,?_⟩⟩
   have x3 : Ext Hf' H' Hf2 H2:=⟨x2.f,s3.trans x2.h,x2.s,fun l u q t=>x2.n l u (s3 l u q) t⟩
   exact kq _ _ H2 ((xx.trans x3).fix (xx.h.free ny) hf2 hy2) ⟨y,dx,us,rfl,zbm,hlen,r2.up (zcg hf2)⟩
end
theorem zcy {F F' : List Sl -> Option Fl} {ρ ρ' : List Sl} {r : Option Fl} (h : F ρ = some (.nx ρ')) (h' : F' ρ' = r) : zak F F' ρ = r:=by
 unfold zak
 rw [h]
 exact h'
theorem zfs {F F' : List Sl -> Option Fl} {ρ : List Sl} {d : D} (h : F ρ = some (.rt d)) : zak F F' ρ = some (.rt d):=by
 unfold zak
 rw [h]
 rfl
theorem zfh {t : List Sl -> Option Bool} {F F' : List Sl -> Option Fl} {ρ : List Sl} {r : Option Fl} (h : t ρ = some true) (h' : F ρ = r) : zbd t F F' ρ = r:=by
 unfold zbd
 rw [h]
 exact h'
theorem zc9 {t : List Sl -> Option Bool} {F F' : List Sl -> Option Fl} {ρ : List Sl} {r : Option Fl} (h : t ρ = some false) (h' : F' ρ = r) : zbd t F F' ρ = r:=by
 unfold zbd
 rw [h]
 exact h'
theorem zx3 {i : Nat} {f : List Sl -> Option D} {ρ : List Sl} {d : D} (h : f ρ = some d) : zbf i f ρ = some (.nx (ρ.set i (.im d))):=by
 unfold zbf
 rw [h]
 rfl
theorem zxk {i : Nat} {f : List Sl -> Option (List D)} {ρ : List Sl} {d : List D} (h : f ρ = some d) : zcv i f ρ = some (.nx (ρ.set i (.own d))):=by
 unfold zcv
 rw [h]
 rfl
theorem zcj {f : List Sl -> Option D} {ρ : List Sl} {d : D} (h : f ρ = some d) : zay f ρ = some (.rt d):=by
 unfold zay
 rw [h]
 rfl
theorem zb8 {n : Nat} {F : List Sl -> Option Fl} {ds : List D} {d : D} (h : F (zei n ds) = some (.rt d)) : za8 n F ds = some d:=by
 unfold za8
 rw [h]
 rfl
theorem zns {n : Nat} {F : List Sl -> Option Fl} {ds : List D} {d : List D} (h : F (zei n ds) = some (.rtO d)) : za8 n F ds = some (.lst d):=by
 unfold za8
 rw [h]
 rfl
theorem zav {m : List D -> Option D} {f : List Sl -> Option (List D)} {ρ : List Sl} {ds : List D} {d : D} (h : f ρ = some ds) (h' : m ds = some d) : zao m f ρ = some d:=by
 unfold zao
 rw [h]
 exact h'
theorem zov {α : Type} {h : D -> Option (Option D)} (f : α -> D) (p : α -> Bool) (q : α -> D) : ∀ (xs : List α),(∀ x ∈ xs,h (f x) = some (if p x then some (q x) else none)) -> zen h (xs.map f) = some ((xs.filter p).map q)
 | [],_=>rfl
 | x :: xs,hh=>by
  rw [List.map_cons]
  unfold zen
  rw [hh x List.mem_cons_self,zov f p q xs fun y hy=>hh y (List.mem_cons_of_mem _ hy)]
  cases hp : p x with
  | true=>rw [List.filter_cons_of_pos hp]; rfl
  | false=>rw [List.filter_cons_of_neg (by rw [hp]; exact Bool.false_ne_true)]; rfl
theorem zzb {α : Type} {h : D -> Option (Option D)} (f : α -> D) (q : α -> D) (xs : List α) (hh : ∀ x ∈ xs,h (f x) = some (some (q x))) : zen h (xs.map f) = some (xs.map q):=by
 have:=zov (h:=h) f (fun _=>true) q xs fun x hx=>(hh x hx).trans rfl
 rw [this,List.filter_eq_self.mpr fun _ _=>rfl]
theorem zgx {α : Type} {k : Nat} {js : List Nat} {fi : List Sl -> Option (List D)} {g : D -> List Sl -> Option (List Sl)} {ft : List Sl -> Option Bool} {fe : List Sl -> Option D} {ρ : List Sl} (xs : List α) (f : α -> D) (p : α -> Bool) (q : α -> D)
  (hi : fi ρ = some (xs.map f)) (hz : xs.length <= 16777216) (hh : ∀ x ∈ xs,ze1 g ft fe (zdc k js ρ) (f x) = some (if p x then some (q x) else none)) : zbl k js fi g ft fe ρ = some ((xs.filter p).map q):=by
 unfold zbl
 rw [hi]
 show (if (xs.map f).length <= 16777216 then _ else none) = _
 rw [List.length_map,if_pos hz]
 exact zov f p q xs hh
theorem zdn {α : Type} {k : Nat} {js : List Nat} {fi : List Sl -> Option (List D)} {g : D -> List Sl -> Option (List Sl)} {ft : List Sl -> Option Bool} {fe : List Sl -> Option D} {ρ : List Sl} (xs : List α) (f : α -> D) (q : α -> D)
  (hi : fi ρ = some (xs.map f)) (hz : xs.length <= 16777216) (hh : ∀ x ∈ xs,ze1 g ft fe (zdc k js ρ) (f x) = some (some (q x))) : zbl k js fi g ft fe ρ = some (xs.map q):=by
 unfold zbl
 rw [hi]
 show (if (xs.map f).length <= 16777216 then _ else none) = _
 rw [List.length_map,if_pos hz]
 exact zzb f q xs hh
theorem zut {α : Type} {g : D -> List Sl -> Option (List Sl)} {F : List Sl -> Option Fl} (f : α -> D) (I : List α -> List Sl -> Prop) : ∀ (post pre : List α) (ρ : List Sl),I pre ρ ->
  (∀ pre' x post' ρ,pre ++ post = pre' ++ x :: post' -> I pre' ρ -> ∃ ρ1 ρ2,g (f x) ρ = some ρ1 /\ (F ρ1 = some (.nx ρ2) \/ F ρ1 = some (.ct ρ2)) /\ I (pre' ++ [x]) ρ2) -> ∃ ρ',zfa g F (post.map f) ρ = some (.nx ρ') /\ I (pre ++ post) ρ'
 | [],pre,ρ,h,_=>⟨ρ,rfl,by rw [List.append_nil]; exact h⟩
 | x :: post,pre,ρ,h,hs=>by
  obtain ⟨ρ1,ρ2,e1,e2,h2⟩:=hs pre x post ρ rfl h
  obtain ⟨ρ',e3,h3⟩:=zut f I post (pre ++ [x]) ρ2 h2 (by rw [List.append_assoc]; exact hs)
  refine ⟨ρ',?_,by rw [List.append_assoc] at h3; exact h3⟩
  rw [List.map_cons]
  unfold zfa
  rw [e1]
  show (F ρ1).bind _ = _
  rcases e2 with e2 | e2
  ·rw [e2]; exact e3
  ·rw [e2]; exact e3
theorem z6m {α : Type} {fi : List Sl -> Option (List D)} {g : D -> List Sl -> Option (List Sl)} {F : List Sl -> Option Fl} {ρ : List Sl} (xs : List α) (f : α -> D) (I : List α -> List Sl -> Prop) (hi : fi ρ = some (xs.map f)) (h0 : I [] ρ)
  (hs : ∀ pre x post ρ,xs = pre ++ x :: post -> I pre ρ -> ∃ ρ1 ρ2,g (f x) ρ = some ρ1 /\ (F ρ1 = some (.nx ρ2) \/ F ρ1 = some (.ct ρ2)) /\ I (pre ++ [x]) ρ2) : ∃ ρ',zco fi g F ρ = some (.nx ρ') /\ I xs ρ':=by
 unfold zco
 rw [hi]
 exact zut f I xs [] ρ h0 hs
theorem z4y (lo : Int) (n : Nat) : rng lo n = (List.range n).map fun (i : Nat)=>D.int (lo + i):=rfl
theorem zuf {ns : List Int} : zdu [.lst (ns.map D.int)] = some (.int ns.sum):=by
 unfold zdu lsD
 show (zem (ns.map D.int)).map _ = _
 rw [z3w]
 rfl
theorem zce {α : Type} {f : α -> D} {xs : List α} {i : Int} (h0 : 0 <= i) (h1 : i < xs.length) : ∃ x,xs[i.toNat]? = some x /\ atI (xs.map f) i = some (f x):=by
 have hl : i.toNat < xs.length:=by omega
 refine ⟨xs[i.toNat],by simp [hl],?_⟩
 have:=z6r (xs:=xs.map f) (j:=i.toNat) (v:=f xs[i.toNat]) (by simp [hl])
 rw [show ((i.toNat : Nat) : Int) = i by omega] at this
 exact this
theorem zqz {α : Type} {f : α -> D} {xs : List α} {i : Int} (d : α) (h0 : 0 <= i) (h1 : i < xs.length) : atI (xs.map f) i = some (f (xs.getD i.toNat d)):=by
 obtain ⟨x,e1,e2⟩:=zce (f:=f) h0 h1
 rw [e2,List.getD_eq_getElem?_getD,e1]
 rfl
noncomputable def zcp : Nat -> D -> Prop
 | 0,_=>False
 | n + 1,d=>match d with
  | .lst xs=>∀ x ∈ xs,zcp n x
  | .tup xs=>∀ x ∈ xs,zcp n x
  | d=>d.scalar = true
theorem zoi {f : D -> D -> Option Bool} : ∀ (xs : List D),(∀ x ∈ xs,f x x = some true) -> zb5 f xs xs = some true
 | [],_=>rfl
 | x :: xs,h=>by
  unfold zb5
  rw [h x List.mem_cons_self,zoi xs fun y hy=>h y (List.mem_cons_of_mem _ hy)]
  rfl
theorem zo5 : ∀ (n : Nat) (d : D),zcp n d -> deq n d d = some true
 | 0,_,h=>h.elim
 | n + 1,d,h=>by
  show zh7 (deq n) d d = some true
  cases d with
  | lst xs =>
   show (if xs.length = xs.length then zb5 (deq n) xs xs else some false) = _
   rw [if_pos rfl]
   exact zoi xs fun x hx=>zo5 n x (h x hx)
  | tup xs =>
   show (if xs.length = xs.length then zb5 (deq n) xs xs else none) = _
   rw [if_pos rfl]
   exact zoi xs fun x hx=>zo5 n x (h x hx)
  | non=>rfl
  | bl b=>show some (b == b) = _; rw [beq_self_eq_true]
  | int b=>show some (b == b) = _; rw [beq_self_eq_true]
  | str b=>show some (b == b) = _; rw [beq_self_eq_true]
  | _=>cases h
theorem zcp.mono : ∀ (n : Nat) (d : D),zcp n d -> zcp (n + 1) d
 | 0,_,h=>h.elim
 | n + 1,d,h=>by
  cases d with
  | lst xs=>exact fun x hx=>zcp.mono n x (h x hx)
  | tup xs=>exact fun x hx=>zcp.mono n x (h x hx)
  | _=>exact h
theorem zcp.le {n m : Nat} {d : D} (h : zcp n d) (hm : n <= m) : zcp m d:=by
 induction hm with
 | refl=>exact h
 | step _ ih=>exact zcp.mono _ _ ih
theorem zuc {d : D} (h : zcp 20 d) : dEq d d = some (.bl true):=by
 unfold dEq
 rw [zo5 20 d h]
 rfl
theorem zjm (i j : Int) : dEq (.int i) (.int j) = some (.bl (i == j)):=rfl
theorem zs4 (i j : Str) : dEq (.str i) (.str j) = some (.bl (i == j)):=rfl
theorem z5p (i j : Bool) : dEq (.bl i) (.bl j) = some (.bl (i == j)):=rfl
theorem z5q (i j : Int) : dNe (.int i) (.int j) = some (.bl (!(i == j))):=rfl
theorem znz (i j : Str) : dNe (.str i) (.str j) = some (.bl (!(i == j))):=rfl
theorem zw4 (i j : Bool) : dNe (.bl i) (.bl j) = some (.bl (!(i == j))):=rfl
theorem zaz {m : D -> D -> Option D} {f g : List Sl -> Option D} {ρ : List Sl} {x y d : D} (h1 : f ρ = some x) (h2 : g ρ = some y) (h3 : m x y = some d) : m2 m f g ρ = some d:=by
 unfold m2
 rw [h1,h2]
 exact h3
theorem zcq {f : List Sl -> Option D} {ρ : List Sl} {b : Bool} (h : f ρ = some (.bl b)) : mB f ρ = some b:=by
 unfold mB
 rw [h]
 rfl
theorem zes {f : List Sl -> Option D} {ρ : List Sl} {d : D} {b : Bool} (h : f ρ = some d) (h' : zoh d = some b) : zcu f ρ = some b:=by
 unfold zcu
 rw [h]
 exact h'
theorem zfy {f : List Sl -> Option Bool} {ρ : List Sl} {b : Bool} (h : f ρ = some b) : zd7 f ρ = some (!b):=by
 unfold zd7
 rw [h]
 rfl
theorem zjg {f g : List Sl -> Option Bool} {ρ : List Sl} {r : Option Bool} (h : f ρ = some true) (h' : g ρ = r) : zdh f g ρ = r:=by
 unfold zdh
 rw [h]
 exact h'
theorem zmu {f g : List Sl -> Option Bool} {ρ : List Sl} (h : f ρ = some false) : zdh f g ρ = some false:=by
 unfold zdh
 rw [h]
 rfl
theorem zts {f g : List Sl -> Option Bool} {ρ : List Sl} (h : f ρ = some true) : mOr f g ρ = some true:=by
 unfold mOr
 rw [h]
 rfl
theorem zkk {f g : List Sl -> Option Bool} {ρ : List Sl} {r : Option Bool} (h : f ρ = some false) (h' : g ρ = r) : mOr f g ρ = r:=by
 unfold mOr
 rw [h]
 exact h'
theorem zhv {f g : List Sl -> Option Bool} {ρ : List Sl} {a b : Bool} (h : f ρ = some a) (h' : g ρ = some b) : zdh f g ρ = some (a && b):=by
 cases a with
 | true=>exact zjg h h'
 | false=>exact zmu h
theorem zwb {f g : List Sl -> Option Bool} {ρ : List Sl} {a b : Bool} (h : f ρ = some a) (h' : g ρ = some b) : mOr f g ρ = some (a || b):=by
 cases a with
 | true=>exact zts h
 | false=>exact zkk h h'
theorem zhh {f g : List Sl -> Option D} {ρ : List Sl} {a b : Bool} (h : f ρ = some (.bl a)) (h' : g ρ = some (.bl b)) : zec f g ρ = some (.bl (a && b)):=by
 unfold zec
 rw [zcq h]
 cases a with
 | true=>exact h'
 | false=>rfl
theorem zqm {f g : List Sl -> Option D} {ρ : List Sl} {a b : Bool} (h : f ρ = some (.bl a)) (h' : g ρ = some (.bl b)) : vOr f g ρ = some (.bl (a || b)):=by
 unfold vOr
 rw [zcq h]
 cases a with
 | true=>rfl
 | false=>exact h'
theorem zmo {f : List Sl -> Option D} {ρ : List Sl} {a : Bool} (h : f ρ = some (.bl a)) : zhe f ρ = some (.bl (!a)):=by
 unfold zhe
 rw [zcq h]
 rfl
theorem zae {f : List Sl -> Option D} {g : List Sl -> Option (List D)} {ρ : List Sl} {d : D} {ds : List D} (h : f ρ = some d) (h' : g ρ = some ds) : zab f g ρ = some (d :: ds):=by
 unfold zab
 rw [h,h']
 rfl
theorem zck {f : List Sl -> Option (List D)} {ρ : List Sl} {ds : List D} (h : f ρ = some ds) : zbe f ρ = some (.tup ds):=by
 unfold zbe
 rw [h]
 rfl
theorem zbn {f : List Sl -> Option (List D)} {ρ : List Sl} {ds : List D} (h : f ρ = some ds) : zan f ρ = some (.lst ds):=by
 unfold zan
 rw [h]
 rfl
theorem zaq {f : List Sl -> Option (List D)} {g : List Sl -> Option D} {ρ : List Sl} {ds : List D} {i : Int} {r : Option D} (h : f ρ = some ds) (h' : g ρ = some (.int i)) (h2 : atI ds i = r) : mIx f g ρ = r:=by
 unfold mIx
 rw [h,h']
 exact h2
theorem zic {C : Int -> Int -> Prop} [∀ i j,Decidable (C i j)] {g : Int -> Int -> D} {i j : Int} (h : C i j) : dI C g (.int i) (.int j) = some (g i j):=by
 show (if C i j then some (g i j) else none) = _
 rw [if_pos h]
theorem z7h {i : Nat} {f : List Sl -> Option D} {ρ : List Sl} {d : D} {xs : List D} (h : f ρ = some d) (h' : ρ[i]? = some (.own xs)) (hl : xs.length < 16777216) : zd9 i f ρ = some (.nx (ρ.set i (.own (xs ++ [d])))):=by
 unfold zd9
 rw [h]
 show (match ρ[i]? with | some (.own xs)=>if xs.length < 16777216 then some (Fl.nx (ρ.set i (.own (xs ++ [d])))) else none | _=>none) = _
 rw [h']
 show (if xs.length < 16777216 then _ else none) = _
 rw [if_pos hl]
theorem zgf {g : D -> List Sl -> Option (List Sl)} {ft : List Sl -> Option Bool} {fe : List Sl -> Option D} {ρ ρ1 : List Sl} {d y : D} {b : Bool} (h1 : g d ρ = some ρ1) (h2 : ft ρ1 = some b) (h3 : b = true -> fe ρ1 = some y) : ze1 g ft fe ρ d = some (if b then some y else none):=by
 unfold ze1
 rw [h1]
 show (ft ρ1).bind _ = _
 rw [h2]
 show (if b = true then (fe ρ1).map some else some none) = _
 cases b with
 | true=>rw [h3 rfl]; rfl
 | false=>rfl
theorem zda {g : D -> List Sl -> Option (List Sl)} {ft : List Sl -> Option Bool} {fe : List Sl -> Option D} {ρ ρ1 : List Sl} {d y : D} (h1 : g d ρ = some ρ1) (h2 : ft ρ1 = some true) (h3 : fe ρ1 = some y) : ze1 g ft fe ρ d = some (some y):=zgf h1 h2 fun _=>h3
theorem zdi {f : List Sl -> Option D} {ρ : List Sl} {d : D} {ds : List D} (h : f ρ = some d) (h' : zg8 d = some ds) : zbh f ρ = some ds:=by
 unfold zbh
 rw [h]
 exact h'
theorem zjb {f g : List Sl -> Option D} {ρ : List Sl} {d : D} (h : f ρ = some d) : zdk f g ρ = some d:=by
 unfold zdk
 rw [h]
 rfl
theorem zfc {f g : List Sl -> Option D} {ρ : List Sl} {r : Option D} (h : f ρ = none) (h' : g ρ = r) : zdk f g ρ = r:=by
 unfold zdk
 rw [h]
 exact h'
theorem zft {f : List Sl -> Option (List D)} {ρ : List Sl} {n : Int} (h : f ρ = some [.int n]) (h0 : 0 <= n) (h1 : n < 2 ^ 62) : zdt f ρ = some ((List.range n.toNat).map fun (i : Nat)=>D.int i):=by
 unfold zdt
 rw [h]
 show (if -(2 ^ 62) <= n /\ n < 2 ^ 62 then some (rng 0 n.toNat) else none) = _
 rw [if_pos ⟨by omega,h1⟩,z4y]
 congr 1
 refine List.map_congr_left fun i _=>?_
 rw [Int.zero_add]
theorem zgr {cn f : Str} {m : List D -> Option D} {fo : List Sl -> Option D} {fa : List Sl -> Option (List D)} {ρ : List Sl} {ns : List Str} {ds as : List D} (h : fo ρ = some (.ins cn ns ds)) (hn : ns.contains f = false) (h' : fa ρ = some as) : zc0 cn f m fo fa ρ = m (.ins cn ns ds :: as):=by
 unfold zc0
 rw [h]
 show (if cn = cn /\ ns.contains f = false then (fa ρ).bind fun as=>m (.ins cn ns ds :: as) else none) = _
 rw [if_pos ⟨rfl,hn⟩,h']
 rfl
theorem zfb {cn f c' : Str} {m : List D -> Option D} {fo : List Sl -> Option D} {fa : List Sl -> Option (List D)} {ρ : List Sl} {ns : List Str} {ds : List D} (h : fo ρ = some (.ins c' ns ds)) (hn : c' ≠ cn) : zc0 cn f m fo fa ρ = none:=by
 unfold zc0
 rw [h]
 show (if c' = cn /\ ns.contains f = false then (fa ρ).bind fun as=>m (.ins c' ns ds :: as) else none) = _
 rw [if_neg fun z=>hn z.1]
noncomputable def itD (z : Int × Int) : D:=.tup [.int z.1,.int z.2]
noncomputable def shD : Option Bool -> D
 | none=>.non
 | some b=>.bl b
noncomputable def InN (n : Nat) (its : List (Int × Int)) : Prop:=∀ z ∈ its,0 <= z.1 /\ z.1 < (n : Int) /\ 0 <= z.2
theorem zq1 (bs : List Int) : zcp 2 (.lst (bs.map D.int)):=fun x hx=>by
 obtain ⟨b,_,rfl⟩:=List.mem_map.mp hx
 exact rfl
theorem zxd (z : Int × Int) : zcp 2 (itD z):=fun x hx=>by
 simp only [List.mem_cons,List.not_mem_nil,or_false] at hx
 rcases hx with rfl | rfl <;> exact rfl
theorem zvd (its : List (Int × Int)) : zcp 3 (.lst (its.map itD)):=fun x hx=>by
 obtain ⟨z,_,rfl⟩:=List.mem_map.mp hx
 exact zxd z
theorem zd6 {es : List (Option Bool)} {i : Int} (h0 : 0 <= i) (h1 : i < es.length) : atI (es.map shD) i = some (shD (es.getD i.toNat none)):=zqz none h0 h1
theorem zgm {es : List Bool} {i : Int} (h0 : 0 <= i) (h1 : i < es.length) : atI (es.map D.bl) i = some (.bl (es.getD i.toNat false)):=zqz false h0 h1
theorem zgb (e : Option Bool) (b : Bool) : dIs (shD e) (.bl b) = some (.bl (e == some b)):=by
 cases e with
 | none=>rfl
 | some c=>cases b <;> cases c <;> rfl
theorem zle (e : Option Bool) (b : Bool) : zel (shD e) (.bl b) = some (.bl (!(e == some b))):=by
 cases e with
 | none=>rfl
 | some c=>cases b <;> cases c <;> rfl
noncomputable def Prt.toD : Prt -> D
 | .inn t=>.tup [.str "in",.int t]
 | .out t=>.tup [.str "out",.int t]
 | .least k its=>.tup [.str "least",.int k,.lst (its.map itD)]
 | .most k its=>.tup [.str "most",.int k,.lst (its.map itD)]
noncomputable def Prt.obj : Prt -> D
 | .inn t=>.ins "In" ["thing"] [.int t]
 | .out t=>.ins "Out" ["thing"] [.int t]
 | .least k its=>.ins "Least" ["bound","pieces"] [.int k,.lst (its.map itD)]
 | .most k its=>.ins "Most" ["bound","pieces"] [.int k,.lst (its.map itD)]
noncomputable def Prt.Ok (n : Nat) : Prt -> Prop
 | .inn t=>0 <= t /\ t < (n : Int)
 | .out t=>0 <= t /\ t < (n : Int)
 | .least _ its=>InN n its /\ its.length <= 100000
 | .most _ its=>InN n its /\ its.length <= 100000
theorem zzu (p : Prt) : zcp 4 p.toD:=by
 cases p with
 | inn t=>intro x hx; simp only [List.mem_cons,List.not_mem_nil,or_false] at hx; rcases hx with rfl | rfl <;> exact rfl
 | out t=>intro x hx; simp only [List.mem_cons,List.not_mem_nil,or_false] at hx; rcases hx with rfl | rfl <;> exact rfl
 | least k its =>
  intro x hx
  simp only [List.mem_cons,List.not_mem_nil,or_false] at hx
  rcases hx with rfl | rfl | rfl
  ·exact rfl
  ·exact rfl
  ·exact zvd its
 | most k its =>
  intro x hx
  simp only [List.mem_cons,List.not_mem_nil,or_false] at hx
  rcases hx with rfl | rfl | rfl
  ·exact rfl
  ·exact rfl
  ·exact zvd its
theorem z1e (p : Int -> Bool) (its : List (Int × Int)) : ((its.filter fun z=>p z.1).map fun z=>D.int z.2) = ((its.filter fun z=>p z.1).map (·.2)).map D.int:=by
 rw [List.map_map]
 rfl
theorem zk8 (p : Int -> Bool) (its : List (Int × Int)) : zdu [.lst ((its.filter fun z=>p z.1).map fun z=>D.int z.2)] = some (.int (zdx p its)):=by
 rw [z1e,zuf]
 rfl
theorem znn : ∀ {bs : List Bool} {us : List Value},zas (bs.map V.bl) us -> us = bs.map Value.bool
 | [],_,.nil=>rfl
 | b :: bs,_,.cons r t=>by
  rw [znn t]
  cases (show _ = Value.bool b from r)
  rfl
theorem zw9 (bs : List Bool) : ((List.range bs.length).all fun i=>(bs[i]?).getD true) = bs.all id:=by
 rw [Bool.eq_iff_iff,List.all_eq_true,List.all_eq_true]
 constructor
 ·intro h b hb
  obtain ⟨i,hi,e⟩:=List.getElem_of_mem hb
  have:=h i (List.mem_range.mpr hi)
  simp only [List.getElem?_eq_getElem hi,Option.getD_some,e] at this
  exact this
 ·intro h i hi
  have hi':=List.mem_range.mp hi
  simp only [List.getElem?_eq_getElem hi',Option.getD_some]
  exact h _ (List.getElem_mem hi')
theorem z5j (bs : List Bool) : ((List.range bs.length).any fun i=>(bs[i]?).getD false) = bs.any id:=by
 rw [Bool.eq_iff_iff,List.any_eq_true,List.any_eq_true]
 constructor
 ·rintro ⟨i,hi,e⟩
  have hi':=List.mem_range.mp hi
  simp only [List.getElem?_eq_getElem hi',Option.getD_some] at e
  exact ⟨_,List.getElem_mem hi',e⟩
 ·rintro ⟨b,hb,e⟩
  obtain ⟨i,hi,rfl⟩:=List.getElem_of_mem hb
  exact ⟨i,List.mem_range.mpr hi,by simp only [List.getElem?_eq_getElem hi,Option.getD_some]; exact e⟩
section
variable {c : Str -> Addr} {X : Cx}
theorem ztg {h h' : Heap} {o : Obj} (hk : ∀ b x,b ∉ [h.objs.size] -> (h.push o).get? b = some x -> h'.get? b = some x) : ∀ b x,h.get? b = some x -> h'.get? b = some x :=
 fun b x e=>hk b x (fun hm=>by rw [List.mem_singleton.mp hm] at e; exact Nat.lt_irrefl _ (Heap.lt_size e)) (Heap.get?_push_of_some _ e)
theorem zxx (hc : X.calm = true) : zdp X (.builtin "all") (fun xs H Q=>∃ (p : Addr) (bs : List Bool),xs = [.ref p] /\ SqL X.K H p (bs.map V.bl) /\ Q (.bl (bs.all id)) H):=by
 intro pins s σ H xs us Q I r h
 obtain ⟨l,bs,rfl,hq,q⟩:=h
 obtain ⟨u,rfl,rx⟩:=zh2 r
 cases rx
 obtain ⟨its,r',pl,hz⟩:=I.list hq
 have e:=znn r'
 subst e
 have hl:=pl.isList
 have hlt : l < s.heap.objs.size:=by obtain ⟨_,e,_⟩:=hl; exact Heap.lt_size e
 refine call_all_walk (wpAny_pyIter_list hl ?_)
 refine ⟨s.heap.objs.size,[s.heap.objs.size,l],[s.heap.objs.size],(bs.map Value.bool).toArray.size,_,_,fun i=>(bs[i]?).getD true,rfl,Walks.list (A:=X.A.in1) (I.ok.hd hc) _ l (Nat.ne_of_lt hlt) (bs.map Value.bool).toArray,
  ⟨⟨_,Heap.get?_push_size _ rfl,rfl,rfl⟩,hl.push _⟩,fun i v s' Q' E' hP hQ=>?_,fun h' tk hk=>?_⟩
 ·have hP' : (bs.map Value.bool)[i]? = some v:=by simpa using hP
  obtain ⟨b,e,rfl⟩:=zh1 hP'
  simp only [e,Option.getD_some] at hQ
  exact wpAny_truthy_bool hQ
 ·have e : ((List.range (bs.map Value.bool).toArray.size).all fun i=>(bs[i]?).getD true) = bs.all id:=by
   rw [List.size_toArray,List.length_map]; exact zw9 bs
  rw [e]
  exact ⟨.bl (bs.all id),H,I.kept (ztg hk),rfl,q⟩
theorem zyz (hc : X.calm = true) : zdp X (.builtin "any") (fun xs H Q=>∃ (p : Addr) (bs : List Bool),xs = [.ref p] /\ SqL X.K H p (bs.map V.bl) /\ Q (.bl (bs.any id)) H):=by
 intro pins s σ H xs us Q I r h
 obtain ⟨l,bs,rfl,hq,q⟩:=h
 obtain ⟨u,rfl,rx⟩:=zh2 r
 cases rx
 obtain ⟨its,r',pl,hz⟩:=I.list hq
 have e:=znn r'
 subst e
 have hl:=pl.isList
 have hlt : l < s.heap.objs.size:=by obtain ⟨_,e,_⟩:=hl; exact Heap.lt_size e
 refine call_any_walk (wpAny_pyIter_list hl ?_)
 refine ⟨s.heap.objs.size,[s.heap.objs.size,l],[s.heap.objs.size],(bs.map Value.bool).toArray.size,_,_,fun i=>(bs[i]?).getD false,rfl,Walks.list (A:=X.A.in1) (I.ok.hd hc) _ l (Nat.ne_of_lt hlt) (bs.map Value.bool).toArray,
  ⟨⟨_,Heap.get?_push_size _ rfl,rfl,rfl⟩,hl.push _⟩,fun i v s' Q' E' hP hQ=>?_,fun h' tk hk=>?_⟩
 ·have hP' : (bs.map Value.bool)[i]? = some v:=by simpa using hP
  obtain ⟨b,e,rfl⟩:=zh1 hP'
  simp only [e,Option.getD_some] at hQ
  exact wpAny_truthy_bool hQ
 ·have e : ((List.range (bs.map Value.bool).toArray.size).any fun i=>(bs[i]?).getD false) = bs.any id:=by
   rw [List.size_toArray,List.length_map]; exact z5j bs
  rw [e]
  exact ⟨.bl (bs.any id),H,I.kept (ztg hk),rfl,q⟩
noncomputable def zd4 : List D -> Option (List Bool)
 | []=>some []
 | .bl b :: ds=>(zd4 ds).map fun r=>b :: r
 | _=>none
theorem zvi : ∀ {ds : List D} {bs : List Bool},zd4 ds = some bs -> ds = bs.map D.bl
 | [],_,e=>by cases e; rfl
 | .bl b :: ds,_,e=>by
  unfold zd4 at e
  cases es : zd4 ds with
  | none=>rw [es] at e; cases e
  | some r=>rw [es] at e; cases e; rw [zvi es]; rfl
 | .int _ :: _,_,e=>by cases e
 | .non :: _,_,e=>by cases e
 | .str _ :: _,_,e=>by cases e
 | .lst _ :: _,_,e=>by cases e
 | .tup _ :: _,_,e=>by cases e
 | .kl _ :: _,_,e=>by cases e
 | .kt _ :: _,_,e=>by cases e
 | .dic _ _ :: _,_,e=>by cases e
 | .ins _ _ _ :: _,_,e=>by cases e
theorem zmn (bs : List Bool) : zd4 (bs.map D.bl) = some bs:=by
 induction bs with
 | nil=>rfl
 | cons n ns ih=>rw [List.map_cons,zd4,ih]; rfl
theorem zai.bls {G : Gc} {H : Hp} : ∀ {bs : List Bool} {vs : List V},zai G H (bs.map D.bl) vs -> vs = bs.map V.bl
 | [],_,h=>h
 | b :: bs,_,⟨v,r,e,h1,h2⟩=>by
  subst e
  rw [zai.bls h2,show v = V.bl b from h1]
  rfl
noncomputable def zfq : List D -> Option D
 | [d]=>(lsD d).bind fun ds=>(zd4 ds).map fun bs=>.bl (bs.all id)
 | _=>none
noncomputable def zf6 : List D -> Option D
 | [d]=>(lsD d).bind fun ds=>(zd4 ds).map fun bs=>.bl (bs.any id)
 | _=>none
theorem zlz {f : List Bool -> D} {ds : List D} {d : D} (e : (match ds with | [d]=>(lsD d).bind fun ds=>(zd4 ds).map f | _=>none) = some d) : ∃ d0 xs bs,ds = [d0] /\ lsD d0 = some xs /\ xs = bs.map D.bl /\ d = f bs:=by
 split at e
 ·rename_i d0
  cases e1 : lsD d0 with
  | none=>rw [e1] at e; cases e
  | some xs =>
   rw [e1] at e
   replace e : (zd4 xs).map f = some d:=e
   cases e2 : zd4 xs with
   | none=>rw [e2] at e; cases e
   | some bs=>rw [e2] at e; cases e; exact ⟨d0,xs,bs,rfl,e1,zvi e2,rfl⟩
 ·cases e
theorem zmv (hc : X.calm = true) : zhk c X (.builtin "all") zfq:=by
 rintro pins s σ H vs us Q I rv ⟨Hf,ds,d,s0,r,e,k⟩
 obtain ⟨d0,xs,bs,rfl,e1,rfl,rfl⟩:=zlz e
 obtain ⟨v,ev,r1⟩:=r.one
 subst ev
 obtain ⟨a,ws,ea,q,rs⟩:=zg0 e1 r1
 subst ea
 refine zxx hc pins s σ H _ us Q I rv ⟨a,bs,rfl,?_,k _ Hf H (Ext.refl s0) rfl⟩
 rw [<- rs.bls]
 exact s0.seq q
theorem zmt (hc : X.calm = true) : zhk c X (.builtin "any") zf6:=by
 rintro pins s σ H vs us Q I rv ⟨Hf,ds,d,s0,r,e,k⟩
 obtain ⟨d0,xs,bs,rfl,e1,rfl,rfl⟩:=zlz e
 obtain ⟨v,ev,r1⟩:=r.one
 subst ev
 obtain ⟨a,ws,ea,q,rs⟩:=zg0 e1 r1
 subst ea
 refine zyz hc pins s σ H _ us Q I rv ⟨a,bs,rfl,?_,k _ Hf H (Ext.refl s0) rfl⟩
 rw [<- rs.bls]
 exact s0.seq q
theorem zlq : ∀ ds d,zfq ds = some d -> d.scalar = true:=fun ds d e=>by
 obtain ⟨d0,xs,bs,rfl,e1,rfl,rfl⟩:=zlz e
 rfl
theorem zmz : ∀ ds d,zf6 ds = some d -> d.scalar = true:=fun ds d e=>by
 obtain ⟨d0,xs,bs,rfl,e1,rfl,rfl⟩:=zlz e
 rfl
theorem z2e (bs : List Bool) : zfq [.lst (bs.map D.bl)] = some (.bl (bs.all id)):=by
 show (zd4 (bs.map D.bl)).map _ = _
 rw [zmn]
 rfl
theorem zwa (bs : List Bool) : zf6 [.lst (bs.map D.bl)] = some (.bl (bs.any id)):=by
 show (zd4 (bs.map D.bl)).map _ = _
 rw [zmn]
 rfl
end
inductive Wrd where
 | make | may | never
 deriving DecidableEq
noncomputable def Wrd.s : Wrd -> Str
 | .make=>"make"
 | .may=>"may"
 | .never=>"never"
structure Rul where
 w : Wrd
 hd : Int
 ps : List Prt
noncomputable def Rul.hdD (r : Rul) : D:=match r.w with
 | .never=>.non
 | _=>.int r.hd
noncomputable def Rul.toD (r : Rul) : D:=.tup [.str r.w.s,r.hdD,.lst (r.ps.map Prt.toD)]
structure Rul.Ok (n : Nat) (r : Rul) : Prop where
 hd : r.w ≠ .never -> 0 <= r.hd /\ r.hd < (n : Int)
 ps : ∀ p ∈ r.ps,p.Ok n
 len : r.ps.length <= 100000
theorem z37 (r : Rul) : zcp 6 r.toD:=by
 intro x hx
 simp only [List.mem_cons,List.not_mem_nil,or_false] at hx
 rcases hx with rfl | rfl | rfl
 ·exact rfl
 ·unfold Rul.hdD
  cases r.w <;> exact rfl
 ·intro x hx
  obtain ⟨p,_,rfl⟩:=List.mem_map.mp hx
  exact zzu p
noncomputable def Rul.bodyHolds (r : Rul) (rs ws : List Bool) : Bool:=r.ps.all fun p=>p.holds rs ws
noncomputable def Rul.bodySure (r : Rul) (es : List (Option Bool)) : Bool:=r.ps.all fun p=>p.sure es
noncomputable def Rul.bodyLost (r : Rul) (es : List (Option Bool)) (ws : List Bool) : Bool:=r.ps.any fun p=>p.lost es ws
noncomputable def Rul.surely (r : Rul) (es : List (Option Bool)) : Bool:=match r.w with
 | .may=>false
 | .make=>(es.getD r.hd.toNat none == some false) && r.bodySure es
 | .never=>r.bodySure es
theorem zux {α : Type} (f : α -> Bool) (xs : List α) : (xs.map fun x=>D.bl (f x)) = (xs.map f).map D.bl:=by
 rw [List.map_map]
 rfl
theorem all_map (f : Prt -> Bool) (xs : List Prt) : zfq [.lst (xs.map fun x=>D.bl (f x))] = some (.bl (xs.all f)):=by
 rw [zux,z2e,List.all_map]
 rfl
theorem any_map (f : Prt -> Bool) (xs : List Prt) : zf6 [.lst (xs.map fun x=>D.bl (f x))] = some (.bl (xs.any f)):=by
 rw [zux,zwa,List.any_map]
 rfl
theorem zku {l : List Bool} {i : Nat} (h : i < l.length) : (bs l).getD i none = some (l.getD i false):=by
 unfold bs
 rw [List.getD_eq_getElem?_getD,List.getD_eq_getElem?_getD,List.getElem?_map]
 simp [h]
theorem zps {p q : Int -> Bool} {its : List (Int × Int)} (h : ∀ z ∈ its,p z.1 = q z.1) : zdx p its = zdx q its:=by
 unfold zdx
 rw [List.filter_congr h]
structure zua (es es' : List (Option Bool)) : Prop where
 len : es'.length = es.length
 at' : ∀ i,es.getD i none = none \/ es'.getD i none = es.getD i none
structure zuv (ws ws' : List Bool) : Prop where
 len : ws'.length = ws.length
 at' : ∀ i,ws.getD i false = true -> ws'.getD i false = true
theorem zua.refl (es : List (Option Bool)) : zua es es:=⟨rfl,fun _=>.inr rfl⟩
theorem zuv.refl (ws : List Bool) : zuv ws ws:=⟨rfl,fun _ h=>h⟩
theorem Prt.Ok.le {n m : Nat} {p : Prt} (h : p.Ok n) (e : m = n) : p.Ok m:=e ▸ h
noncomputable def Ite (K : PySem.W.Frag) (l : Addr) : It :=
  ⟨fun i H => ∃ xs x, SqL K H l xs /\ xs[i]? = some x,
   fun i H v H' => ∃ p x, v = .ref p /\ H p = none /\ H' = upd H p (.tup [.int i, x]) /\ (∀ xs, SqL K H l xs -> xs[i]? = some x),
   fun i H => ∃ xs, SqL K H l xs /\ xs.length <= i⟩
theorem z56 {P : Program} {w : World} {K : PySem.W.Frag} {elts : List Expr} {kx : Nat} {pos : Pos} (e it l : Addr) (ne : e ≠ it) :
  zhs P w K (.Tuple elts kx pos) (Ite K l) [e,it] e (fun i h=>(∃ old,IsEnum h e it (i : Int) old) /\ h.IsListIter it l i) where
 mem:=by simp
 obj:=fun i h st b hb=>by
  obtain ⟨⟨old,he⟩,⟨o1,e1,_,d1⟩⟩:=st
  simp only [List.mem_cons,List.not_mem_nil,or_false] at hb
  rcases hb with rfl | rfl
  ·exact ⟨_,he,fun v q=>by cases q⟩
  ·exact ⟨o1,e1,fun v q=>by rw [d1] at q; cases q⟩
 keep:=fun i h h' st k=>by
  obtain ⟨⟨old,he⟩,h1⟩:=st
  exact ⟨⟨old,k e (by simp) _ he⟩,h1.at fun o q=>k it (by simp) o q⟩
 item:=by
  intro X hP hw hK hc i pins s σ H E I hf st hg
  subst hP hw hK
  obtain ⟨⟨old,he⟩,h1⟩:=st
  obtain ⟨xs,x,q1,hx⟩:=hg
  obtain ⟨its1,r1,p1,z1⟩:=I.list q1
  obtain ⟨u1,e1,ru1⟩:=r1.get hx
  refine wpAny_pyNext_enum_item he h1 p1.isList (x:=u1) (by simpa using e1) ne fun h' a1 a3 a5 a6 a7=>⟨_,rfl,?_⟩
  refine wpAny_letOwnedTupleGo_enum (s:={ s with heap:=h',toks:=s.toks + 1 }) a1 fun h'' b1 b2=>?_
  have lt : ∀ b ∈ [e,it],b < s.heap.objs.size:=fun b hb=>by
   simp only [List.mem_cons,List.not_mem_nil,or_false] at hb
   rcases hb with rfl | rfl
   ·exact Heap.lt_size he
   ·obtain ⟨o,e,_⟩:=h1; exact Heap.lt_size e
  have kk : ∀ b o,b ∉ [e,it] -> s.heap.get? b = some o -> h''.get? b = some o:=fun b o hb e=>by
   simp only [List.mem_cons,List.not_mem_nil,or_false,not_or] at hb
   obtain ⟨n1,n2⟩:=hb
   exact (b2.2 b n1).trans (a7 b o n1 n2 e)
  have fr : H s.heap.objs.size = none:=I.hok.fresh (Nat.le_refl _)
  have I1 : Inv X pins σ H { s with heap:=h'',toks:=s.toks + 1 }:=I.turnedMany (t':=s.toks + 1) kk hf
  have hp : h''.get? s.heap.objs.size = some { cls:=.type "tuple",data:=.seq #[.int i s.toks,u1] }:=(b2.2 _ (Nat.ne_of_gt (lt e (by simp)))).trans a5
  have I2 : Inv X pins σ (upd H s.heap.objs.size (.tup [.int i,x])) { s with heap:=h'',toks:=s.toks + 1 } :=
   I1.track (I.fpOk (Nat.le_refl _) fr) ⟨(by show 2 <= sizeLine; decide),[.int i s.toks,u1],.cons ⟨s.toks,rfl⟩ (.cons ru1 .nil),⟨_,hp,rfl,_,rfl⟩⟩
  refine ⟨.ref s.heap.objs.size,_,I2,rfl,⟨_,x,rfl,fr,rfl,fun xs' h=>by rw [I.list_inj h q1]; exact hx⟩,⟨⟨u1,?_⟩,?_⟩,fun b hb=>?_⟩
  ·have : ((i + 1 : Nat) : Int) = (i : Int) + 1:=by push_cast; rfl
   rw [this]; exact b1
  ·exact a3.at fun o q=>(b2.2 it (Ne.symm ne)).trans q
  ·rw [za2 (Nat.ne_of_lt (lt b hb))]
   exact (hf b hb).1
 done:=by
  intro X hP hw hK hc i pins s σ H E I hf st hg
  subst hP hw hK
  obtain ⟨⟨old,he⟩,h1⟩:=st
  obtain ⟨xs,q1,hend⟩:=hg
  obtain ⟨its1,r1,p1,z1⟩:=I.list q1
  have l1':=r1.length
  refine wpAny_pyNext_enum_end (I.ok.hd hc) he h1 p1.isList (by simp; omega) fun h' kk=>⟨rfl,I.turnedMany (t':=s.toks) (ch:=[e,it]) (fun b o hb q=>?_) hf⟩
  simp only [List.mem_cons,List.not_mem_nil,or_false,not_or] at hb
  exact kk b o hb.2 q
 self:=fun _ _ _ _ _ st h=>by obtain ⟨⟨old,he⟩,_⟩:=st; exact wpAny_pyIter_enum he h
section
variable {X : Cx} {elts : List Expr} {kx : Nat} {tpos : Pos}
noncomputable def z0i (K : PySem.W.Frag) (ta : TA) : TI:=fun σ H R=>ta σ H fun vs H1=>∃ l,vs = [.ref l] /\ (∃ xs,SqL K H1 l xs) /\ R (Ite K l) H1
theorem z1g {a : Expr} {ta : TA} {p pos : Pos} (hg : Gl X "enumerate") (hm : X.mg "enumerate" = none) (ha : PA X [a] ta) (hs : starEach [a] X.env = [(false,eval a X.env)]:=by rfl) :
  PI X (.Tuple elts kx tpos) (.Call (.Name "enumerate" p) [a] [] pos) (z0i X.K ta):=by
 intro pins s σ H R I h
 refine Call_ (zf5 I hg hm boot_enumerate (PyProof.Rows.callWith_type1 (thn (ha pos pins s σ H _ I h) fun us s1 ⟨vs,H1,I1,r1,q1⟩=>?_) (by rw [hs]; rfl) (by rfl)))
 obtain ⟨l,e,⟨xs,h1⟩,q⟩:=q1
 subst e
 obtain ⟨u,rfl,ru⟩:=zh2 r1
 cases ru
 obtain ⟨its1,r1,p1,z1⟩:=I1.list h1
 refine call_enumerate_list p1.isList fun h' a1 a4 a6 a7=>?_
 refine wpAny_pyIter_enum a1 ?_
 have I2 : Inv X pins σ H1 { s1 with heap:=h' }:=I1.kept (t':=s1.toks) a7
 refine ⟨_,[s1.heap.objs.size + 1,s1.heap.objs.size],_,_,H1,rfl,I2,z56 _ _ _ (Nat.succ_ne_self _),⟨⟨_,a1⟩,a4⟩,fun b hb=>?_,q⟩
 simp only [List.mem_cons,List.not_mem_nil,or_false] at hb
 have hle : s1.heap.objs.size <= b:=by
  rcases hb with rfl | rfl
  ·exact Nat.le_add_right _ _
  ·exact Nat.le_refl _
 exact I1.fpOk hle (I1.hok.fresh hle)
end
noncomputable def zfz : Nat -> List D -> List D
 | _,[]=>[]
 | i,x :: xs=>.tup [.int i,x] :: zfz (i + 1) xs
theorem zn5 : ∀ (i : Nat) (xs : List D),(zfz i xs).length = xs.length
 | _,[]=>rfl
 | i,x :: xs=>by rw [zfz,List.length_cons,List.length_cons,zn5]
theorem zk7 : ∀ (k : Nat) (xs : List D) (i : Nat),(zfz k xs)[i]? = (xs[i]?).map fun x=>.tup [.int (k + i : Nat),x]
 | _,[],_=>rfl
 | k,x :: xs,0=>rfl
 | k,x :: xs,i + 1=>by rw [zfz,List.getElem?_cons_succ,List.getElem?_cons_succ,zk7 (k + 1) xs i,show k + 1 + i = k + (i + 1) by omega]
noncomputable def zpt : List D -> Option (List D)
 | [x]=>(lsD x).map (zfz 0)
 | _=>none
noncomputable def zg7 (f : List Sl -> Option (List D)) (ρ : List Sl) : Option (List D):=(f ρ).bind zpt
section
variable {c : Str -> Addr} {X : Cx} {a : Expr} {pos p : Pos}
theorem zms {f : List Sl -> Option (List D)} {elts : List Expr} {kx : Nat} {tpos : Pos} (hg : Gl X "enumerate") (hm : X.mg "enumerate" = none) (ha : DA c X [a] f) (hs : starEach [a] X.env = [(false,eval a X.env)]:=by rfl) :
  DI c X (.Tuple elts kx tpos) (.Call (.Name "enumerate" p) [a] [] pos) (zg7 f) :=
 PI.imp (z1g hg hm ha.pa hs) fun σ H R q_=>by
  obtain ⟨Hf0,H0,Hf,ρ,ds,st,ef,k⟩:=q_
  unfold zg7 at ef
  cases e1 : f ρ with
  | none=>rw [e1] at ef; cases ef
  | some as =>
   rw [e1] at ef
   replace ef : zpt as = some ds:=ef
   refine ⟨Hf0,H0,Hf,ρ,as,st,e1,fun vs Hf' H' x r=>?_⟩
   unfold zpt at ef
   split at ef
   ·rename_i dx
    cases ex : lsD dx with
    | none=>rw [ex] at ef; cases ef
    | some xs =>
     rw [ex] at ef
     cases ef
     obtain ⟨v,ev,rv⟩:=r.one
     obtain ⟨l1,w1,el1,q1,r1⟩:=zg0 ex rv
     subst el1
     refine ⟨l1,ev,⟨w1,x.s.seq q1⟩,k _ Hf' H' x fun Hf2 H2 f2 s2 i=>?_⟩
     have g1 : SqL X.K H2 l1 w1:=(f2.trans s2).seq q1
     have h1:=r1.length
     refine ⟨fun d ed=>?_,fun ei=>⟨w1,g1,by rw [zn5] at ei; omega⟩⟩
     rw [zk7] at ed
     cases hx : xs[i]? with
     | none=>rw [hx] at ed; cases ed
     | some x' =>
      rw [hx] at ed
      cases ed
      obtain ⟨u1,eu1,ru1⟩:=r1.get hx
      refine ⟨⟨w1,u1,g1,eu1⟩,fun z H3 ⟨pp,z1,ez,hp,eh,y1⟩=>?_⟩
      subst ez eh
      have a1:=y1 w1 g1
      rw [eu1] at a1; cases a1
      exact ⟨upd Hf2 pp (.tup [.int i,u1]),Ext.new s2 hp,pp,[.int i,u1],rfl,zbm,.cons (by rw [Nat.zero_add]; rfl) (.cons (ru1.up (f2.trans (zcg (s2.free hp)))) .nil)⟩
   ·cases ef
end
noncomputable def zi3 : D -> Option Key
 | .int i=>some (.inl i)
 | .str x=>some (.inr x)
 | _=>none
theorem zu8 {G : Gc} {H : Hp} {d : D} {v : V} {k : Key} (e : zi3 d = some k) (r : Rep G H d v) : v = kV k:=by
 cases d <;> first | (cases e; done) | (cases e; exact r)
noncomputable def zd5 (ks : List Key) (k : Key) : Bool:=ks.any fun j=>decide (j = k)
noncomputable def zff {α : Type} (ks : List Key) (xs : List α) (k : Key) (x : α) : List α:=if zd5 ks k = true then List.zipWith (fun j y=>if j = k then x else y) ks xs else xs ++ [x]
noncomputable def zeu (ks : List Key) (k : Key) : List Key:=if zd5 ks k = true then ks else ks ++ [k]
theorem zqk {ks : List Key} {k : Key} {v : V} : ∀ {ks : List Key} {vs : List V},(ks.zip vs).map (fun kv=>if kv.1 = k then (kv.1,v) else kv) = ks.zip (List.zipWith (fun j y=>if j = k then v else y) ks vs)
 | [],_=>rfl
 | _ :: _,[]=>rfl
 | j :: ks,y :: vs=>by
  rw [List.zip_cons_cons,List.map_cons,List.zipWith_cons_cons,List.zip_cons_cons,zqk (ks:=ks)]
  by_cases h : j = k
  ·subst h; simp
  ·simp [h]
theorem zop {k : Key} : ∀ {ks : List Key} {vs : List V},ks.length = vs.length -> ((ks.zip vs).any fun kv=>decide (kv.1 = k)) = zd5 ks k
 | [],[],_=>rfl
 | [],_ :: _,h=>by cases h
 | _ :: _,[],h=>by cases h
 | j :: ks,y :: vs,h=>by
  unfold zd5
  rw [List.zip_cons_cons,List.any_cons,List.any_cons,zop (by simpa using h)]
  rfl
theorem z6s {ks : List Key} {vs : List V} {k : Key} {v : V} (h : ks.length = vs.length) : zeg (ks.zip vs) k v = (zeu ks k).zip (zff ks vs k v):=by
 unfold zeg zeu zff
 rw [zop h]
 by_cases e : zd5 ks k = true
 ·rw [if_pos e,if_pos e,if_pos e,zqk (ks:=ks)]
 ·rw [if_neg e,if_neg e,if_neg e,List.zip_append h]; rfl
theorem z46 {α : Type} {ks : List Key} {vs : List α} {k : Key} {v : α} (h : ks.length = vs.length) : (zeu ks k).length = (zff ks vs k v).length:=by
 unfold zeu zff
 by_cases e : zd5 ks k = true
 ·rw [if_pos e,if_pos e,List.length_zipWith]; omega
 ·rw [if_neg e,if_neg e,List.length_append,List.length_append,h]; rfl
theorem zai.zipW {G : Gc} {H : Hp} {k : Key} {d : D} {v : V} (q : Rep G H d v) : ∀ {ks : List Key} {ds : List D} {vs : List V},zai G H ds vs -> zai G H (List.zipWith (fun j y=>if j = k then d else y) ks ds) (List.zipWith (fun j y=>if j = k then v else y) ks vs)
 | [],_,_,_=>.nil
 | _ :: _,[],_,h=>by cases (show _ = [] from h); exact .nil
 | j :: ks,x :: ds,_,⟨u,r,e,h1,h2⟩=>by
  subst e
  rw [List.zipWith_cons_cons,List.zipWith_cons_cons]
  refine .cons ?_ (zai.zipW q h2)
  by_cases e : j = k
  ·rw [if_pos e,if_pos e]; exact q
  ·rw [if_neg e,if_neg e]; exact h1
theorem zai.put {G : Gc} {H : Hp} {k : Key} {ks : List Key} {d : D} {v : V} {ds : List D} {vs : List V} (r : zai G H ds vs) (q : Rep G H d v) : zai G H (zff ks ds k d) (zff ks vs k v):=by
 unfold zff
 by_cases e : zd5 ks k = true
 ·rw [if_pos e,if_pos e]; exact r.zipW q
 ·rw [if_neg e,if_neg e]; exact r.append (.cons q .nil)
noncomputable def zp5 (i : Nat) (ρ : List Sl) : Option Fl:=some (.nx (ρ.set i (.ownd [] [])))
noncomputable def zhg (i : Nat) (fk fv : List Sl -> Option D) (ρ : List Sl) : Option Fl:=(fv ρ).bind fun d=>(fk ρ).bind fun x=>(zi3 x).bind fun k=>match ρ[i]? with
 | some (.ownd ks xs)=>if ks.length < 16777216 then some (.nx (ρ.set i (.ownd (zeu ks k) (zff ks xs k d)))) else none
 | _=>none
noncomputable def zqh (x y : D) : Option D:=(zi3 x).bind fun k=>match y with
 | .dic ks _=>some (.bl (zd5 ks k))
 | _=>none
section
variable {c : Str -> Addr} {X : Cx} {st : Stmt} {e a b i' value : Expr} {pos pos' p' : Pos}
theorem zy1 {i : Nat} (hp : PS X st (zh5 zub (zhb i))) : DS c X st (zp5 i):=PS.imp hp fun E σ H q_=>by
 obtain ⟨Hf0,H0,Hf,ρ,o,so,ef,k⟩:=q_
 cases ef
 intro q hq
 have x : Ext Hf H Hf (upd H q (.dK [])):=Ext.tmp so.sub hq
 exact k _ Hf _ x.f (so.setOwn (s:=.ownd [] []) rfl x hq (so.sub.free hq) ⟨[],zbm,rfl,.nil⟩)
theorem z6c (i : Nat) {x : Str} (hN : X.N.Nodup) (hi : X.N[i]? = some x:=by rfl) (hx : Loc X.env.scope x:=by first | exact Or.inl rfl | exact Or.inr rfl) (hs : swapsWith (.Dict [] [] pos) (some (.Name x pos')) p'.line X.env = pure false:=by rfl) (hf : X.fn x = true \/ X.env.scope.names.lookup x = some .local:=by first | exact .inl rfl | exact .inr rfl) :
  DS c X (.Assign [.Name x pos'] (.Dict [] [] pos) p') (zp5 i):=zy1 (znh hN hi hx zxi hs hf)
theorem zxf {i : Nat} {fk fv : List Sl -> Option D} (hp : PS X st (zul (zd8 i) (tD (Gx c X) fk) (tD (Gx c X) fv))) : DS c X st (zhg i fk fv):=PS.imp hp fun E σ H q_=>by
 obtain ⟨Hf0,H0,Hf,ρ,o,so,ef,k⟩:=q_
 unfold zhg at ef
 cases e1 : fv ρ with
 | none=>rw [e1] at ef; cases ef
 | some d =>
  rw [e1] at ef
  cases e2 : fk ρ with
  | none=>rw [e2] at ef; cases ef
  | some x =>
   rw [e2] at ef
   cases e3 : zi3 x with
   | none=>rw [Option.bind_some,Option.bind_some,e3] at ef; cases ef
   | some ky =>
    rw [Option.bind_some,Option.bind_some,e3] at ef
    replace ef : (match ρ[i]? with | some (.ownd ks xs)=>if ks.length < 16777216 then some (Fl.nx (ρ.set i (.ownd (zeu ks ky) (zff ks xs ky d)))) else none | _=>none) = some o:=ef
    split at ef
    ·rename_i ks xs es
     split at ef
     ·rename_i hl
      cases ef
      refine ⟨Hf0,H0,Hf,ρ,d,so,e1,fun v Hf1 H1 x1 r1=>?_⟩
      have so1:=so.step x1
      obtain ⟨l,el,h0,hf,vs,q,z,r⟩:=so1.ownAt rfl es
      refine ⟨_,el,Hf0,H0,Hf1,ρ,x,so1,e2,fun y Hf2 H2 x2 r2=>?_⟩
      have so2:=so1.step x2
      have q2:=x2.h _ _ q
      have ey:=zu8 e3 r2
      subst ey
      refine ⟨l,_,rfl,zhf.k q2 (by rw [sizeLine_eq,List.length_zip]; omega),?_⟩
      refine k σ Hf2 _ (x1.f.trans x2.f) (so2.mutd (s:=.ownd ks xs) (s':=.ownd (zeu ks ky) (zff ks xs ky d)) rfl rfl es el ⟨zff ks vs ky v,?_,z46 z,(r.up x2.f).put (r1.up x2.f)⟩)
      rw [zbm,z6s z]
     ·cases ef
    ·cases ef
theorem z4o (hu : X.A.units + 64 < cLine) {i : Nat} {fk fv : List Sl -> Option D} (ho : PE X e (zd8 i)) (hk : DE c X i' fk) (hv : DE c X value fv) (hs : swapsWith value (some (.Subscript e i' pos')) pos.line X.env = pure false:=by rfl) :
  DS c X (.Assign [.Subscript e i' pos'] value pos) (zhg i fk fv):=zxf (z4c (by omega) ho hk hv hs)
theorem z6q {k : Key} : ∀ {ks : List Key} {vs : List V},ks.length = vs.length -> (zet (ks.zip vs) k).isSome = zd5 ks k:=fun {ks vs} h=>by
 rw [<- znv,zop h]
theorem z0l (hu : X.A.units + 64 < cLine) {f g : List Sl -> Option D} (ha : DE c X a f) (hb : DE c X b g) (hm : behindInMarks .In b = false:=by first | exact zr8 _ (by decide) (by decide) | rfl) : DE c X (.Compare a [.In] [b] pos) (m2 zqh f g) :=
 PE.imp (z0m (zvq (by omega) ha hb) hm) fun σ H Q q_=>by
  obtain ⟨Hf0,H0,Hf,ρ,d,st,ef,k⟩:=q_
  obtain ⟨x,y,e1,e2,e3⟩:=zl8 ef
  refine ⟨Hf0,H0,Hf,ρ,x,st,e1,fun v Hf1 H1 x1 r1=>⟨Hf0,H0,Hf1,ρ,y,st.step x1,e2,fun u Hf2 H2 x2 r2=>?_⟩⟩
  unfold zqh at e3
  cases ek : zi3 x with
  | none=>rw [ek] at e3; cases e3
  | some ky =>
   rw [ek] at e3
   cases y with
   | dic ks xs =>
    cases e3
    obtain ⟨l,vs,el,q,z,r⟩:=r2
    have ev:=zu8 ek r1
    subst ev el
    refine ⟨l,_,rfl,zhq.k (x2.s _ _ q),k _ Hf2 H2 (x1.trans x2) ?_⟩
    rw [z6q z]
    rfl
   | _=>cases e3
end
noncomputable def zfu (i : Nat) (fk fv : List Sl -> Option D) (ρ : List Sl) : Option Fl:=(fv ρ).bind fun d=>(fk ρ).bind fun x=>match x with
 | .int k=>(match ρ[i]? with
  | some (.own xs)=>(ixN xs.length k).map fun j=>.nx (ρ.set i (.own (xs.set j d)))
  | _=>none)
 | _=>none
section
variable {c : Str -> Addr} {X : Cx} {st : Stmt} {e a b i' value : Expr} {pos pos' : Pos}
theorem zy7 {i : Nat} {fk fv : List Sl -> Option D} (hp : PS X st (zh5 (tD (Gx c X) fv) (zud (zd8 i) (tD (Gx c X) fk) zq5))) : DS c X st (zfu i fk fv):=PS.imp hp fun E σ H q_=>by
 obtain ⟨Hf0,H0,Hf,ρ,o,so,ef,k⟩:=q_
 unfold zfu at ef
 cases e1 : fv ρ with
 | none=>rw [e1] at ef; cases ef
 | some d =>
  rw [e1] at ef
  cases e2 : fk ρ with
  | none=>rw [e2] at ef; cases ef
  | some x =>
   rw [e2] at ef
   obtain ⟨ky,rfl⟩ : ∃ ky,x = .int ky:=by cases x <;> first | exact ⟨_,rfl⟩ | cases ef
   replace ef : (match ρ[i]? with | some (.own xs)=>(ixN xs.length ky).map fun j=>Fl.nx (ρ.set i (.own (xs.set j d))) | _=>none) = some o:=ef
   split at ef
   ·rename_i xs es
    cases ej : ixN xs.length ky with
    | none=>rw [ej] at ef; cases ef
    | some j =>
     rw [ej] at ef
     cases ef
     refine ⟨Hf0,H0,Hf,ρ,d,so,e1,fun v Hf1 H1 x1 r1=>?_⟩
     have so1:=so.step x1
     obtain ⟨l,el,h0,hf,vs,q,r⟩:=so1.ownAt rfl es
     refine ⟨_,el,Hf0,H0,Hf1,ρ,.int ky,so1,e2,fun y Hf2 H2 x2 r2=>?_⟩
     have so2:=so1.step x2
     have q2:=x2.h _ _ q
     refine ⟨l,vs,ky,j,rfl,r2,q2,by rw [<- r.length]; exact ej,?_⟩
     exact k σ Hf2 _ (x1.f.trans x2.f) (so2.mutd (s:=.own xs) (s':=.own (xs.set j d)) rfl rfl es el ⟨vs.set j v,zbm,(r.up x2.f).set j (r1.up x2.f)⟩)
   ·cases ef
theorem zm1 {i : Nat} {fk fv : List Sl -> Option D} (ho : PE X e (zd8 i)) (hk : DE c X i' fk) (hv : DE c X value fv) (hs : swapsWithSole [.Subscript e i' pos'] value pos.line X.env = pure false:=by rfl) (hw : swappedStores [.Subscript e i' pos'] value X.env = pure none:=by rfl)
  (h1 : (assignEach [.Subscript e i' pos'] X.env).map (·.2) = [assign (.Subscript e i' pos') X.env]:=by rfl)
  (ha : ∀ v,assign (.Subscript e i' pos') X.env v = (do
   let ov <- holding [v] (eval e X.env)
   let iv <- holding [v,ov] (eval i' X.env)
   standAt pos'
   holding [v,ov,iv] (setItem ov iv v)
   release [v,ov,iv] []):=by intro _; rfl) :
  DS c X (.Assign [.Subscript e i' pos'] value pos) (zfu i fk fv):=zy7 (zsy hv (z5m ho hk zxb ha) hs hw h1)
end
theorem zn0 {G : Gc} {H : Hp} {f : D -> D -> Option Bool} (hf : ∀ (d1 d2 x : D) (b1 b2 : Bool) (v : V),Rep G H d1 v -> Rep G H d2 v -> f d1 x = some b1 -> f d2 x = some b2 -> b1 = b2) :
  ∀ {xs1 xs2 ys : List D} {b1 b2 : Bool} {vs : List V},zai G H xs1 vs -> zai G H xs2 vs -> zb5 f xs1 ys = some b1 -> zb5 f xs2 ys = some b2 -> b1 = b2
 | [],[],[],_,_,_,_,_,h1,h2=>by cases h1; cases h2; rfl
 | [],[],_ :: _,_,_,_,_,_,h1,h2=>by cases h1; cases h2; rfl
 | [],_ :: _,_,_,_,_,r1,r2,_,_=>by have:=r1.length; have:=r2.length; simp at *; omega
 | _ :: _,[],_,_,_,_,r1,r2,_,_=>by have:=r1.length; have:=r2.length; simp at *; omega
 | _ :: _,_ :: _,[],_,_,_,_,_,h1,h2=>by cases h1; cases h2; rfl
 | d1 :: xs1,d2 :: xs2,y :: ys,b1,b2,vs,r1,r2,h1,h2=>by
  obtain ⟨v,r,e,p1,q1⟩:=r1
  obtain ⟨v',r',e',p2,q2⟩:=r2
  subst e
  cases e'
  obtain ⟨a1,a2,e1,e2,rfl⟩:=zlf h1
  obtain ⟨c1,c2,g1,g2,rfl⟩:=zlf h2
  have z1 : a1 = c1:=hf _ _ _ _ _ _ p1 p2 e1 g1
  have z2 : a2 = c2:=zn0 (f:=f) hf q1 q2 e2 g2
  rw [z1,z2]
noncomputable def vD : V -> D
 | .bl b=>.bl b
 | .int i=>.int i
 | .str x=>.str x
 | _=>.non
theorem ztj {G : Gc} {H : Hp} {d : D} {v : V} (s : d.scalar = true) (r : Rep G H d v) : d = vD v:=by
 cases d <;> first | (cases s; done) | (rw [show v = _ from r]; rfl)
theorem zln {G : Gc} {H : Hp} {d : D} {a : Addr} (s : d.scalar = true) (r : Rep G H d (.ref a)) : False:=by
 cases d <;> first | (cases s; done) | (cases (show _ = _ from r))
theorem zm2 {G : Gc} {H : Hp} : ∀ (n : Nat) {d1 d2 x : D} {b1 b2 : Bool} {v : V},Rep G H d1 v -> Rep G H d2 v -> deq n d1 x = some b1 -> deq n d2 x = some b2 -> b1 = b2
 | 0,_,_,_,_,_,_,_,_,h,_=>by cases h
 | n + 1,d1,d2,x,b1,b2,v,r1,r2,h1,h2=>by
  replace h1 : zh7 (deq n) d1 x = some b1:=h1
  replace h2 : zh7 (deq n) d2 x = some b2:=h2
  have L : ∀ {xs ys : List D},d1 = .lst xs -> d2 = .lst ys -> b1 = b2:=fun {xs ys} e1 e2=>by
   subst e1 e2
   obtain ⟨a,vs,e,q,rs⟩:=r1
   obtain ⟨a',vs',e',q',rs'⟩:=r2
   rw [e] at e'; cases e'
   rw [q] at q'; cases q'
   have l1:=rs.length
   have l2:=rs'.length
   cases x with
   | lst zs =>
    replace h1 : (if xs.length = zs.length then zb5 (deq n) xs zs else some false) = some b1:=h1
    replace h2 : (if ys.length = zs.length then zb5 (deq n) ys zs else some false) = some b2:=h2
    by_cases hl : xs.length = zs.length
    ·rw [if_pos hl] at h1
     rw [if_pos (by omega)] at h2
     exact zn0 (f:=deq n) (fun _ _ _ _ _ _=>zm2 n) rs rs' h1 h2
    ·rw [if_neg hl] at h1
     rw [if_neg (by omega)] at h2
     cases h1; cases h2; rfl
   | _=>cases h1
  have T : ∀ {xs ys : List D},d1 = .tup xs -> d2 = .tup ys -> b1 = b2:=fun {xs ys} e1 e2=>by
   subst e1 e2
   obtain ⟨a,vs,e,q,rs⟩:=r1
   obtain ⟨a',vs',e',q',rs'⟩:=r2
   rw [e] at e'; cases e'
   rw [q] at q'; cases q'
   have l1:=rs.length
   have l2:=rs'.length
   cases x with
   | tup zs =>
    replace h1 : (if xs.length = zs.length then zb5 (deq n) xs zs else none) = some b1:=h1
    replace h2 : (if ys.length = zs.length then zb5 (deq n) ys zs else none) = some b2:=h2
    by_cases hl : xs.length = zs.length
    ·rw [if_pos hl] at h1
     rw [if_pos (by omega)] at h2
     exact zn0 (f:=deq n) (fun _ _ _ _ _ _=>zm2 n) rs rs' h1 h2
    ·rw [if_neg hl] at h1
     cases h1
   | _=>cases h1
  have no : ∀ {d : D} {b : Bool},zh7 (deq n) d x = some b -> d.scalar = true \/ (∃ xs,d = .lst xs) \/ ∃ xs,d = .tup xs:=fun {d b} h=>by
   cases d with
   | lst xs=>exact .inr (.inl ⟨xs,rfl⟩)
   | tup xs=>exact .inr (.inr ⟨xs,rfl⟩)
   | non=>exact .inl rfl
   | bl b=>exact .inl rfl
   | int i=>exact .inl rfl
   | str i=>exact .inl rfl
   | _=>cases x <;> cases h
  rcases no h1 with s1 | ⟨xs,e1⟩ | ⟨xs,e1⟩
  ·have : d1 = d2:=by
    rcases no h2 with s2 | ⟨ys,e2⟩ | ⟨ys,e2⟩
    ·rw [ztj s1 r1,<- ztj s2 r2]
    ·subst e2; obtain ⟨a,_,e,_⟩:=r2; subst e; exact (zln s1 r1).elim
    ·subst e2; obtain ⟨a,_,e,_⟩:=r2; subst e; exact (zln s1 r1).elim
   subst this
   rw [h1] at h2; cases h2; rfl
  ·rcases no h2 with s2 | ⟨ys,e2⟩ | ⟨ys,e2⟩
   ·subst e1; obtain ⟨a,_,e,_⟩:=r1; subst e; exact (zln s2 r2).elim
   ·exact L e1 e2
   ·subst e1 e2
    obtain ⟨a,vs,e,q,rs⟩:=r1
    obtain ⟨a',vs',e',q',rs'⟩:=r2
    rw [e] at e'; cases e'
    rw [q] at q'; cases q'
  ·rcases no h2 with s2 | ⟨ys,e2⟩ | ⟨ys,e2⟩
   ·subst e1; obtain ⟨a,_,e,_⟩:=r1; subst e; exact (zln s2 r2).elim
   ·subst e1 e2
    obtain ⟨a,vs,e,q,rs⟩:=r1
    obtain ⟨a',vs',e',q',rs'⟩:=r2
    rw [e] at e'; cases e'
    rw [q] at q'; cases q'
   ·exact T e1 e2
noncomputable def zfm (x : D) : List D -> Option Bool
 | []=>some false
 | d :: ds=>(deq 19 d x).bind fun b=>(zfm x ds).map fun r=>b || r
theorem zs7 {x d : D} {ds : List D} {b : Bool} (h : zfm x (d :: ds) = some b) : ∃ b1 b2,deq 19 d x = some b1 /\ zfm x ds = some b2 /\ b = (b1 || b2):=by
 unfold zfm at h
 cases e1 : deq 19 d x with
 | none=>rw [e1] at h; cases h
 | some b1 =>
  cases e2 : zfm x ds with
  | none=>rw [e1,e2] at h; cases h
  | some b2=>rw [e1,e2] at h; cases h; exact ⟨b1,b2,rfl,rfl,rfl⟩
theorem zn6 {α : Type} {f g : α -> Bool} : ∀ {l : List α},(∀ x ∈ l,f x = g x) -> l.any f = l.any g
 | [],_=>rfl
 | x :: l,h=>by rw [List.any_cons,List.any_cons,h x List.mem_cons_self,zn6 fun y hy=>h y (List.mem_cons_of_mem _ hy)]
section
variable {c : Str -> Addr} {X : Cx}
open Classical in
theorem zqn {pins : List (Addr × Obj)} {σ : St} {H : Hp} {s : Shared} {A : Around} {x : D} {vx : V} {u : Value} (I : Inv X pins σ H s) (hu : A.units + 19 < cLine) (rx : Rep (Gx c X) H x vx) (ru : zaw vx u) :
  ∀ {ds : List D} {vs : List V} {us : List Value} {b : Bool},zai (Gx c X) H ds vs -> zas vs us -> zfm x ds = some b ->
   ∃ f : Value -> Bool,(∀ y ∈ us,SeqAt.EqAt A s y u (f y) /\ ∃ d v,Rep (Gx c X) H d v /\ zaw v y /\ deq 19 d x = some (f y)) /\ us.any f = b
 | [],_,_,b,r,rv,h=>by
  cases (show _ = [] from r)
  cases rv
  cases h
  exact ⟨fun _=>false,(fun y hy=>by cases hy),rfl⟩
 | d :: ds,_,_,b,⟨v,r',ev,r1,r2⟩,rv,h=>by
  subst ev
  obtain ⟨b1,b2,h1,h2,rfl⟩:=zs7 h
  cases rv with
  | @cons _ y _ us rvy rvs =>
   obtain ⟨f,hf,ha⟩:=zqn I hu rx ru r2 rvs h2
   have eqy : SeqAt.EqAt A s y u b1:=zpk I 19 hu h1 r1 rx rvy ru
   refine ⟨fun z=>if z = y then b1 else f z,fun z hz=>?_,?_⟩
   ·by_cases e : z = y
    ·subst e
     simp only [if_true]
     exact ⟨eqy,d,v,r1,rvy,h1⟩
    ·simp only [e,if_false]
     exact hf z ((List.mem_cons.mp hz).resolve_left e)
   ·rw [List.any_cons,if_pos rfl,<- ha]
    congr 1
    by_cases hy : y ∈ us
    ·obtain ⟨_,d',v',r',rv',h'⟩:=hf y hy
     have ev : v' = v:=zaw.inj rv' rvy
     subst ev
     have eb : f y = b1:=zm2 19 r' r1 h' h1
     refine zn6 fun z hz=>?_
     by_cases e : z = y
     ·subst e; simp [eb]
     ·simp [e]
    ·refine zn6 fun z hz=>?_
     have e : z ≠ y:=fun q=>hy (q ▸ hz)
     simp [e]
end
noncomputable def Ris (xs : Array Nat) : Prop:=xs.toList.Pairwise (· < ·)
theorem z7q {xs : Array Nat} (h : Ris xs) {a b j : Nat} (hab : a < b) (hb : b < xs.size) : xs.getD a j < xs.getD b j:=by
 have h1:=List.pairwise_iff_getElem.mp h a b (by simpa using Nat.lt_trans hab hb) (by simpa using hb) hab
 rw [Array.getD,Array.getD,dif_pos (Nat.lt_trans hab hb),dif_pos hb]
 simpa using h1
theorem zoo {xs : Array Nat} (h : Ris xs) {a b j : Nat} (hab : a <= b) (hb : b < xs.size) : xs.getD a j <= xs.getD b j:=by
 rcases Nat.eq_or_lt_of_le hab with e | e
 ·subst e; exact Nat.le_refl _
 ·exact Nat.le_of_lt (z7q h e hb)
theorem zpo {xs : Array Nat} {j : Nat} (h : Ris xs) : ∀ (fuel lo hi : Nat),lo <= hi -> hi <= xs.size -> hi - lo <= fuel -> (∀ i,i < lo -> xs.getD i j < j) -> (∀ i,hi <= i -> i < xs.size -> ¬ xs.getD i j < j) ->
  SetTable.below.go xs j fuel lo hi <= xs.size /\ (∀ i,i < SetTable.below.go xs j fuel lo hi -> xs.getD i j < j) /\ ∀ i,SetTable.below.go xs j fuel lo hi <= i -> i < xs.size -> ¬ xs.getD i j < j
 | 0,lo,hi,h1,h2,h3,h4,h5=>by
  have e : lo = hi:=by omega
  subst e
  exact ⟨h2,h4,h5⟩
 | fuel + 1,lo,hi,h1,h2,h3,h4,h5=>by
  unfold SetTable.below.go
  by_cases hl : lo < hi
  ·rw [if_pos hl]
   by_cases hm : xs.getD ((lo + hi) / 2) j < j
   ·simp only [hm,if_true]
    refine zpo h fuel ((lo + hi) / 2 + 1) hi (by omega) h2 (by omega) (fun i hi'=>?_) h5
    exact Nat.lt_of_le_of_lt (zoo h (by omega) (by omega)) hm
   ·simp only [hm,if_false]
    refine zpo h fuel lo ((lo + hi) / 2) (by omega) (by omega) (by omega) h4 fun i hi' hs hc=>?_
    exact hm (Nat.lt_of_le_of_lt (zoo h hi' hs) hc)
  ·rw [if_neg hl]
   have e : lo = hi:=by omega
   subst e
   exact ⟨h2,h4,h5⟩
theorem z7p {xs : Array Nat} (h : Ris xs) (j : Nat) : SetTable.below xs j <= xs.size /\ (∀ i,i < SetTable.below xs j -> xs.getD i j < j) /\ ∀ i,SetTable.below xs j <= i -> i < xs.size -> ¬ xs.getD i j < j :=
 zpo h xs.size 0 xs.size (Nat.zero_le _) (Nat.le_refl _) (by omega) (fun i hi=>by omega) fun i hi hs=>by omega
theorem z7j {xs : Array Nat} (h : Ris xs) {j : Nat} (hn : xs[SetTable.below xs j]? ≠ some j) : Ris (SetTable.insertAt xs (SetTable.below xs j) j):=by
 obtain ⟨h1,h2,h3⟩:=z7p h j
 unfold Ris SetTable.insertAt
 have g : ∀ i,(hi : i < xs.size) -> xs.getD i j = xs[i]:=fun i hi=>by rw [Array.getD,dif_pos hi]; rfl
 rw [Array.toList_append,Array.toList_push,Array.toList_extract,Array.toList_extract]
 simp only [List.extract_eq_drop_take,Nat.sub_zero,List.drop_zero]
 have hlt : ∀ x ∈ xs.toList.take (SetTable.below xs j),x < j:=fun x hx=>by
  obtain ⟨i,hi,e⟩:=List.mem_take_iff_getElem.mp hx
  have hi' : i < SetTable.below xs j:=by omega
  have:=h2 i hi'
  rw [g i (by omega)] at this
  rw [<- e]
  simpa using this
 have hgt : ∀ x ∈ xs.toList.drop (SetTable.below xs j),j < x:=fun x hx=>by
  obtain ⟨i,hi,e⟩:=List.mem_drop_iff_getElem.mp hx
  have hs : SetTable.below xs j + i < xs.size:=by simpa [Nat.add_comm] using hi
  have a:=h3 (SetTable.below xs j + i) (by omega) hs
  rw [g _ hs] at a
  have ex : x = xs[SetTable.below xs j + i]:=by rw [<- e]; simp
  rw [ex]
  rcases Nat.lt_or_ge j xs[SetTable.below xs j + i] with q | q
  ·exact q
  ·exfalso
   have ej : xs[SetTable.below xs j + i] = j:=by omega
   have hb : SetTable.below xs j < xs.size:=by omega
   have b:=zoo h (j:=j) (show SetTable.below xs j <= SetTable.below xs j + i by omega) hs
   rw [g _ hs,g _ hb,ej] at b
   have c:=h3 (SetTable.below xs j) (Nat.le_refl _) hb
   rw [g _ hb] at c
   exact hn (by rw [Array.getElem?_eq_getElem hb]; congr 1; omega)
 have ed : List.take (xs.size - SetTable.below xs j) (List.drop (SetTable.below xs j) xs.toList) = List.drop (SetTable.below xs j) xs.toList:=List.take_of_length_le (by simp)
 rw [ed]
 refine List.pairwise_append.mpr ⟨List.pairwise_append.mpr ⟨List.Pairwise.sublist (List.take_sublist _ _) h,by simp,fun a ha b hb=>?_⟩,List.Pairwise.sublist (List.drop_sublist _ _) h,fun a ha b hb=>?_⟩
 ·have : b = j:=by simpa using hb
  subst this; exact hlt a ha
 ·rcases List.mem_append.mp ha with ha | ha
  ·exact Nat.lt_trans (hlt a ha) (hgt b hb)
  ·have : a = j:=by simpa using ha
   subst this; exact hgt b hb
theorem z5y (n : Nat) : Ris (Array.range n):=by
 unfold Ris
 rw [Array.toList_range]
 exact List.pairwise_lt_range
theorem zsz {t : SetTable} {j : Nat} (h : t.slot j = .empty \/ t.slot j = .dummy) : t.place[SetTable.below t.place j]? ≠ some j:=fun e=>by
 have : t.slot j = .live (SetTable.below t.place j):=by
  unfold SetTable.slot
  simp only [e,beq_self_eq_true,if_true]
 rw [this] at h
 rcases h with h | h <;> cases h
theorem znx {t : SetTable} {h : Int} : ∀ (fuel : Nat) (p : SetTable.Probe) {j : Nat} {d : Option Nat},(∀ d',p.dummy = some d' -> t.place[SetTable.below t.place d']? ≠ some d') -> SetTable.probe.go t (fun _=>h + 1) h fuel p = some (.empty j d) ->
  t.place[SetTable.below t.place j]? ≠ some j /\ ∀ d',d = some d' -> t.place[SetTable.below t.place d']? ≠ some d'
 | 0,_,_,_,_,e=>by cases e
 | fuel + 1,p,j,d,hd,e=>by
  unfold SetTable.probe.go at e
  split at e
  ·rename_i hs
   cases e
   exact ⟨zsz (.inl hs),hd⟩
  ·rename_i hs
   refine znx fuel _ (fun d' q=>?_) e
   have : d' = p.j:=by
    unfold SetTable.advance at q
    split at q
    ·exact (Option.some.inj q).symm
    ·exact (Option.some.inj q).symm
   subst this
   exact zsz (.inr hs)
  ·rename_i i hs
   split at e
   ·cases e
   ·refine znx fuel _ (fun d' q=>hd d' ?_) e
    unfold SetTable.advance at q
    split at q <;> exact q
theorem z6z {t : SetTable} {h : Int} {j : Nat} {w : Bool} (e : t.freeSlot h = some (j,w)) : t.place[SetTable.below t.place j]? ≠ some j:=by
 unfold SetTable.freeSlot at e
 split at e
 ·rename_i j' d hp
  obtain ⟨h1,h2⟩:=znx _ _ (fun d' q=>by cases q) hp
  cases d with
  | none=>cases e; exact h1
  | some d'=>cases e; exact h2 _ rfl
 ·cases e
theorem zmx (t : SetTable) (n : Nat) : Ris (t.standIn n).place /\ (t.standIn n).led = t.led:=⟨z5y n,rfl⟩
theorem z4b {t : SetTable} (n : Nat) (h : Ris t.place) : Ris (t.orStandIn n).place /\ (t.orStandIn n).led = t.led:=by
 unfold SetTable.orStandIn
 split
 ·exact ⟨h,rfl⟩
 ·exact zmx t n
theorem zwn {t : SetTable} (es : Array (Int × Value)) (h : Int) (x : Value) (hr : Ris t.place) : Ris (layNew t es h x).2.1.place /\ (layNew t es h x).2.1.led = t.led:=by
 unfold layNew
 split
 ·rename_i slot wd hf
  exact z4b (t:=(t.put slot).1) _ (z7j hr (z6z hf))
 ·exact zmx t _
theorem z8m {mask finger moves : Nat} {led plain : Bool} {hashes : Array Int} {t' : SetTable} {order : Array Nat} (e : SetTable.laid mask finger moves led plain hashes = some (t',order)) : Ris t'.place /\ t'.led = led:=by
 unfold SetTable.laid at e
 cases ho : SetTable.layClean mask hashes with
 | none=>rw [ho] at e; cases e
 | some owner =>
  rw [ho] at e
  cases e
  refine ⟨?_,rfl⟩
  unfold Ris
  show List.Pairwise _ (List.map _ _)
  rw [List.pairwise_map,List.pairwise_filterMap]
  refine List.Pairwise.imp (fun {a b} hab=>?_) List.pairwise_lt_range
  intro p hp q hq
  cases ha : owner.getD a none with
  | none=>rw [ha] at hp; cases hp
  | some ka =>
   cases hb : owner.getD b none with
   | none=>rw [hb] at hq; cases hq
   | some kb=>rw [ha] at hp; rw [hb] at hq; cases hp; cases hq; exact hab
theorem zvm {t : SetTable} (es : Array (Int × Value)) (wanted : Nat) : Ris (relayAll t es wanted).2.1.place /\ (relayAll t es wanted).2.1.led = t.led:=by
 unfold relayAll
 split
 ·rename_i t' order hl
  have hr : Ris t'.place /\ t'.led = t.led:=z8m hl
  dsimp only
  split
  ·exact hr
  ·exact zmx t _
 ·exact zmx t _
noncomputable def zdm (P : Program) (w : World) (h : Heap) (a : Addr) (led : Bool) (S : Int -> Bool) (n : Nat) : Prop :=
 ∃ o ents ep tb,h.get? a = some o /\ o.ExactSet /\ o.data = .set ents ep tb /\ ElemsOf (intKind P w) ents.toList /\ (∀ k,S k = true ↔ ∃ e ∈ ents.toList,(intKind P w).is k e.2 = true)
  /\ ents.size < scanBound /\ tb.fits ents.size = true /\ ents.size = n /\ Ris tb.place /\ tb.led = led
section
variable {P : Program} {w : World} {A : Around} {E : Value -> Shared -> Prop} {s : Shared}
theorem zdm.stay {h h' : Heap} {a : Addr} {led : Bool} {S : Int -> Bool} {n : Nat} (q : zdm P w h a led S n) (k : ∀ o,h.get? a = some o -> h'.get? a = some o) : zdm P w h' a led S n:=by
 obtain ⟨o,ents,ep,tb,ho,r⟩:=q
 exact ⟨o,ents,ep,tb,k o ho,r⟩
theorem zdm.congr {h : Heap} {a : Addr} {led : Bool} {S S' : Int -> Bool} {n n' : Nat} (q : zdm P w h a led S n) (e : ∀ k,S k = S' k) (en : n = n') : zdm P w h a led S' n':=by
 have : S = S':=funext e
 subst this en
 exact q
theorem zt6 {h : Heap} {a : Addr} {o : Obj} {ents ents' : Array (Int × Value)} {ep : Nat} {tb tb' : SetTable} {led : Bool} {S : Int -> Bool} (ho : h.get? a = some o) (hex : o.ExactSet) (hd : o.data = .set ents ep tb)
  (hel : ElemsOf (intKind P w) ents'.toList) (hm : ∀ k,S k = true ↔ ∃ e ∈ ents'.toList,(intKind P w).is k e.2 = true) (hb : ents'.size < scanBound) (hf : tb'.fits ents'.size = true) (hr : Ris tb'.place) (hled : tb'.led = led) :
  (h.update a (Obj.putSet ents' tb')).get? a = some { o with data:=.set ents' (ep + 1) tb' } /\ zdm P w (h.update a (Obj.putSet ents' tb')) a led S ents'.size:=by
 have g1:=(SetOf_store (knd:=intKind P w) ho hex hd hel hm hb hf).1
 exact ⟨g1,_,ents',ep + 1,tb',g1,hex,rfl,hel,hm,hb,hf,rfl,hr,hled⟩
theorem zus {g : Bool -> Sem Unit} (hg : ∀ (b : Bool) (s₁ : Shared) (Q' : Unit -> Shared -> Prop),Q' () s₁ -> wpAny (model P w) A (g b) Q' E s₁) {a : Addr} {o : Obj} {ents ents1 : Array (Int × Value)} {ep : Nat} {tb tb1 : SetTable} {led : Bool} {S : Int -> Bool}
  (ho : s.heap.get? a = some o) (hex : o.ExactSet) (hd : o.data = .set ents ep tb) (hel : ElemsOf (intKind P w) ents1.toList) (hm : ∀ k,S k = true ↔ ∃ e ∈ ents1.toList,(intKind P w).is k e.2 = true)
  (hb : ents1.size < scanBound) (hf : tb1.fits ents1.size = true) (hr : Ris tb1.place) (hled : tb1.led = led) {dm : Bool} {R : Option Bool -> Shared -> Prop}
  (h : ∀ h',Heap.SameBut a s.heap h' -> zdm P w h' a led S ents1.size -> R (some true) { s with heap:=h' }) :
  wpAny (model P w) A (do
    storeSet a ents1 tb1
    if (!dm && tb1.tooFull) = true then do
      g (relayAll tb1 ents1 (SetTable.grown ents1.size)).2.2
      storeSet a (relayAll tb1 ents1 (SetTable.grown ents1.size)).1 (relayAll tb1 ents1 (SetTable.grown ents1.size)).2.1
      pure (some true)
     else pure (some true)) R E s:=by
 refine wpAny_bind (wpAny_storeSet_of ho hd ?_ (fits_of_scanBound hb))
 obtain ⟨ho1,q1⟩:=zt6 (P:=P) (w:=w) ho hex hd hel hm hb hf hr hled
 have sb:=Heap.SameBut.update s.heap a (Obj.putSet ents1 tb1)
 split
 ·have pp:=relayAll_perm tb1 ents1 (SetTable.grown ents1.size)
  have ff:=relayAll_fits tb1 ents1 (SetTable.grown ents1.size)
  have rr:=zvm (t:=tb1) ents1 (SetTable.grown ents1.size)
  generalize relayAll tb1 ents1 (SetTable.grown ents1.size) = z at pp ff rr ⊢
  obtain ⟨ents2,tb2,gv⟩:=z
  dsimp only at pp ff rr ⊢
  have zz : ents2.size = ents1.size:=by rw [<- Array.length_toList,pp.length_eq,Array.length_toList]
  refine wpAny_bind (hg _ _ _ (wpAny_bind (wpAny_storeSet_of ho1 rfl ?_ (fits_of_scanBound (by rw [zz]; exact hb)))))
  have q2:=(zt6 (P:=P) (w:=w) (led:=led) (S:=S) ho1 hex rfl (hel.perm pp) (fun k=>(hm k).trans ⟨fun ⟨e,he,q⟩=>⟨e,pp.mem_iff.mpr he,q⟩,fun ⟨e,he,q⟩=>⟨e,pp.mem_iff.mp he,q⟩⟩) (by rw [zz]; exact hb) ff rr.1 (rr.2.trans hled)).2
  rw [zz] at q2
  exact wpAny_pure (h _ (sb.trans (Heap.SameBut.update _ a _)) q2)
 ·exact wpAny_pure (h _ sb q1)
theorem z3u {a : Addr} {led : Bool} {S : Int -> Bool} {n : Nat} {k : Int} {x : Value} {Q : Bool -> Shared -> Prop} (hk : (intKind P w).is k x = true) (hx : x.scannable = true) (q : zdm P w s.heap a led S n) (room : n + 1 < scanBound)
  (h : ∀ h',Heap.SameBut a s.heap h' -> zdm P w h' a led (fun k'=>S k' || decide (k' = k)) (if S k then n else n + 1) -> Q (!S k) { s with heap:=h' }) : wpAny (model P w) A (setAddHashed a x ((intKind P w).hash k)) Q E s:=by
 obtain ⟨o,ents,ep,tb,ho,hex,hd,hel,hm,hb,hf,hn,hr,hled⟩:=q
 unfold setAddHashed setAddHashedIn
 refine wpAny_holding (wpAny_bind (wpAny_setState_of ho hd hf ?_))
 dsimp only
 rw [byScan_of hx hb hel,if_pos rfl]
 unfold setAddByScan
 refine wpAny_bind (wpAny_bind (wpAny_rule (wpAny_bind (wpAny_setScan_of hk ho hd hf hel ?_))))
 cases hi : List.findIdx? (fun e=>(intKind P w).is k e.2) ents.toList with
 | some j =>
  dsimp only
  obtain ⟨hj,pj,_⟩:=List.findIdx?_eq_some_iff_getElem.mp hi
  have sk : S k = true:=(hm k).mpr ⟨ents.toList[j],List.getElem_mem hj,pj⟩
  refine wpAny_pure (wpAny_pure ?_)
  have es : s = { s with heap:=s.heap }:=by cases s; rfl
  have fin:=h s.heap (Heap.SameBut.refl a s.heap) ⟨o,ents,ep,tb,ho,hex,hd,hel,fun k'=>by
   rw [Bool.or_eq_true,decide_eq_true_eq,<- hm k']
   exact ⟨fun z=>z.elim id (fun e=>e ▸ sk),.inl⟩,hb,hf,by rw [sk]; exact hn,hr,hled⟩
  rw [sk] at fin
  rw [es]
  exact fin
 | none =>
  dsimp only
  have sk : S k = false:=by
   cases hs : S k with
   | false=>rfl
   | true =>
    obtain ⟨e,he,pe⟩:=(hm k).mp hs
    have:=List.findIdx?_eq_none_iff.mp hi e he
    rw [pe] at this
    cases this
  have gw : ∀ (b : Bool) (s₁ : Shared) (Q' : Unit -> Shared -> Prop),Q' () s₁ -> wpAny (model P w) A (match b with | true=>rule "set.scan.the-table-gave-way" | false=>pure ()) Q' E s₁ :=
   fun b s₁ Q' hq=>by cases b <;> first | exact wpAny_pure hq | exact wpAny_rule hq
  have pp:=layNew_perm tb ents ((intKind P w).hash k) x
  have ff:=layNew_fits tb ents ((intKind P w).hash k) x
  have rr:=zwn ents ((intKind P w).hash k) x hr
  generalize layNew tb ents ((intKind P w).hash k) x = z at pp ff rr ⊢
  obtain ⟨ents1,tb1,dm,gv⟩:=z
  dsimp only at pp ff rr ⊢
  rw [Array.toList_push] at pp
  have z1 : ents1.size = n + 1:=by rw [<- Array.length_toList,pp.length_eq,List.length_append,Array.length_toList,hn]; rfl
  have fin : ∀ h',Heap.SameBut a s.heap h' -> zdm P w h' a led (fun k'=>S k' || decide (k' = k)) ents1.size -> Q true { s with heap:=h' }:=fun h' sb q'=>by
   have:=h h' sb
   rw [sk] at this
   rw [z1] at q'
   exact this q'
  refine wpAny_bind (gw _ _ _ ?_)
  split
  ·refine wpAny_bind ?_
   rw [hashByValue_scannable 8 hx]
   refine wpAny_pure (zus (led:=led) (S:=fun k'=>S k' || decide (k' = k)) ?_ ho hex hd ((hel.push hk hx).perm pp) (mem_push_iff hk hm pp) (by rw [z1]; exact room) ?_ ?_ ?_ fun h' sb q'=>?_)
   ·exact fun b s₁ Q' hq=>by cases b <;> first | exact wpAny_pure hq | exact wpAny_rule hq
   ·split
    ·exact ff
    ·exact SetTable.fits_plain_off ff
   ·split
    ·exact rr.1
    ·exact rr.1
   ·split
    ·exact rr.2.trans hled
    ·exact rr.2.trans hled
   ·dsimp only
    exact wpAny_pure (fin h' sb q')
  ·refine wpAny_bind (wpAny_pure ?_)
   simp only [↓reduceIte]
   refine zus (led:=led) (S:=fun k'=>S k' || decide (k' = k)) ?_ ho hex hd ((hel.push hk hx).perm pp) (mem_push_iff hk hm pp) (by rw [z1]; exact room) ff rr.1 (rr.2.trans hled) fun h' sb q'=>?_
   ·exact fun b s₁ Q' hq=>by cases b <;> first | exact wpAny_pure hq | exact wpAny_rule hq
   ·dsimp only
    exact wpAny_pure (fin h' sb q')
end
set_option maxRecDepth 100000
noncomputable def zeh (w : World) : Bool:=!(w.params.followText "set-order")
section
variable {P : Program} {w : World} {A : Around} {R : Result -> Shared -> Prop} {I : Addr} {fp wr : List Addr} {G : Array GenState -> Array GenState -> Prop} {n : Nat} {Pv : Nat -> Value -> Prop} {St : Nat -> Shared -> Prop}
theorem z1y (W : WalksS P w A.in1 I fp wr G n Pv St) (S : Addr) (hS : S ∉ fp) {led : Bool} (val : Nat -> Int) (hv : ∀ i v,Pv i v -> ∃ t,v = .int (val i) t) (hb : n + 1 < scanBound) :
  ∀ (k i : Nat) (s : Shared),n - i = k -> i <= n -> St i s -> zdm P w s.heap S led (fun j=>(firstMet val i).any (· == j)) (firstMet val i).length ->
   (∀ s',Moved (S :: wr) G s s' -> zdm P w s'.heap S led (fun j=>(firstMet val n).any (· == j)) (firstMet val n).length -> R (.ok (.ret .none)) s') ->
   codeAny (model P w) A (.builtin "set.update.loop" ⟨[.ref S,.ref I],[]⟩) R s:=by
 have hw : S ∉ wr:=fun h=>hS (W.sub _ h)
 have sub : ∀ b ∈ wr,b ∈ S :: wr:=fun b h=>List.mem_cons_of_mem _ h
 intro k
 induction k with
 | zero =>
  intro i s hk hi st q fin
  obtain rfl : i = n:=by omega
  refine codeAny_builtin F.entry_set_update_loop ?_
  rw [Around.under_plainId F.plain_set_update_loop _]
  show wpAny _ A.in1 (pyNext (.ref I) >>= _) _ _ s
  refine wpAny_bind (W.done s _ _ st fun s' m=>?_)
  show wpAny _ A.in1 (ret Value.none) _ _ s'
  exact wpAny_pure (fin s' (m.mono sub) (q.stay fun o e=>m.heap S o hw e))
 | succ k ih =>
  intro i s hk hi st q fin
  have lt : i < n:=by omega
  refine codeAny_builtin F.entry_set_update_loop ?_
  rw [Around.under_plainId F.plain_set_update_loop _]
  show wpAny _ A.in1 (pyNext (.ref I) >>= _) _ _ s
  refine wpAny_bind (W.item i s _ _ lt st fun v s' hP st' m=>?_)
  obtain ⟨t,rfl⟩:=hv i v hP
  have q1:=q.stay fun o e=>m.heap S o hw e
  show wpAny _ A.in1 (holding [Value.int (val i) t] (setAdd S (.int (val i) t)) >>= _) _ _ s'
  refine wpAny_bind (wpAny_holding ?_)
  unfold setAdd
  refine wpAny_holding (wpAny_bind ((intKind P w).pyHash (k:=val i) (intKind_is _ _ _ _) ?_))
  have room : (firstMet val i).length + 1 < scanBound:=by have:=firstMet_length_le val i; omega
  refine z3u (s:={ s' with toks:=s'.toks + 1 }) (k:=val i) (intKind_is _ _ _ _) rfl q1 room fun h' sb q2=>?_
  have q3 : zdm P w h' S led (fun j=>(firstMet val (i + 1)).any (· == j)) (firstMet val (i + 1)).length:=q2.congr (fun j=>by rw [firstMet_succ,step_any]) (by rw [firstMet_succ,step_length])
  refine wpAny_pure ⟨plainId_quiet F.plain_set_update_loop _,ih (i + 1) _ (by omega) lt (W.frame _ s' _ _ st' (Nat.le_succ _) fun b hb' o e=>?_) q3 fun s2 m2 q4=>?_⟩
  ·rw [sb.2 b fun h=>hS (by rw [<- h]; exact hb')]; exact e
  ·refine fin s2 (Moved.trans W.gtrans ((m.mono sub).then_heap (Nat.le_succ _) fun b o hb' e=>?_) m2) q4
   rw [sb.2 b fun h=>hb' (by rw [h]; exact List.mem_cons_self)]; exact e
end
section
variable {P : Program} {w : World} {A : Around} {E : Value -> Shared -> Prop} {s : Shared}
noncomputable abbrev zfp (led : Bool) : Obj:={ cls:=.type "set",dict:=none,data:=.set #[] 0 (.fresh 0 0 led) }
theorem z6j (a : Value) {Q : Value -> Shared -> Prop} (h : Q (.ref s.heap.objs.size) { s with heap:=s.heap.push (zfp (zeh w)) }) :
  codeAny (model P w) A (.call (.builtin "set.__new__") ⟨[.type "set",a],[]⟩) (wants Q E) s:=by
 refine codeAny_of_tree ?_
 show wpAny _ A.in1 (do checkBuiltinCall "set.__new__" ⟨[.type "set",a],[]⟩; again (.builtin "set.__new__" ⟨[.type "set",a],[]⟩)) _ _ s
 refine wpAny_bind (wpAny_of_eq (F.newCall_set_1 a) (wpAny_pure ⟨plainId_quiet F.plain_set_new _,codeAny_builtin F.entry_set_new ?_⟩))
 rw [Around.under_plainId F.plain_set_new _]
 unfold Builtin.«set.__new__» Builtin.Frozenset.newClass
 have hsub:=sub_set_self
 obtain ⟨hp,g,d,tk,os⟩:=s
 dsimp only
 wp_walk
 refine wpAny_askSetting (wpAny_pure ?_)
 dsimp only
 simp only [newObj]
 refine wpAny_bind (wpAny_alloc (wpAny_pure ?_))
 exact wpAny_pure h
theorem z36 (h : Heap) (led : Bool) : zdm P w (h.push (zfp led)) h.objs.size led (fun _=>false) 0 :=
 ⟨_,#[],0,_,Heap.get?_push_size _ rfl,⟨rfl,rfl,rfl⟩,rfl,fun e he=>by simp at he,fun k=>by simp,by decide,rfl,rfl,by unfold Ris; simp [SetTable.fresh],rfl⟩
end
set_option maxRecDepth 100000
section
variable {P : Program} {w : World} {A : Around} {E : Value -> Shared -> Prop} {s : Shared}
set_option maxHeartbeats 8000000 in
theorem zyl {l : Addr} {items : Array Value} {ns : List Int} {Q : Value -> Shared -> Prop} (hh : A.handled = none) (hl : s.heap.IsList l items) (hi : IntsAre items.toList ns) (hb : items.size + 1 < scanBound)
  (h : ∀ (h' : Heap) (tk : Nat),zdm P w h' s.heap.objs.size (zeh w) (fun j=>(firstMet (fun i=>ns.getD i 0) items.size).any (· == j)) (firstMet (fun i=>ns.getD i 0) items.size).length ->
   (∀ b o,b < s.heap.objs.size -> s.heap.get? b = some o -> h'.get? b = some o) -> s.toks <= tk -> Q (.ref s.heap.objs.size) { s with heap:=h',toks:=tk }) :
  wpAny (model P w) A (call (.type "set") [.ref l]) Q E s:=by
 obtain ⟨c,tl,hmro⟩:=F.called_set.mro
 have hmade:=F.called_set.made
 have hsub:=F.called_set.sub
 refine wpAny_call (codeAny_of_tree ?_)
 show wpAny _ _ (callAny (.type "set") _) _ _ _
 refine wpAny_pure ⟨Code.quiet_builtin _ (by decide +kernel),codeAny_builtin F.entry_type_call ?_⟩
 rw [Around.under_plain (weight_type_call_type "set" [.ref l] []) rfl]
 have h1:=F.called_set.notType
 have h2:=F.called_set.canCreate
 have hct:=F.typeCall_set_1 (.ref l)
 repeat (any_goals (first | assumption | wp_step))
 refine codeAny_mono (z6j (.ref l) (E:=E) (Q:=fun ob s₁=>ob = .ref s.heap.objs.size /\ s₁ = { s with heap:=s.heap.push (zfp (zeh w)) }) ⟨rfl,rfl⟩) fun r s₁ hr=>?_
 cases r with
 | error e=>exact hr
 | ok fl =>
  cases fl with
  | ret ob =>
   obtain ⟨rfl,rfl⟩:=hr
   have g0 : (s.heap.push (zfp (zeh w))).get? s.heap.objs.size = some (zfp (zeh w)):=Heap.get?_push_size _ rfl
   have hT : Shared.TypeIs { s with heap:=s.heap.push (zfp (zeh w)) } (.ref s.heap.objs.size) "set":=⟨_,g0,rfl⟩
   have hli:=F.called_set.init.lookup
   have hbi:=F.called_set.init.bind (.ref s.heap.objs.size)
   repeat (any_goals (first | assumption | wp_step))
   refine codeAny_mono (codeAny_call_builtin (R:=wants (fun r s₂=>r = .none /\ ∃ h' tk,s₂ = { s with heap:=h',toks:=tk } /\ s.toks <= tk /\
     zdm P w h' s.heap.objs.size (zeh w) (fun j=>(firstMet (fun i=>ns.getD i 0) items.size).any (· == j)) (firstMet (fun i=>ns.getD i 0) items.size).length /\
     (∀ b o,b < s.heap.objs.size -> s.heap.get? b = some o -> h'.get? b = some o)) E) F.called_set.init.plain F.entry_set_init (check_set_init_1 hT ?_)) fun r₂ s₂ hr₂=>?_
   ·obtain ⟨⟨oc,od,odt,os⟩,hol,hcl,nl,hdl⟩:=hl
    simp only at hcl hdl
    subst hcl hdl
    have hol' : (s.heap.push (zfp (zeh w))).get? l = some { cls:=.type "list",dict:=od,data:=.seq items nl,slots:=os }:=Heap.get?_push_of_some _ hol
    have k1:=F.sub_list_set
    have k2:=F.sub_list_frozenset
    have k3 : (Value.type "list" == Value.type "dict") = false:=by decide
    have hl1 : (s.heap.push (zfp (zeh w))).IsList l items:=⟨_,hol',rfl,nl,rfl⟩
    unfold Builtin.«set.__init__» noKeywords Builtin.Frozenset.updateFrom
    generalize hPI : pyIter = PI
    wp_walk
    subst hPI
    refine wpAny_pyIter_list hl1 (wpAny_bind (wpAny_runValue ?_))
    have lt : l < s.heap.objs.size:=Heap.lt_size hol
    have hh3 : A.in1.in1.in1.handled = none:=by simp [hh]
    have ne1 : l ≠ (s.heap.push (zfp (zeh w))).objs.size:=by rw [Heap.size_push]; exact Nat.ne_of_lt (Nat.lt_succ_of_lt lt)
    have nin : s.heap.objs.size ∉ [(s.heap.push (zfp (zeh w))).objs.size,l]:=by
     rw [Heap.size_push]
     simp only [List.mem_cons,List.not_mem_nil,or_false,not_or]
     exact ⟨Nat.ne_of_lt (Nat.lt_succ_self _),Nat.ne_of_gt lt⟩
    have hv : ∀ (i : Nat) (v : Value),items[i]? = some v -> ∃ t,v = .int ((fun i=>ns.getD i 0) i) t:=fun i v hv=>IntsAre.int_at hi i v (by rw [Array.getElem?_toList]; exact hv)
    refine z1y (led:=zeh w) ((Walks.list hh3 _ l ne1 items).toS) s.heap.objs.size nin (fun i=>ns.getD i 0) hv hb (items.size - 0) 0 _ (by omega) (Nat.zero_le _) ⟨⟨_,Heap.get?_push_size _ rfl,rfl,rfl⟩,(hl1.push _)⟩ ?hS0 ?hR
    case hS0=>exact ((z36 (P:=P) (w:=w) s.heap (zeh w)).stay fun o e=>Heap.get?_push_of_some _ e).congr (fun _=>rfl) rfl
    case hR =>
     intro s' hm hS'
     obtain ⟨h',g',d',tk',os'⟩:=s'
     have eg : g' = s.gens:=hm.gens
     have ed : d' = s.drawn:=hm.drawn
     have eo : os' = s.os:=hm.os
     subst eg ed eo
     show wpAny _ _ _ _ _ _
     refine wpAny_pure ?_
     show wpAny _ _ (ret Value.none) _ _ _
     refine wpAny_pure ⟨rfl,h',tk',rfl,hm.toks,hS',fun b o hb' e=>?_⟩
     have n2 : b ≠ (s.heap.push (zfp (zeh w))).objs.size:=by rw [Heap.size_push]; exact Nat.ne_of_lt (Nat.lt_succ_of_lt hb')
     refine hm.heap b o ?_ (Heap.get?_push_of_some _ (Heap.get?_push_of_some _ e))
     simp only [List.mem_cons,List.not_mem_nil,or_false,not_or]
     exact ⟨Nat.ne_of_lt hb',n2⟩
   ·cases r₂ with
    | error e=>exact hr₂
    | ok fl₂ =>
     cases fl₂ with
     | ret r =>
      obtain ⟨rfl,h',tk,rfl,htk,q',kk⟩:=hr₂
      repeat (any_goals (first | assumption | wp_step))
      exact h _ _ q' kk htk
     | _=>exact hr₂.elim
  | _=>exact hr.elim
end
set_option maxRecDepth 100000
section
variable {P : Program} {w : World} {A : Around} {E : Value -> Shared -> Prop}
end
set_option maxRecDepth 100000
section
variable {P : Program} {w : World} {A : Around} {E : Value -> Shared -> Prop} {s : Shared}
end
set_option maxRecDepth 100000
section
variable {P : Program} {w : World} {A : Around} {E : Value -> Shared -> Prop} {s : Shared} {a : Addr} {o : Obj} {ents : Array (Int × Value)} {ep : Nat} {tb : SetTable}
end
section
variable {P : Program} {w : World} {a I T : Addr} {o : Obj} {ents : Array (Int × Value)} {ep n : Nat} {tb : SetTable}
end
set_option maxRecDepth 100000
section
variable {P : Program} {w : World} {A : Around} {E : Value -> Shared -> Prop} {s : Shared} {a : Addr}
end
set_option maxRecDepth 100000
section
variable {P : Program} {w : World} {A : Around} {E : Value -> Shared -> Prop} {s : Shared} {a : Addr}
end
noncomputable def zf9 (x : Int) : List Int -> List Int
 | []=>[x]
 | y :: r=>if x < y then x :: y :: r else if x = y then y :: r else y :: zf9 x r
noncomputable def zc2 (ns : List Int) : List Int:=ns.foldr zf9 []
theorem zp7 (x k : Int) : ∀ l : List Int,k ∈ zf9 x l ↔ k = x \/ k ∈ l
 | []=>by simp [zf9]
 | y :: r=>by
  unfold zf9
  split
  ·simp
  ·split
   ·rename_i e; subst e; simp
   ·rw [List.mem_cons,zp7 x k r,List.mem_cons]
    constructor
    ·rintro (h | h | h)
     ·exact .inr (.inl h)
     ·exact .inl h
     ·exact .inr (.inr h)
    ·rintro (h | h | h)
     ·exact .inr (.inl h)
     ·exact .inl h
     ·exact .inr (.inr h)
theorem zt3 (x : Int) : ∀ l : List Int,l.Pairwise (· < ·) -> (zf9 x l).Pairwise (· < ·)
 | [],_=>by simp [zf9]
 | y :: r,h=>by
  obtain ⟨h1,h2⟩:=List.pairwise_cons.mp h
  unfold zf9
  split
  ·rename_i hx
   refine List.pairwise_cons.mpr ⟨fun k hk=>?_,h⟩
   rcases List.mem_cons.mp hk with e | hk
   ·subst e; exact hx
   ·exact Int.lt_trans hx (h1 k hk)
  ·split
   ·exact h
   ·rename_i a b
    refine List.pairwise_cons.mpr ⟨fun k hk=>?_,zt3 x r h2⟩
    rcases (zp7 x k r).mp hk with e | hk
    ·subst e; omega
    ·exact h1 k hk
theorem zpc (k : Int) : ∀ l : List Int,k ∈ zc2 l ↔ k ∈ l
 | []=>by simp [zc2]
 | x :: l=>by
  show k ∈ zf9 x (zc2 l) ↔ _
  rw [zp7,zpc k l,List.mem_cons]
theorem zs2 : ∀ l : List Int,(zc2 l).Pairwise (· < ·)
 | []=>by simp [zc2]
 | x :: l=>zt3 x _ (zs2 l)
theorem zly : ∀ (l m : List Int),l.Pairwise (· < ·) -> m.Pairwise (· < ·) -> (∀ k,k ∈ l ↔ k ∈ m) -> l = m
 | [],[],_,_,_=>rfl
 | [],y :: m,_,_,h=>by have:=(h y).mpr List.mem_cons_self; simp at this
 | x :: l,[],_,_,h=>by have:=(h x).mp List.mem_cons_self; simp at this
 | x :: l,y :: m,hl,hm,h=>by
  obtain ⟨l1,l2⟩:=List.pairwise_cons.mp hl
  obtain ⟨m1,m2⟩:=List.pairwise_cons.mp hm
  have e : x = y:=by
   rcases List.mem_cons.mp ((h x).mp List.mem_cons_self) with e | hx
   ·exact e
   ·rcases List.mem_cons.mp ((h y).mpr List.mem_cons_self) with e | hy
    ·exact e.symm
    ·have:=m1 x hx; have:=l1 y hy; omega
  subst e
  rw [zly l m l2 m2 fun k=>?_]
  constructor
  ·intro hk
   rcases List.mem_cons.mp ((h k).mp (List.mem_cons_of_mem _ hk)) with e | q
   ·have:=l1 k hk; omega
   ·exact q
  ·intro hk
   rcases List.mem_cons.mp ((h k).mpr (List.mem_cons_of_mem _ hk)) with e | q
   ·have:=m1 k hk; omega
   ·exact q
theorem zlt : ∀ (F L : List Int),F.Nodup -> (∀ x ∈ F,x ∈ L) -> L.length <= F.length -> L.Perm F
 | [],L,_,_,h=>by
  obtain rfl : L = []:=List.length_eq_zero_iff.mp (by simpa using h)
  exact .refl _
 | x :: F,L,hn,hs,h=>by
  obtain ⟨n1,n2⟩:=List.nodup_cons.mp hn
  have hx:=hs x List.mem_cons_self
  have p:=List.perm_cons_erase hx
  refine p.trans (List.Perm.cons x (zlt F (L.erase x) n2 (fun y hy=>?_) ?_))
  ·have ne : y ≠ x:=fun e=>by subst e; exact n1 hy
   exact (List.mem_erase_of_ne ne).mpr (hs y (List.mem_cons_of_mem _ hy))
  ·rw [List.length_erase_of_mem hx]
   simp at h
   omega
theorem zod (val : Nat -> Int) : ∀ i,(firstMet val i).Nodup
 | 0=>by rw [firstMet_zero]; exact List.nodup_nil
 | i + 1=>by
  rw [firstMet_succ]
  unfold step_dedup
  split
  ·exact zod val i
  ·rename_i h
   refine List.nodup_append.mpr ⟨zod val i,by simp,fun a ha b hb e=>?_⟩
   have : b = val i:=by simpa using hb
   rw [e,this] at ha
   exact h (List.any_eq_true.mpr ⟨_,ha,by simp⟩)
theorem z8d (ns : List Int) (k : Int) : (firstMet (fun i=>ns.getD i 0) ns.length).any (· == k) = true ↔ k ∈ ns:=by
 rw [firstMet_any]
 have e : (List.range ns.length).map (fun i=>ns.getD i 0) = ns:=by
  refine List.ext_getElem? fun i=>?_
  rw [List.getElem?_map]
  by_cases hi : i < ns.length
  ·rw [List.getElem?_range hi]
   simp [List.getD_eq_getElem?_getD,hi]
  ·rw [List.getElem?_eq_none (by rw [List.length_range]; omega),List.getElem?_eq_none (by omega)]
   rfl
 rw [e,List.any_eq_true]
 exact ⟨fun ⟨x,hx,q⟩=>by have:=beq_iff_eq.mp q; exact this ▸ hx,fun h=>⟨k,h,by simp⟩⟩
theorem ztc (ns : List Int) : (zc2 ns).length = (firstMet (fun i=>ns.getD i 0) ns.length).length:=by
 have nd:=zod (fun i=>ns.getD i 0) ns.length
 have nd' : (zc2 ns).Nodup:=(zs2 ns).imp fun h=>Int.ne_of_lt h
 have m : ∀ x,x ∈ firstMet (fun i=>ns.getD i 0) ns.length ↔ x ∈ zc2 ns:=fun x=>by
  refine Iff.trans ?_ (zpc x ns).symm
  refine Iff.trans ?_ (z8d ns x)
  rw [List.any_eq_true]
  exact ⟨fun h=>⟨x,h,by simp⟩,fun ⟨y,hy,q⟩=>by have:=beq_iff_eq.mp q; exact this ▸ hy⟩
 rcases Nat.le_total (zc2 ns).length (firstMet (fun i=>ns.getD i 0) ns.length).length with h | h
 ·exact (zlt _ _ nd (fun x hx=>(m x).mp hx) h).length_eq
 ·exact (zlt _ _ nd' (fun x hx=>(m x).mpr hx) h).length_eq.symm
section
variable {X : Cx} {pins : List (Addr × Obj)} {σ : St} {H : Hp} {s : Shared}
end
theorem zue : ∀ {ns : List Int} {vs : List Value},zas (ns.map V.int) vs -> IntsAre vs ns
 | [],_,.nil=>.nil
 | n :: ns,_,.cons ⟨t,e⟩ h=>by subst e; exact .cons n t (zue h)
section
variable {X : Cx} {e : Expr} {te : TE} {p p2 pos pos2 : Pos}
end
noncomputable def zsD : List D -> Option (List Int)
 | []=>some []
 | .int i :: r=>(zsD r).map (i :: ·)
 | _ :: _=>none
theorem zsk : ∀ {ds : List D} {ns : List Int},zsD ds = some ns -> ds = ns.map D.int
 | [],_,h=>by cases h; rfl
 | .int i :: r,ns,h=>by
  replace h : (zsD r).map (i :: ·) = some ns:=h
  cases e : zsD r with
  | none=>rw [e] at h; cases h
  | some m=>rw [e] at h; cases h; rw [zsk e]; rfl
 | .non :: _,_,h=>by cases h
 | .bl _ :: _,_,h=>by cases h
 | .str _ :: _,_,h=>by cases h
 | .lst _ :: _,_,h=>by cases h
 | .tup _ :: _,_,h=>by cases h
 | .kl _ :: _,_,h=>by cases h
 | .kt _ :: _,_,h=>by cases h
 | .dic _ _ :: _,_,h=>by cases h
 | .ins _ _ _ :: _,_,h=>by cases h
theorem zs5 : ∀ (ns : List Int),zsD (ns.map D.int) = some ns
 | []=>rfl
 | n :: ns=>by show (zsD (ns.map D.int)).map (n :: ·) = _; rw [zs5 ns]; rfl
theorem zt0 {G : Gc} {H : Hp} : ∀ {ns : List Int} {vs : List V},zai G H (ns.map D.int) vs -> vs = ns.map V.int
 | [],_,h=>h
 | n :: ns,_,⟨v,r,e,h1,h2⟩=>by rw [e,show v = V.int n from h1,zt0 h2]; rfl
section
variable {c : Str -> Addr} {X : Cx} {e : Expr} {p p2 pos pos2 : Pos}
noncomputable def zdd (f g : List Sl -> Option D) (ρ : List Sl) : Option (List D):=(f ρ).bind fun x=>(g ρ).bind fun y=>match x,y with
 | .lst a,.lst b=>if a.length + b.length <= 16777216 then some (a ++ b) else none
 | _,_=>none
theorem z7o {f g : List Sl -> Option D} {ρ : List Sl} {ds : List D} (h : zdd f g ρ = some ds) : ∃ a b,f ρ = some (.lst a) /\ g ρ = some (.lst b) /\ a.length + b.length <= 16777216 /\ ds = a ++ b:=by
 unfold zdd at h
 cases e1 : f ρ with
 | none=>rw [e1] at h; cases h
 | some x =>
  cases e2 : g ρ with
  | none=>rw [e1,e2] at h; cases h
  | some y =>
   rw [e1,e2,Option.bind_some,Option.bind_some] at h
   split at h
   ·split at h
    ·rename_i a b hl
     cases h
     exact ⟨a,b,rfl,rfl,hl,rfl⟩
    ·cases h
   ·cases h
theorem zfj {a b : Expr} {f g : List Sl -> Option D} (ha : DE c X a f) (hb : DE c X b g) : DO c X (.BinOp a .Add b pos) (zdd f g):=PE.imp (zvh zqx ha hb) fun σ H Q q_=>by
 obtain ⟨Hf0,H0,Hf,ρ,ds,st,ef,k⟩:=q_
 obtain ⟨xs,ys,e1,e2,hl,rfl⟩:=z7o ef
 refine ⟨Hf0,H0,Hf,ρ,_,st,e1,fun v Hf1 H1 x1 r1=>⟨Hf0,H0,Hf1,ρ,_,st.step x1,e2,fun u Hf2 H2 x2 r2=>?_⟩⟩
 obtain ⟨l,vs,el,q1,s1⟩:=r1.up x2.f
 obtain ⟨m,us,em,q2,s2⟩:=r2
 subst el em
 have x:=x1.trans x2
 exact ⟨l,m,vs,us,rfl,rfl,x2.s _ _ q1,x2.s _ _ q2,by rw [sizeLine_eq,<- s1.length,<- s2.length]; exact hl,fun p hp=>k p _ Hf2 _ (x.trans (Ext.tmp x.s hp)) (x.h.free hp) (x.s.free hp) zbm (s1.append s2)⟩
end
noncomputable def wp (F : List Sl -> Option Fl) (ρ : List Sl) (K : Fl -> Prop) : Prop:=∃ o,F ρ = some o /\ K o
noncomputable def zra (F : List Sl -> Option Fl) (K : Fl -> Prop) : Fl -> Prop
 | .nx ρ=>wp F ρ K
 | o=>K o
noncomputable def zrf (J : List Sl -> Prop) (K : Fl -> Prop) : Fl -> Prop
 | .nx ρ=>J ρ
 | .ct ρ=>J ρ
 | .bk ρ=>K (.nx ρ)
 | o=>K o
noncomputable def zml (Q : D -> Prop) (o : Fl) : Prop:=∃ d,zpq o = some d /\ Q d
theorem zap {F F' : List Sl -> Option Fl} {ρ : List Sl} {K : Fl -> Prop} (h : wp F ρ (zra F' K)) : wp (zak F F') ρ K:=by
 obtain ⟨o,e,k⟩:=h
 unfold wp zak
 rw [e]
 cases o with
 | nx ρ'=>exact k
 | _=>exact ⟨_,rfl,k⟩
theorem zb4 {ρ : List Sl} {K : Fl -> Prop} (h : K (.nx ρ)) : wp zbq ρ K:=⟨_,rfl,h⟩
theorem zbu {i : Nat} {f : List Sl -> Option D} {ρ : List Sl} {d : D} {K : Fl -> Prop} (h : f ρ = some d) (k : K (.nx (ρ.set i (.im d)))) : wp (zbf i f) ρ K:=⟨_,zx3 h,k⟩
theorem zeq {i : Nat} {f : List Sl -> Option (List D)} {ρ : List Sl} {d : List D} {K : Fl -> Prop} (h : f ρ = some d) (k : K (.nx (ρ.set i (.own d)))) : wp (zcv i f) ρ K:=⟨_,zxk h,k⟩
theorem zch {f : List Sl -> Option D} {ρ : List Sl} {d : D} {K : Fl -> Prop} (h : f ρ = some d) (k : K (.rt d)) : wp (zay f) ρ K:=⟨_,zcj h,k⟩
theorem zz4 {f : List Sl -> Option (List D)} {ρ : List Sl} {d : List D} {K : Fl -> Prop} (h : f ρ = some d) (k : K (.rtO d)) : wp (zha f) ρ K:=⟨_,by unfold zha; rw [h]; rfl,k⟩
theorem zbt {t : List Sl -> Option Bool} {F F' : List Sl -> Option Fl} {ρ : List Sl} {b : Bool} {K : Fl -> Prop} (h : t ρ = some b) (kT : b = true -> wp F ρ K) (kF : b = false -> wp F' ρ K) : wp (zbd t F F') ρ K:=by
 unfold wp zbd
 rw [h]
 cases b with
 | true=>exact kT rfl
 | false=>exact kF rfl
theorem ze3 {i : Nat} {F : List Sl -> Option Fl} {ρ ρ' : List Sl} {K : Fl -> Prop} (e : zjd i ρ = ρ') (h : wp F ρ' K) : wp (zdq i F) ρ K:=by
 subst e
 exact h
theorem zfv {i : Nat} {f : List Sl -> Option D} {ρ : List Sl} {d : D} {xs : List D} {K : Fl -> Prop} (h : f ρ = some d) (h' : ρ[i]? = some (.own xs)) (hl : xs.length < 16777216) (k : K (.nx (ρ.set i (.own (xs ++ [d]))))) : wp (zd9 i f) ρ K:=⟨_,z7h h h' hl,k⟩
theorem zvl {i : Nat} {fk fv : List Sl -> Option D} {ρ : List Sl} {d : D} {xs : List D} {k : Int} (hv : fv ρ = some d) (hk : fk ρ = some (.int k)) (h' : ρ[i]? = some (.own xs)) (h0 : 0 <= k) (h1 : k < xs.length) : zfu i fk fv ρ = some (.nx (ρ.set i (.own (xs.set k.toNat d)))):=by
 have e : ixN xs.length k = some k.toNat:=by
  unfold ixN
  rw [if_pos h0,if_pos h1]
 unfold zfu
 rw [hv,Option.bind_some,hk,Option.bind_some]
 show (match ρ[i]? with | some (.own xs)=>(ixN xs.length k).map fun j=>Fl.nx (ρ.set i (.own (xs.set j d))) | _=>none) = _
 rw [h']
 show (ixN xs.length k).map _ = _
 rw [e]
 rfl
theorem zlu {i : Nat} {fk fv : List Sl -> Option D} {ρ : List Sl} {d : D} {xs : List D} {k : Int} {K : Fl -> Prop} (hv : fv ρ = some d) (hk : fk ρ = some (.int k)) (h' : ρ[i]? = some (.own xs)) (h0 : 0 <= k) (h1 : k < xs.length) (q : K (.nx (ρ.set i (.own (xs.set k.toNat d))))) : wp (zfu i fk fv) ρ K:=⟨_,zvl hv hk h' h0 h1,q⟩
theorem zuj {α : Type} {g : D -> List Sl -> Option (List Sl)} {F : List Sl -> Option Fl} {K : Fl -> Prop} (f : α -> D) (I : List α -> List Sl -> Prop) : ∀ (post pre : List α) (ρ : List Sl),I pre ρ ->
  (∀ pre' x post' ρ,pre ++ post = pre' ++ x :: post' -> I pre' ρ -> ∃ ρ1,g (f x) ρ = some ρ1 /\ wp F ρ1 (zrf (I (pre' ++ [x])) K)) -> (∀ ρ',I (pre ++ post) ρ' -> K (.nx ρ')) -> wp (zfa g F (post.map f)) ρ K
 | [],pre,ρ,h,_,hk=>⟨_,rfl,hk ρ (by rw [List.append_nil]; exact h)⟩
 | x :: post,pre,ρ,h,hs,hk=>by
  obtain ⟨ρ1,e1,o,e2,k2⟩:=hs pre x post ρ rfl h
  unfold wp
  rw [List.map_cons]
  unfold zfa
  rw [e1,Option.bind_some,e2,Option.bind_some]
  have go : ∀ ρ2,I (pre ++ [x]) ρ2 -> wp (zfa g F (post.map f)) ρ2 K:=fun ρ2 h2 =>
   zuj f I post (pre ++ [x]) ρ2 h2 (by rw [List.append_assoc]; exact hs) (by rw [List.append_assoc]; exact hk)
  cases o with
  | nx ρ2=>exact go ρ2 k2
  | ct ρ2=>exact go ρ2 k2
  | bk ρ2=>exact ⟨_,rfl,k2⟩
  | rt d=>exact ⟨_,rfl,k2⟩
  | rtO d=>exact ⟨_,rfl,k2⟩
  | rtS d ρ2=>exact ⟨_,rfl,k2⟩
  | rtT o=>exact ⟨_,rfl,k2⟩
theorem zdg {α : Type} {fi : List Sl -> Option (List D)} {g : D -> List Sl -> Option (List Sl)} {F : List Sl -> Option Fl} {ρ : List Sl} {K : Fl -> Prop} (xs : List α) (f : α -> D) (I : List α -> List Sl -> Prop) (hi : fi ρ = some (xs.map f)) (h0 : I [] ρ)
  (hs : ∀ pre x post ρ,xs = pre ++ x :: post -> I pre ρ -> ∃ ρ1,g (f x) ρ = some ρ1 /\ wp F ρ1 (zrf (I (pre ++ [x])) K)) (hk : ∀ ρ',I xs ρ' -> K (.nx ρ')) : wp (zco fi g F) ρ K:=by
 obtain ⟨o,e,k⟩:=zuj f I xs [] ρ h0 hs hk
 refine ⟨o,?_,k⟩
 unfold zco
 rw [hi]
 exact e
theorem zf7 {n : Nat} {F : List Sl -> Option Fl} {ds : List D} {Q : D -> Prop} (h : wp F (zei n ds) (zml Q)) : ∃ d,za8 n F ds = some d /\ Q d:=by
 obtain ⟨o,e,d,e',q⟩:=h
 refine ⟨d,?_,q⟩
 unfold za8
 rw [e]
 exact e'
theorem zd3 {n : Nat} {F : List Sl -> Option Fl} {ds : List D} {r : D} (h : wp F (zei n ds) (zml fun d=>d = r)) : za8 n F ds = some r:=by
 obtain ⟨d,e,q⟩:=zf7 h
 rw [e,q]
theorem zb0 {Q : D -> Prop} {d : D} (h : Q d) : zml Q (.rt d):=⟨d,rfl,h⟩
theorem zg1 {Q : D -> Prop} {d : List D} (h : Q (.lst d)) : zml Q (.rtO d):=⟨.lst d,rfl,h⟩
theorem zo9 {m : List D -> Option D} {f : List Sl -> Option (List D)} {ρ : List Sl} {ds : List D} {d : D} (h : f ρ = some ds) (h' : m ds = some d) (hs : d.scalar = true) : zih m f ρ = some d:=by
 unfold zih
 rw [h,Option.bind_some,h',Option.bind_some,if_pos hs]
theorem ze4 {i j : Int} (h : 0 < j) : zbj (.int i) (.int j) = some (.int (i % j)):=zic h
theorem zo0 {i j : Int} (h : zk2 i j) : zga (.int i) (.int j) = some (.int (i / j)):=zic h
theorem zwq {i j : Int} (h : zh9 i j) : z0p (.int i) (.int j) = some (.int (i * j)):=zic h
theorem zvg {i j : Int} (h : zhp i j) : zm0 (.int i) (.int j) = some (.int (i ^ j.toNat)):=zic h
theorem zyv {i j : Int} (h : 0 <= j) : z0v (.int i) (.int j) = some (.int (i / 2 ^ j.toNat)):=zic h
theorem zgy {i j : Int} : zb7 (.int i) (.int j) = some (.int (i + j)):=rfl
theorem zto {i j : Int} : zf4 (.int i) (.int j) = some (.int (i - j)):=rfl
theorem zxq {i j : Int} : z4q (.int i) (.int j) = some (.int (Builtin.bitAnd i j)):=rfl
theorem zoy {i j : Int} : dLt (.int i) (.int j) = some (.bl (decide (i < j))):=rfl
theorem zqo {i j : Int} : dLe (.int i) (.int j) = some (.bl (decide (i <= j))):=rfl
theorem zk6 {i j : Int} : dGt (.int i) (.int j) = some (.bl (decide (j < i))):=rfl
theorem z6f {i j : Int} : dGe (.int i) (.int j) = some (.bl (decide (j <= i))):=rfl
theorem zeo {α : Type} (xs : List α) (f : α -> D) : zcz [.lst (xs.map f)] = some (.int xs.length):=by
 show some (D.int ((xs.map f).length : Int)) = _
 rw [List.length_map]
theorem z7r {α : Type} (xs : List α) (f : α -> D) : zcz [.kl (xs.map f)] = some (.int xs.length):=by
 show some (D.int ((xs.map f).length : Int)) = _
 rw [List.length_map]
theorem zrx {α : Type} (f : α -> D) (xs : List α) (lo hi : Option Int) : zhl (xs.map f) lo hi = ((xs.drop (HT.sIx xs.length 0 lo)).take (HT.sIx xs.length xs.length hi - HT.sIx xs.length 0 lo)).map f:=by
 unfold zhl
 rw [List.length_map,List.map_take,List.map_drop]
theorem zht {α : Type} {f : List Sl -> Option D} {l h : List Sl -> Option (Option Int)} {ρ : List Sl} {g : α -> D} {xs : List α} {lo hi : Option Int} (e : f ρ = some (.lst (xs.map g))) (e1 : l ρ = some lo) (e2 : h ρ = some hi) : mSl f l h ρ = some (((xs.drop (HT.sIx xs.length 0 lo)).take (HT.sIx xs.length xs.length hi - HT.sIx xs.length 0 lo)).map g):=by
 unfold mSl
 rw [e,Option.bind_some]
 show (l ρ).bind (fun lo=>(h ρ).map fun hi=>zhl (xs.map g) lo hi) = _
 rw [e1,Option.bind_some,e2,<- zrx]
 rfl
theorem zo8 {α : Type} {f : List Sl -> Option D} {l h : List Sl -> Option (Option Int)} {ρ : List Sl} {g : α -> D} {xs : List α} {lo hi : Option Int} (e : f ρ = some (.kl (xs.map g))) (e1 : l ρ = some lo) (e2 : h ρ = some hi) : mSl f l h ρ = some (((xs.drop (HT.sIx xs.length 0 lo)).take (HT.sIx xs.length xs.length hi - HT.sIx xs.length 0 lo)).map g):=by
 unfold mSl
 rw [e,Option.bind_some]
 show (l ρ).bind (fun lo=>(h ρ).map fun hi=>zhl (xs.map g) lo hi) = _
 rw [e1,Option.bind_some,e2,<- zrx]
 rfl
theorem zx7 {α : Type} (xs : List α) (f : α -> D) : dEq (.lst (xs.map f)) (.lst []) = some (.bl xs.isEmpty):=by cases xs <;> rfl
theorem zrl {α : Type} (xs : List α) (f : α -> D) : dNe (.lst (xs.map f)) (.lst []) = some (.bl (!xs.isEmpty)):=by cases xs <;> rfl
theorem z1l {α : Type} (g : α -> D) (d : α) : ∀ (xs : List α),zfz 0 (xs.map g) = (List.range xs.length).map fun i=>D.tup [.int (i : Nat),g (xs.getD i d)]:=fun xs=>by
 refine List.ext_getElem? fun i=>?_
 rw [zk7,List.getElem?_map,List.getElem?_map]
 by_cases h : i < xs.length
 ·rw [List.getElem?_eq_getElem h,List.getElem?_range h,Nat.zero_add]
  simp [h]
 ·rw [List.getElem?_eq_none (by omega),List.getElem?_eq_none (by rw [List.length_range]; omega)]
  rfl
theorem zme {α : Type} {f : List Sl -> Option (List D)} {ρ : List Sl} {g : α -> D} {xs : List α} (d : α) (e : f ρ = some [.lst (xs.map g)]) : zg7 f ρ = some ((List.range xs.length).map fun i=>D.tup [.int (i : Nat),g (xs.getD i d)]):=by
 unfold zg7
 rw [e,<- z1l]
 rfl
theorem z4t {α : Type} (f : α -> Int) (xs : List α) : (xs.map fun x=>D.int (f x)) = (xs.map f).map D.int:=by
 rw [List.map_map]
 rfl
noncomputable def kJ (J : List Sl -> Prop) (o : Fl) : Prop:=∃ ρ',o = .nx ρ' /\ J ρ'
theorem k_J {J : List Sl -> Prop} {ρ : List Sl} (h : J ρ) : kJ J (.nx ρ):=⟨ρ,rfl,h⟩
theorem zt8 {S F : List Sl -> Option Fl} {ρ : List Sl} {K : Fl -> Prop} (J : List Sl -> Prop) (h : wp S ρ (kJ J)) (k : ∀ ρ',J ρ' -> wp F ρ' K) : wp (zak S F) ρ K:=by
 apply zap
 obtain ⟨o,e,ρ',rfl,j⟩:=h
 exact ⟨_,e,k ρ' j⟩
theorem z5d {i : Nat} {ρ : List Sl} {d : D} {K : Fl -> Prop} (h : ρ[i]? = some (.im d)) (k : K (.rt d)) : wp (zd0 i) ρ K:=⟨_,by unfold zd0; rw [h],k⟩
theorem zgw {i : Nat} {ρ : List Sl} {d : List D} {K : Fl -> Prop} (h : ρ[i]? = some (.own d)) (k : K (.rtO d)) : wp (zd0 i) ρ K:=⟨_,by unfold zd0; rw [h],k⟩
noncomputable def D.flat : D -> Bool
 | .tup xs=>xs.all D.scalar
 | d=>d.scalar
noncomputable def zg9 (Hf H : Hp) : Hp:=fun a=>match H a with
 | some (.tup vs)=>some (.tup vs)
 | _=>Hf a
theorem zot {Hf H : Hp} {a : Addr} {vs : List V} (h : H a = some (.tup vs)) : zg9 Hf H a = some (.tup vs):=by
 unfold zg9
 rw [h]
theorem zom {Hf H : Hp} {a : Addr} (h : ∀ vs,H a ≠ some (.tup vs)) : zg9 Hf H a = Hf a:=by
 unfold zg9
 split
 ·rename_i vs e
  exact absurd e (h vs)
 ·rfl
theorem z1t {Hf H H' : Hp} (s : zau Hf H) (g : zau H H') : Ext Hf H (zg9 Hf H') H':=by
 refine ⟨fun b u e=>?_,g,fun b u e=>?_,fun l o e t=>zom fun vs q=>?_⟩
 ·have e':=g b u (s b u e)
  cases u with
  | tup vs=>exact zot e'
  | _ =>
   rw [zom (fun vs q=>by rw [e'] at q; cases q)]
   exact e
 ·by_cases h : ∃ vs,H' b = some (.tup vs)
  ·obtain ⟨vs,h⟩:=h
   rw [zot h] at e
   rw [h]
   exact e
  ·rw [zom (fun vs q=>h ⟨vs,q⟩)] at e
   exact g b u (s b u e)
 ·rw [g l o e] at q
  cases q
  cases t
theorem zai.sc {G : Gc} {H H' : Hp} : ∀ {ds : List D} {vs : List V},ds.all D.scalar = true -> zai G H ds vs -> zai G H' ds vs
 | [],_,_,h=>h
 | d :: ds,_,hs,⟨v,r,e,h1,h2⟩=>by
  rw [List.all_cons,Bool.and_eq_true] at hs
  exact ⟨v,r,e,h1.sc hs.1,zai.sc hs.2 h2⟩
theorem Rep.flat {G : Gc} {Hf H : Hp} {d : D} {v : V} (hs : d.flat = true) (r : Rep G H d v) : Rep G (zg9 Hf H) d v:=by
 cases d with
 | tup xs =>
  obtain ⟨a,vs,e,h,q⟩:=r
  exact ⟨a,vs,e,zot h,q.sc hs⟩
 | non=>exact r.sc hs
 | bl _=>exact r.sc hs
 | int _=>exact r.sc hs
 | str _=>exact r.sc hs
 | lst _=>cases hs
 | kl _=>cases hs
 | kt _=>cases hs
 | dic _ _=>cases hs
 | ins _ _ _=>cases hs
 | kd _ _=>cases hs
section
variable {c : Str -> Addr} {X : Cx} {e : Expr} {es : List Expr} {x : Str} {p pos : Pos} {k : Nat} {f : Addr} {fd : FuncData} {ps : List Str} {fa : List Sl -> Option (List D)}
noncomputable def zj2 (m : List D -> Option D) (f : List Sl -> Option (List D)) (ρ : List Sl) : Option D:=(f ρ).bind fun ds=>(m ds).bind fun d=>if d.flat then some d else none
theorem z2z {m : List D -> Option D} (F : zax X.prog X.w X.K X.mg X.base CX0 k f fd ps (spD (Gx c X) ps.length m)) (hr : zb2 k X.A) (hg : Gl X x) (hm : X.mg x = some (.ref f)) (hk : PySem.W.keepIn X.K (.ref f) = true) (hb : za3 X.K fd ps []) (ha : DAB c X (e :: es) fa)
  (hl : (e :: es).length = ps.length:=by rfl) (hdb : (x == ("__debug__" : Str)) = false:=by decide) (he : starEach (e :: es) X.env = (false,eval e X.env) :: starEach es X.env:=by rfl) (hpl : (backTo pos (starEach es X.env)).any (·.1) = false:=by rfl) :
  DE c X (.Call (.Name x p) (e :: es) [] pos) (zj2 m fa):=PE.imp (zlg F hr hg hm hk hb .nil zjc ha.pa hdb he hpl) fun σ H Q q_=>by
 obtain ⟨Hf0,H0,Hf,ρ,d,st,ef,kq⟩:=q_
 unfold zj2 at ef
 cases e1 : fa ρ with
 | none=>rw [e1] at ef; cases ef
 | some ds =>
  rw [e1] at ef
  replace ef : (m ds).bind _ = _:=ef
  cases e2 : m ds with
  | none=>rw [e2] at ef; cases ef
  | some d' =>
   rw [e2] at ef
   replace ef : (if d'.flat = true then some d' else none) = some d:=ef
   split at ef
   ·rename_i hs
    cases ef
    refine ⟨Hf0,H0,Hf,ρ,ds,st,e1,fun vs Hf' H' x r=>?_⟩
    dsimp only
    rw [List.append_nil]
    exact ⟨H',ds,_,zau.refl _,r,(ha.len ρ ds e1).trans hl,e2,fun v Hf2 H2 x2 r2=>kq v (zg9 Hf' H2) H2 (x.trans (z1t x.s x2.h)) ((r2.up x2.s).flat hs)⟩
   ·cases ef
theorem zai.flat {G : Gc} {Hf H : Hp} : ∀ {ds : List D} {vs : List V},ds.all D.flat = true -> zai G H ds vs -> zai G (zg9 Hf H) ds vs
 | [],_,_,h=>h
 | d :: ds,_,hs,⟨v,r,e,h1,h2⟩=>by
  rw [List.all_cons,Bool.and_eq_true] at hs
  exact ⟨v,r,e,h1.flat hs.1,zai.flat hs.2 h2⟩
noncomputable def zia (m m' : D -> D -> Option D) (f g h : List Sl -> Option D) (ρ : List Sl) : Option D:=(f ρ).bind fun x=>(g ρ).bind fun y=>(m x y).bind fun z=>match z with
 | .bl true=>(h ρ).bind fun w=>m' y w
 | .bl false=>some (.bl false)
 | _=>none
theorem zvo {m m' : D -> D -> Option D} {f g h : List Sl -> Option D} {ρ : List Sl} {d : D} (e : zia m m' f g h ρ = some d) : ∃ x y b,f ρ = some x /\ g ρ = some y /\ m x y = some (.bl b) /\ (b = false -> d = .bl false) /\ (b = true -> ∃ w,h ρ = some w /\ m' y w = some d):=by
 unfold zia at e
 cases e1 : f ρ with
 | none=>rw [e1] at e; cases e
 | some x =>
  cases e2 : g ρ with
  | none=>rw [e1,e2] at e; cases e
  | some y =>
   rw [e1,e2,Option.bind_some,Option.bind_some] at e
   cases e3 : m x y with
   | none=>rw [e3] at e; cases e
   | some z =>
    rw [e3,Option.bind_some] at e
    cases z with
    | bl b =>
     cases b with
     | false =>
      have e : some (D.bl false) = some d:=e
      exact ⟨x,y,false,rfl,rfl,e3,fun _=>(Option.some.inj e).symm,fun q=>by cases q⟩
     | true =>
      have e : (h ρ).bind (fun w=>m' y w) = some d:=e
      cases e4 : h ρ with
      | none=>rw [e4] at e; cases e
      | some w=>rw [e4] at e; exact ⟨x,y,true,rfl,rfl,e3,fun q=>(by cases q),fun _=>⟨w,rfl,e⟩⟩
    | _=>cases e
theorem z1p {a b c' : Expr} {op op' : CmpOp} {m m' : D -> D -> Option D} {f g h : List Sl -> Option D} (ho : OpD c X (compareOp op) m) (hs : ∀ x y d,m x y = some d -> d.scalar = true) (ho' : OpD c X (compareOp op') m') (hs' : ∀ x y d,m' x y = some d -> d.scalar = true) (ha : DB c X a f) (hb : DB c X b g) (hc : DB c X c' h)
  (hm : lastMarks [op,op'] [b,c'] = false:=by with_unfolding_all rfl) : DE c X (.Compare a [op,op'] [b,c'] pos) (zia m m' f g h):=PE.imp (z7b ho ho' ha hb hc hm) fun σ H Q q_=>by
 obtain ⟨Hf0,H0,Hf,ρ,d,st,ef,k⟩:=q_
 obtain ⟨x,y,b',e1,e2,e3,eF,eT⟩:=zvo ef
 refine ⟨Hf0,H0,Hf,ρ,x,st,e1,fun v Hf1 H1 x1 r1=>⟨Hf0,H0,Hf1,ρ,y,st.step x1,e2,fun u Hf2 H2 x2 r2=>⟨H2,x,y,.bl b',zau.refl _,r1.up x2.h,r2,e3,fun z Hf3 H3 x3 r3=>⟨b',r3,?_⟩⟩⟩⟩
 have x23 : Ext Hf2 H2 Hf2 H3:=Ext.grow x2.s x3.h
 have st3 : za0 (Gx c X) Hf0 H0 Hf2 H3 σ ρ:=(st.step (x1.trans x2)).step x23
 cases b' with
 | false =>
  rw [if_neg Bool.false_ne_true]
  exact k _ Hf2 H3 ((x1.trans x2).trans x23) (by rw [eF rfl]; rfl)
 | true =>
  rw [if_pos rfl]
  obtain ⟨w,e4,e5⟩:=eT rfl
  exact ⟨Hf0,H0,Hf2,ρ,w,st3,e4,fun w' Hf4 H4 x4 r4=>⟨H4,y,w,d,zau.refl _,r2.up (x3.h.trans x4.h),r4,e5,fun q Hf5 H5 x5 r5=>k _ Hf4 H5 (((x1.trans x2).trans x23).trans (x4.trans (Ext.grow x4.s x5.h))) (r5.sc (hs' _ _ _ e5))⟩⟩
end
theorem z2a {m : List D -> Option (List D)} {f : List Sl -> Option (List D)} {ρ : List Sl} {ds rs : List D} (h : f ρ = some ds) (h' : m ds = some rs) : zk1 m f ρ = some rs:=by
 unfold zk1
 rw [h,Option.bind_some,h']
theorem z53 {n : Nat} {F : List Sl -> Option Fl} {ds rs : List D} (h : F (zei n ds) = some (.rtO rs)) : zkc n F ds = some rs:=by
 unfold zkc
 rw [h]
 rfl
theorem z8s {m : List D -> Option D} {f : List Sl -> Option (List D)} {ρ : List Sl} {ds : List D} {d : D} (h : f ρ = some ds) (h' : m ds = some d) (hs : d.flat = true) : zj2 m f ρ = some d:=by
 unfold zj2
 rw [h,Option.bind_some,h',Option.bind_some,if_pos hs]
theorem zwe {m m' : D -> D -> Option D} {f g h : List Sl -> Option D} {ρ : List Sl} {x y w : D} {b b' : Bool} (e1 : f ρ = some x) (e2 : g ρ = some y) (e3 : m x y = some (.bl b)) (e4 : h ρ = some w) (e5 : m' y w = some (.bl b')) : zia m m' f g h ρ = some (.bl (b && b')):=by
 unfold zia
 rw [e1,Option.bind_some,e2,Option.bind_some,e3,Option.bind_some]
 cases b with
 | false=>rfl
 | true =>
  show (h ρ).bind (fun w=>m' y w) = _
  rw [e4]
  exact e5
theorem ztv {k : Int} {n : Nat} (h : k.natAbs < 2 ^ n) : Builtin.Int.intBits k <= n:=by
 unfold Builtin.Int.intBits
 split
 ·exact Nat.zero_le _
 ·rename_i hk
  have : k.natAbs ≠ 0:=fun z=>hk (by rw [Int.natAbs_eq_zero.mp z]; rfl)
  exact (Nat.log2_lt this).mpr h
noncomputable def zf3 (i j : Int) : Prop:=zh9 i j \/ (i.natAbs < 2 ^ 200 /\ j.natAbs < 2 ^ 200)
theorem zf3.ok {i j : Int} (h : zf3 i j) : IntMulOk i j:=by
 rcases h with h | ⟨h1,h2⟩
 ·exact h.ok
 ·have a:=ztv h1
  have b:=ztv h2
  unfold IntMulOk
  have : Builtin.Int.intTooBig (Builtin.Int.intBits i + Builtin.Int.intBits j) = false:=by
   unfold Builtin.Int.intTooBig
   have c : (400 : Int) <= bitsLine:=by decide
   exact decide_eq_false (by omega)
  rw [this,Bool.and_false]
  exact Bool.false_ne_true
noncomputable instance {i j : Int} : Decidable (zf3 i j):=by unfold zf3; infer_instance
noncomputable abbrev zcn : D -> D -> Option D:=dI zf3 fun i j=>.int (i * j)
section
variable {c : Str -> Addr} {X : Cx}
theorem zyc : OpR X (binaryOp .Mult) (rI zf3 fun i j=>.int (i * j)):=opI fun _ _ _ _ _ _ _ hc q=>mul_int q hc.ok
theorem zer : OpD c X (binaryOp .Mult) zcn:=zmf zyc fun _ _ _ _=>rfl
end
theorem zsi {i j : Int} (h : zf3 i j) : zcn (.int i) (.int j) = some (.int (i * j)):=zic h
noncomputable def zi5 (g : D -> List Sl -> Option (List Sl)) (f : List Sl -> Option D) (ρ : List Sl) : Option Fl:=(f ρ).bind fun d=>(g d ρ).map .nx
section
variable {c : Str -> Addr} {X : Cx} {e tg : Expr} {pos : Pos}
theorem zqq {k : Nat} {g : D -> List Sl -> Option (List Sl)} {f : List Sl -> Option D} (he : DE c X e f) (hg : DG c X tg k g) (hs : swapsWithSole [tg] e pos.line X.env = pure false:=by rfl) (hw : swappedStores [tg] e X.env = pure none:=by rfl)
  (h1 : (assignEach [tg] X.env).map (·.2) = [assign tg X.env]:=by rfl) : DS c X (.Assign [tg] e pos) (zi5 g f):=PS.imp (zsy he hg.pg hs hw h1) fun E σ H q_=>by
 obtain ⟨Hf0,H0,Hf,ρ,o,so,ef,kq⟩:=q_
 unfold zi5 at ef
 cases e1 : f ρ with
 | none=>rw [e1] at ef; cases ef
 | some d =>
  rw [e1,Option.bind_some] at ef
  cases e2 : g d ρ with
  | none=>rw [e2] at ef; cases ef
  | some ρ' =>
   rw [e2] at ef
   cases ef
   exact ⟨Hf0,H0,Hf,ρ,d,so,e1,fun v Hf' H' x r=>⟨Hf0,H0,Hf',ρ,d,ρ',so.step x,r,e2,fun σ' so'=>kq σ' Hf' H' x.f so'⟩⟩
end
theorem zsp {g : D -> List Sl -> Option (List Sl)} {f : List Sl -> Option D} {ρ ρ' : List Sl} {d : D} {K : Fl -> Prop} (h : f ρ = some d) (h' : g d ρ = some ρ') (k : K (.nx ρ')) : wp (zi5 g f) ρ K:=⟨_,by unfold zi5; rw [h,Option.bind_some,h']; rfl,k⟩
noncomputable def zol : List D -> Option D
 | [.int a,.int b]=>some (.int (if b > a then b else a))
 | _=>none
section
variable {c : Str -> Addr} {X : Cx}
theorem zw1 (hc : X.calm = true) : zhk c X (.builtin "max") zol:=by
 rintro pins s σ H vs us Q I rv ⟨Hf,ds,d,s0,r,e,k⟩
 unfold zol at e
 split at e
 ·rename_i a b
  cases e
  obtain ⟨v1,vs1,rfl,h1,v2,vs2,rfl,h2,h3⟩:=r
  cases (show vs2 = [] from h3)
  cases (show v1 = V.int a from h1)
  cases (show v2 = V.int b from h2)
  cases rv with
  | cons r1 rr =>
   cases rr with
   | cons r2 rr =>
    cases rr
    obtain ⟨t,rfl⟩:=r1
    obtain ⟨u,rfl⟩:=r2
    refine PySem.max_two_ints (I.ok.hd hc) fun h' tk hold=>?_
    refine ⟨.int (if b > a then b else a),H,I.kept hold,?_,k _ Hf H (Ext.refl s0) rfl⟩
    by_cases hba : b > a
    ·rw [if_pos hba,if_pos hba]; exact ⟨u,rfl⟩
    ·rw [if_neg hba,if_neg hba]; exact ⟨t,rfl⟩
 ·cases e
end
noncomputable def tLS (K : PySem.W.Frag) (te : TE) : TE:=fun σ H Q=>te σ H fun x H1=>∃ l ns,x = .ref l /\ SqL K H1 l (ns.map V.int) /\ ns.length < 4000 /\ Q (.int ((zc2 ns).length : Nat)) H1
section
variable {X : Cx} {e : Expr} {te : TE} {p p2 pos pos2 : Pos}
theorem zxt (hc : X.calm = true) (hgs : Gl X "len") (hms : X.mg "len" = none) (hgt : Gl X "set") (hmt : X.mg "set" = none) (he : PE X e te)
  (h1 : starEach [.Call (.Name "set" p2) [e] [] pos2] X.env = (false,eval (.Call (.Name "set" p2) [e] [] pos2) X.env) :: starEach [] X.env:=by rfl) (h2 : starEach [e] X.env = (false,eval e X.env) :: starEach [] X.env:=by rfl)
  (hpl : (backTo pos (starEach [] X.env)).any (·.1) = false:=by rfl) (hpl2 : (backTo pos2 (starEach [] X.env)).any (·.1) = false:=by rfl) :
  PE X (.Call (.Name "len" p) [.Call (.Name "set" p2) [e] [] pos2] [] pos) (tLS X.K te):=by
 intro pins s σ H Q I h
 refine wpAny_Call_Name_kw (zf5 I hgs hms PySem.boot_len ?_)
 refine PyProof.Rows.callWith_builtin1 ?_ h1 hpl
 rw [h1]
 show wpAny _ _ (spliced ((false,eval (.Call (.Name "set" p2) [e] [] pos2) X.env) :: backTo pos (starEach [] X.env))) _ _ s
 refine Calls.spliced_cons (wpAny_Call_Name_kw (zf5 I hgt hmt boot_set ?_))
 refine PyProof.Rows.callWith_type1 ?_ h2 hpl2
 rw [h2]
 show wpAny _ _ (spliced ((false,eval e X.env) :: backTo pos2 (starEach [] X.env))) _ _ s
 refine Calls.spliced_cons (thn (he pins s σ H _ I h) fun u s1 q_=>?_)
 obtain ⟨x,H1,I1,r1,l,ns,e1,hq,hb,q⟩:=q_
 subst e1
 cases r1
 refine wpAny_pure ?_
 obtain ⟨its,rr,pl,hz⟩:=I1.list hq
 have ii : IntsAre its ns:=zue rr
 have zz : its.toArray.size = ns.length:=by rw [List.size_toArray,ii.length]
 refine zyl (items:=its.toArray) (ns:=ns) (I1.ok.hd hc) pl.isList (by simpa using ii) (by rw [zz]; unfold scanBound; omega) fun h' tk qs keep htk=>?_
 rw [zz] at qs
 refine wpAny_pure ?_
 obtain ⟨o,ents,ep,tb,ho,hex,hd,_,_,hsb,hf,hn,_,_⟩:=qs
 refine call_len_set (s:={ s1 with heap:=h',toks:=tk }) ho hex hd hf (by unfold scanBound at hsb; omega) ?_
 refine ⟨.int ((zc2 ns).length : Nat),H1,I1.kept fun b u g=>keep b u (Heap.lt_size g) g,?_,q⟩
 rw [hn,<- ztc]
 exact ⟨_,rfl⟩
end
noncomputable def zkl (f : List Sl -> Option D) (ρ : List Sl) : Option D:=(f ρ).bind fun d=>(lsD d).bind fun ds=>(zsD ds).bind fun ns=>if ns.length < 4000 then some (.int ((zc2 ns).length : Nat)) else none
theorem z7a {f : List Sl -> Option D} {ρ : List Sl} {ns : List Int} (h : f ρ = some (.lst (ns.map D.int))) (hl : ns.length < 4000) : zkl f ρ = some (.int ((zc2 ns).length : Nat)):=by
 unfold zkl
 rw [h]
 show ((zsD (ns.map D.int)).bind fun ns=>if ns.length < 4000 then some (D.int ((zc2 ns).length : Nat)) else none) = _
 rw [zs5]
 show (if ns.length < 4000 then some (D.int ((zc2 ns).length : Nat)) else none) = _
 rw [if_pos hl]
section
variable {c : Str -> Addr} {X : Cx} {e : Expr} {p p2 pos pos2 : Pos}
theorem z8a {f : List Sl -> Option D} (hc : X.calm = true) (hgs : Gl X "len") (hms : X.mg "len" = none) (hgt : Gl X "set") (hmt : X.mg "set" = none) (ha : DE c X e f)
  (h1 : starEach [.Call (.Name "set" p2) [e] [] pos2] X.env = (false,eval (.Call (.Name "set" p2) [e] [] pos2) X.env) :: starEach [] X.env:=by rfl) (h2 : starEach [e] X.env = (false,eval e X.env) :: starEach [] X.env:=by rfl)
  (hpl : (backTo pos (starEach [] X.env)).any (·.1) = false:=by rfl) (hpl2 : (backTo pos2 (starEach [] X.env)).any (·.1) = false:=by rfl) : DE c X (.Call (.Name "len" p) [.Call (.Name "set" p2) [e] [] pos2] [] pos) (zkl f) :=
 PE.imp (zxt hc hgs hms hgt hmt ha h1 h2 hpl hpl2) fun σ H Q q_=>by
  obtain ⟨Hf0,H0,Hf,ρ,ds,st,ef,k⟩:=q_
  unfold zkl at ef
  cases e1 : f ρ with
  | none=>rw [e1] at ef; cases ef
  | some d =>
   rw [e1] at ef
   cases e2 : lsD d with
   | none=>rw [Option.bind_some,e2] at ef; cases ef
   | some xs =>
    rw [Option.bind_some,e2] at ef
    cases e3 : zsD xs with
    | none=>rw [Option.bind_some,e3] at ef; cases ef
    | some ns =>
     rw [Option.bind_some,e3,Option.bind_some] at ef
     split at ef
     ·rename_i hl
      cases ef
      refine ⟨Hf0,H0,Hf,ρ,d,st,e1,fun v Hf' H' x r=>?_⟩
      obtain ⟨l,vs,el,q,rs⟩:=zg0 e2 r
      rw [zsk e3] at rs
      have ev:=zt0 rs
      subst ev el
      exact ⟨l,ns,rfl,x.s.seq q,hl,k _ Hf' _ x rfl⟩
     ·cases ef
end
theorem zyg (l : Addr) (items : Array Value) (n : Nat) (dct : Option Addr) (sl : Array (Option Value)) (t : Tok) :
  Meets (Builtin.«enumerate.__new__» ⟨[.type "enumerate",.ref l],[("start",.int 1 t)]⟩) (fun _ R s=>s.heap.get? l = some { cls:=.type "list",dict:=dct,data:=.seq items n,slots:=sl } /\
   R (.ok (.ret (.ref (s.heap.push { cls:=.type "list_iterator",data:=.fields #[.ref l,.int 0 0] }).objs.size)))
    { s with heap:=(s.heap.push { cls:=.type "list_iterator",data:=.fields #[.ref l,.int 0 0] }).push { cls:=.type "enumerate",data:=.fields #[.none,.bool false,.ref s.heap.objs.size,rawInt 1,.none,.none] } }):=by
 refine Meets.of_wp fun prog w A R s h=>?_
 obtain ⟨hp,g,d,tk,os⟩:=s
 obtain ⟨hl,h⟩:=h
 have hsub:=sub_enumerate
 have isl : Heap.IsList (Shared.heap ⟨hp,g,d,tk,os⟩) l items:=⟨_,hl,rfl,n,rfl⟩
 wp_walk using wpAny_loadPart' hl
 refine wpAny_stack_any fun st=>wpAny_pure ?_
 split
 ·rename_i c _ _ _ _ _
  cases hc : (c == Value.type "enumerate")
  ·wp_walk using wpAny_loadPart' hl,wpAny_pyIter_list isl
   exact ⟨_,rfl,h⟩
  ·wp_walk using wpAny_loadPart' hl,wpAny_pyIter_list isl
   exact ⟨_,rfl,h⟩
 ·wp_walk using wpAny_loadPart' hl,wpAny_pyIter_list isl
  exact ⟨_,rfl,h⟩
section
variable {P : Program} {w : World} {A : Around} {E : Value -> Shared -> Prop} {s : Shared}
theorem zxy {self x : Value} {kw : List (Str × Value)} : Meets (Builtin.«object.__init__» ⟨[self,x],kw⟩) (fun _ R s=>s.TypeIs self "enumerate" /\ R (.ok (.ret .none)) s):=by
 refine Meets.of_wp fun P1 w1 A1 R1 s1 hs=>?_
 obtain ⟨hT,hq⟩:=hs
 have hl:=F.called_enumerate.init.lookup
 have hm:=F.called_enumerate.made
 repeat (any_goals (first | assumption | wp_step))
 all_goals exact ⟨_,rfl,hq⟩
theorem z32 (obj x : Value) (t : Tok) : argsOk "object.__init__" ⟨[obj,x],[("start",.int 1 t)]⟩:=by unfold argsOk; kernel_rfl
theorem zzo (x : Value) (t : Tok) : checkTypeCall "enumerate" ⟨[x],[("start",.int 1 t)]⟩ = pure ():=by kernel_rfl
theorem z31 (x : Value) (t : Tok) : checkBuiltinCall "enumerate.__new__" ⟨[.type "enumerate",x],[("start",.int 1 t)]⟩ = pure ():=by kernel_rfl
theorem z58 {l : Addr} {t : Tok} {S : PySem.Spec} {Q : Value -> Shared -> Prop} (g : Meets (Builtin.«enumerate.__new__» ⟨[.type "enumerate",.ref l],[("start",.int 1 t)]⟩) S)
  (h : S A.in1 (wants (fun ob s1=>s1.TypeIs ob "enumerate" /\ Q ob s1) E) s) : wpAny (model P w) A (call (.type "enumerate") [.ref l] [("start",.int 1 t)]) Q E s:=by
 have ft:=F.called_enumerate
 obtain ⟨c0,tl0,hmro⟩:=ft.mro
 have hmade:=ft.made
 have hsub:=ft.sub
 have hnt:=ft.notType
 have hcr:=ft.canCreate
 have hct:=zzo (.ref l) t
 have hcn:=z31 (.ref l) t
 refine wpAny_call (codeAny_of_tree ?_)
 show wpAny _ _ (callAny (.type "enumerate") _) _ _ _
 refine wpAny_pure ⟨Code.quiet_builtin _ (by decide +kernel),codeAny_builtin F.entry_type_call ?_⟩
 rw [Around.under_plain (weight_type_call_type "enumerate" [.ref l] [("start",.int 1 t)]) (units_type_call_type "enumerate" [.ref l] [("start",.int 1 t)])]
 repeat (any_goals (first | assumption | wp_step))
 refine codeAny_mono (codeAny_call_builtin ft.plain F.entry_enumerate_new (wpAny_of_eq hcn (g P w A.in1 _ s h))) fun r1 s1 hr1=>?_
 cases r1 with
 | error e1=>exact hr1
 | ok f1 =>
  cases f1 with
  | ret ob =>
   obtain ⟨hT,hq⟩:=hr1
   have hli:=ft.init.lookup
   have hbi:=ft.init.bind ob
   repeat (any_goals (first | assumption | wp_step))
   refine codeAny_mono (codeAny_call_builtin ft.init.plain F.entry_object_init (ft.init.check _ _ _ _ _ _ _ _ hT (z32 ob (.ref l) t) (zxy P w A.in1 (wants (fun r2 s2=>r2 = .none /\ Q ob s2) E) s1 ⟨hT,rfl,hq⟩))) fun r2 s2 hr2=>?_
   cases r2 with
   | error e2=>exact hr2
   | ok f2 =>
    cases f2 with
    | ret v2 =>
     obtain ⟨rfl,hq2⟩:=hr2
     repeat (any_goals (first | assumption | wp_step))
    | _=>exact hr2.elim
  | _=>exact hr1.elim
end
theorem z2p {P : Program} {w : World} {A : Around} {it : Addr} {fp : List Addr} {n : Nat} {R : Nat -> Value -> Prop} {St : Nat -> Heap -> Prop} (D : Draws P w A it fp n R St) :
  Draws P w A it fp (n + 1) (fun i v=>∃ j,i = j + 1 /\ R j v) (fun i h=>∃ j,i = j + 1 /\ St j h) where
 live:=fun i h ⟨j,_,st⟩=>D.live j h st
 frame:=fun i h h' ⟨j,e,st⟩ k=>⟨j,e,D.frame j h h' st k⟩
 item:=fun i s Q E hi ⟨j,e,st⟩ hQ=>D.item j s Q E (by omega) st fun x h' tk p st' sb=>hQ x h' tk ⟨j,e,p⟩ ⟨j + 1,by omega,st'⟩ sb
 done:=fun s Q E ⟨j,e,st⟩ hE=>D.done s Q E (by
   have : n = j:=by omega
   subst this; exact st) hE
noncomputable def ItS (K : PySem.W.Frag) (l : Addr) : It :=
  ⟨fun i H => ∃ xs x, SqL K H l xs /\ xs[i]? = some x,
   fun i H v H' => ∃ p x, v = .ref p /\ H p = none /\ H' = upd H p (.tup [.int ((i + 1 : Nat) : Int), x]) /\ (∀ xs, SqL K H l xs -> xs[i]? = some x),
   fun i H => ∃ xs, SqL K H l xs /\ xs.length <= i⟩
theorem z7w {P : Program} {w : World} {K : PySem.W.Frag} {elts : List Expr} {kx : Nat} {pos : Pos} (e it l : Addr) (ne : e ≠ it) :
    zhs P w K (.Tuple elts kx pos) (ItS K l) [e, it] e (fun i h => (∃ old, IsEnum h e it ((i + 1 : Nat) : Int) old) /\ h.IsListIter it l i) where
  mem := by simp
  obj := fun i h st b hb => by
    obtain ⟨⟨old, he⟩, ⟨o1, e1, _, d1⟩⟩ := st
    simp only [List.mem_cons, List.not_mem_nil, or_false] at hb
    rcases hb with rfl | rfl
    · exact ⟨_, he, fun v q => by cases q⟩
    · exact ⟨o1, e1, fun v q => by rw [d1] at q; cases q⟩
  keep := fun i h h' st k => by
    obtain ⟨⟨old, he⟩, h1⟩ := st
    exact ⟨⟨old, k e (by simp) _ he⟩, h1.at fun o q => k it (by simp) o q⟩
  item := by
    intro X hP hw hK hc i pins s σ H E I hf st hg
    subst hP hw hK
    obtain ⟨⟨old, he⟩, h1⟩ := st
    obtain ⟨xs, x, q1, hx⟩ := hg
    obtain ⟨its1, r1, p1, z1⟩ := I.list q1
    obtain ⟨u1, e1, ru1⟩ := r1.get hx
    have n1 : l ≠ it := fun z => by
      obtain ⟨o1, g1, c1, _⟩ := h1
      obtain ⟨o2, g2, c2, _⟩ := p1.isList
      rw [z, g1] at g2
      cases g2
      rw [c1] at c2
      injection c2 with q
      exact absurd q (by decide)
    have n2 : e ≠ l := fun z => by
      obtain ⟨o2, g2, c2, _⟩ := p1.isList
      have he' : s.heap.get? e = some _ := he
      rw [z, g2] at he'
      cases he'
      injection c2 with q
      exact absurd q (by decide)
    have hi : i < its1.toArray.size := by
      rw [List.size_toArray]
      exact (List.getElem?_eq_some_iff.mp e1).1
    refine wpAny_pyNext_enum_itemD (i := i + 1) (z2p (Draws.list (A := X.A.in1) (I.ok.hd hc) it l n1 its1.toArray)) he ⟨i, rfl, h1, p1.isList⟩ (by omega) ne (by simp [ne, n2]) fun x' h' tk ⟨j, ej, hx'⟩ a1 ⟨j', ej', a3, _⟩ a5 a6 a7 => ⟨_, rfl, ?_⟩
    have ej : i = j := by omega
    have ej' : i + 1 = j' := by omega
    subst ej ej'
    have ex : x' = u1 := by
      have hx'' : its1[i]? = some x' := by simpa using hx'
      rw [e1] at hx''
      exact (Option.some.inj hx'').symm
    subst ex
    refine wpAny_letOwnedTupleGo_enum (s := { s with heap := h', toks := tk + 1 }) a1 fun h'' b1 b2 => ?_
    have lt : ∀ b ∈ [e, it], b < s.heap.objs.size := fun b hb => by
      simp only [List.mem_cons, List.not_mem_nil, or_false] at hb
      rcases hb with rfl | rfl
      · exact Heap.lt_size he
      · obtain ⟨o, e, _⟩ := h1; exact Heap.lt_size e
    have kk : ∀ b o, b ∉ [e, it] -> s.heap.get? b = some o -> h''.get? b = some o := fun b o hb e => by
      simp only [List.mem_cons, List.not_mem_nil, or_false, not_or] at hb
      obtain ⟨n1, n2⟩ := hb
      exact (b2.2 b n1).trans (a7 b o n1 n2 e)
    have fr : H s.heap.objs.size = none := I.hok.fresh (Nat.le_refl _)
    have I1 : Inv X pins σ H { s with heap := h'', toks := tk + 1 } := I.turnedMany (t' := tk + 1) kk hf
    have hp : h''.get? s.heap.objs.size = some { cls := .type "tuple", data := .seq #[.int ((i + 1 : Nat) : Int) tk, x'] } := (b2.2 _ (Nat.ne_of_gt (lt e (by simp)))).trans a5
    have I2 : Inv X pins σ (upd H s.heap.objs.size (.tup [.int ((i + 1 : Nat) : Int), x])) { s with heap := h'', toks := tk + 1 } :=
      I1.track (I.fpOk (Nat.le_refl _) fr) ⟨(by show 2 <= sizeLine; decide), [.int ((i + 1 : Nat) : Int) tk, x'], .cons ⟨tk, rfl⟩ (.cons ru1 .nil), ⟨_, hp, rfl, _, rfl⟩⟩
    refine ⟨.ref s.heap.objs.size, _, I2, rfl, ⟨_, x, rfl, fr, rfl, fun xs' h => by rw [I.list_inj h q1]; exact hx⟩, ⟨⟨x', ?_⟩, ?_⟩, fun b hb => ?_⟩
    · have : ((i + 1 + 1 : Nat) : Int) = ((i + 1 : Nat) : Int) + 1 := by push_cast; rfl
      rw [this]; exact b1
    · exact a3.at fun o q => (b2.2 it (Ne.symm ne)).trans q
    · rw [za2 (Nat.ne_of_lt (lt b hb))]
      exact (hf b hb).1
  done := by
    intro X hP hw hK hc i pins s σ H E I hf st hg
    subst hP hw hK
    obtain ⟨⟨old, he⟩, h1⟩ := st
    obtain ⟨xs, q1, hend⟩ := hg
    obtain ⟨its1, r1, p1, z1⟩ := I.list q1
    have l1' := r1.length
    have D : Draws X.prog X.w X.A.in1 it [it, l] 0 (fun _ _ => False) (fun _ h => h.IsListIter it l i /\ h.IsList l its1.toArray) :=
      ⟨fun _ _ st => by obtain ⟨⟨o, ho, _⟩, _⟩ := st; exact ⟨o, ho⟩, fun _ _ _ st k => ⟨st.1.at fun o q => k it (by simp) o q, st.2.at fun o q => k l (by simp) o q⟩, fun _ _ _ _ hi => absurd hi (Nat.not_lt_zero _),
       fun s1 Q1 E1 st hE => wpAny_nextOf_list_end (I.ok.hd hc) st.1 st.2 (by simp; omega) fun h' x a b => hE h' x a b⟩
    refine wpAny_pyNext_enum_endD D he ⟨h1, p1.isList⟩ fun h' kk => ⟨rfl, I.turnedMany (t' := s.toks) (ch := [e, it]) (fun b o hb q => ?_) hf⟩
    simp only [List.mem_cons, List.not_mem_nil, or_false, not_or] at hb
    exact kk b o hb.2 q
  self := fun _ _ _ _ _ st h => by obtain ⟨⟨old, he⟩, _⟩ := st; exact wpAny_pyIter_enum he h
section
variable {P : Program} {w : World} {A : Around} {E : Value -> Shared -> Prop} {s : Shared}
theorem z6d {l : Addr} {items : Array Value} {t : Tok} {Q : Value -> Shared -> Prop} (hL : s.heap.IsList l items)
  (h : ∀ h',IsEnum h' (s.heap.objs.size + 1) s.heap.objs.size 1 .none -> h'.IsListIter s.heap.objs.size l 0 ->
   (∀ b o,s.heap.get? b = some o -> h'.get? b = some o) -> Q (.ref (s.heap.objs.size + 1)) { s with heap:=h' }) :
  wpAny (model P w) A (call (.type "enumerate") [.ref l] [("start",.int 1 t)]) Q E s:=by
 obtain ⟨⟨oc,od,odt,os⟩,hol,hcl,nl,hdl⟩:=hL
 simp only at hcl hdl
 subst hcl hdl
 refine z58 (zyg l items nl od os t) ⟨hol,?_⟩
 have sz : (s.heap.push { cls:=.type "list_iterator",data:=.fields #[.ref l,.int 0 0] }).objs.size = s.heap.objs.size + 1:=Heap.size_push ..
 show _ /\ _
 rw [sz]
 have en : IsEnum ((s.heap.push { cls:=.type "list_iterator",data:=.fields #[.ref l,.int 0 0] }).push { cls:=.type "enumerate",data:=.fields #[.none,.bool false,.ref s.heap.objs.size,rawInt 1,.none,.none] }) (s.heap.objs.size + 1) s.heap.objs.size 1 .none:=by
  have q:=Heap.get?_push_size (s.heap.push { cls:=.type "list_iterator",data:=.fields #[.ref l,.int 0 0] }) (o:={ cls:=.type "enumerate",data:=.fields #[.none,.bool false,.ref s.heap.objs.size,rawInt 1,.none,.none] }) rfl
  rw [sz] at q
  exact q
 exact ⟨⟨_,en,rfl⟩,h _ en ⟨_,Heap.get?_push_of_some _ (Heap.get?_push_size _ rfl),rfl,rfl⟩ fun b o x=>Heap.get?_push_of_some _ (Heap.get?_push_of_some _ x)⟩
end
section
variable {M : Model} {A : Around} {E : Value -> Shared -> Prop} {s : Shared}
theorem zw7 {pos : Pos} {T : String} {args : List (Bool × Sem Value)} {kws : List (Option Str × Sem Value)} {Q : Value -> Shared -> Prop} (hpl : args.any (·.1) = false) (hkw : kws.any (·.1.isNone) = false)
  (h : wpAny M A (evalArgs (.type T) true args kws) (fun z s1=>wpAny M A (call (.type T) ([] ++ z.pos) z.kw) Q E s1) E s) : wpAny M A (callWith pos (.type T) [] args kws) Q E s:=by
 unfold callWith
 refine wpAny_bind (wpAny_holding (wpAny_mono h (fun z s1 hz=>wpAny_bind (wpAny_standAt ?_)) fun _ _ e=>e))
 simp only [hpl,hkw,Bool.or_false]
 refine wpAny_bind (wpAny_pure ?_)
 exact wpAny_bind (wpAny_mono hz (fun r s2 hr=>wpAny_bind (wpAny_holding (wpAny_point (wpAny_pure hr)))) fun _ _ e=>e)
end
section
variable {X : Cx} {elts : List Expr} {kx : Nat} {tpos : Pos}
noncomputable def zyd (K : PySem.W.Frag) (te : TE) : TI:=fun σ H R=>te σ H fun x H1=>∃ l,x = .ref l /\ (∃ xs,SqL K H1 l xs) /\ R (ItS K l) H1
theorem zz5 {a : Expr} {te : TE} {p pos kp cp : Pos} {kn : Nat} (hg : Gl X "enumerate") (hm : X.mg "enumerate" = none) (ha : PE X a te) (hs : starEach [a] X.env = (false,eval a X.env) :: starEach [] X.env:=by rfl) :
  PI X (.Tuple elts kx tpos) (.Call (.Name "enumerate" p) [a] [⟨some "start",.Constant (.int 1) kn cp,kp⟩] pos) (zyd X.K te):=by
 intro pins s σ H R I h
 refine wpAny_Call_Name_kw (zf5 I hg hm boot_enumerate ?_)
 rw [hs]
 refine zw7 (by rfl) (by rfl) (evalArgs_kwB (by rfl) ?_)
 refine Calls.spliced_cons (thn (ha pins s σ H _ I h) fun u s1 q_=>?_)
 obtain ⟨x,H1,I1,r1,l,e1,⟨xs,h1⟩,q⟩:=q_
 subst e1
 cases r1
 refine wpAny_pure ?_
 refine evalAll_cons (wpAny_bind (wpAny_Constant_int (wpAny_bind (wpAny_standAt (wpAny_pure ?_)))))
 refine evalAll_nil ?_
 have I1':=I1.tok (s1.toks + 1)
 obtain ⟨its1,r1,p1,z1⟩:=I1'.list h1
 refine z6d p1.isList fun h' a1 a4 a7=>?_
 refine wpAny_pyIter_enum a1 ?_
 have I2:=I1'.kept (t':=s1.toks + 1) a7
 refine ⟨_,[s1.heap.objs.size + 1,s1.heap.objs.size],_,_,H1,rfl,I2,z7w _ _ _ (Nat.succ_ne_self _),⟨⟨_,a1⟩,a4⟩,fun b hb=>?_,q⟩
 simp only [List.mem_cons,List.not_mem_nil,or_false] at hb
 have hle : s1.heap.objs.size <= b:=by
  rcases hb with rfl | rfl
  ·exact Nat.le_add_right _ _
  ·exact Nat.le_refl _
 exact I1.fpOk hle (I1.hok.fresh hle)
end
noncomputable def zyu : List D -> Option (List D)
 | [x]=>(lsD x).map (zfz 1)
 | _=>none
noncomputable def zkw (f : List Sl -> Option D) (ρ : List Sl) : Option (List D):=(f ρ).bind fun x=>zyu [x]
theorem z8v {α : Type} {f : List Sl -> Option D} {ρ : List Sl} {g : α -> D} {xs : List α} (d : α) (e : f ρ = some (.lst (xs.map g))) : zkw f ρ = some ((List.range xs.length).map fun i=>D.tup [.int ((i + 1 : Nat) : Int),g (xs.getD i d)]):=by
 unfold zkw
 rw [e]
 show some (zfz 1 (xs.map g)) = _
 refine congrArg some (List.ext_getElem? fun i=>?_)
 rw [zk7,List.getElem?_map,List.getElem?_map]
 by_cases h : i < xs.length
 ·have eg : xs.getD i d = xs[i]:=by rw [List.getD_eq_getElem?_getD,List.getElem?_eq_getElem h]; rfl
  rw [List.getElem?_range h,List.getElem?_eq_getElem h,Nat.add_comm 1 i]
  show some (D.tup [.int ((i + 1 : Nat) : Int),g xs[i]]) = some (D.tup [.int ((i + 1 : Nat) : Int),g (xs.getD i d)])
  rw [eg]
 ·rw [List.getElem?_eq_none (by omega),List.getElem?_eq_none (by rw [List.length_range]; omega)]
  rfl
section
variable {c : Str -> Addr} {X : Cx} {a : Expr} {pos p kp cp : Pos} {kn : Nat}
theorem zyj {f : List Sl -> Option D} {elts : List Expr} {kx : Nat} {tpos : Pos} (hg : Gl X "enumerate") (hm : X.mg "enumerate" = none) (ha : DE c X a f) (hs : starEach [a] X.env = (false,eval a X.env) :: starEach [] X.env:=by rfl) :
  DI c X (.Tuple elts kx tpos) (.Call (.Name "enumerate" p) [a] [⟨some "start",.Constant (.int 1) kn cp,kp⟩] pos) (zkw f) :=
 PI.imp (zz5 hg hm ha hs) fun σ H R q_=>by
  obtain ⟨Hf0,H0,Hf,ρ,ds,st,ef,k⟩:=q_
  unfold zkw at ef
  cases e1 : f ρ with
  | none=>rw [e1] at ef; cases ef
  | some dx =>
   rw [e1] at ef
   replace ef : (lsD dx).map (zfz 1) = some ds:=ef
   refine ⟨Hf0,H0,Hf,ρ,dx,st,e1,fun v Hf' H' x r=>?_⟩
   cases ex : lsD dx with
   | none=>rw [ex] at ef; cases ef
   | some xs =>
    rw [ex] at ef
    cases ef
    obtain ⟨l1,w1,el1,q1,r1⟩:=zg0 ex r
    subst el1
    refine ⟨l1,rfl,⟨w1,x.s.seq q1⟩,k _ Hf' H' x fun Hf2 H2 f2 s2 i=>?_⟩
    have g1 : SqL X.K H2 l1 w1:=(f2.trans s2).seq q1
    have h1:=r1.length
    refine ⟨fun d ed=>?_,fun ei=>⟨w1,g1,by rw [zn5] at ei; omega⟩⟩
    rw [zk7] at ed
    cases hx : xs[i]? with
    | none=>rw [hx] at ed; cases ed
    | some x' =>
     rw [hx] at ed
     cases ed
     obtain ⟨u1,eu1,ru1⟩:=r1.get hx
     refine ⟨⟨w1,u1,g1,eu1⟩,fun z H3 ⟨pp,z1,ez,hp,eh,y1⟩=>?_⟩
     subst ez eh
     have a1:=y1 w1 g1
     rw [eu1] at a1; cases a1
     exact ⟨upd Hf2 pp (.tup [.int ((i + 1 : Nat) : Int),u1]),Ext.new s2 hp,pp,[.int ((i + 1 : Nat) : Int),u1],rfl,zbm,.cons (by rw [Nat.add_comm 1 i]; rfl) (.cons (ru1.up (f2.trans (zcg (s2.free hp)))) .nil)⟩
end
noncomputable abbrev EnO (h : Heap) (e it : Addr) (i : Int) (y : Value) (a : Addr) (f : Bool) : Prop :=
 h.get? e = some { cls:=.type "enumerate",dict:=none,data:=.fields #[rawInt a,.bool f,.ref it,rawInt i,.none,y],slots:=#[] }
section
variable {P : Program} {w : World} {A : Around} {E : Value -> Shared -> Prop} {s : Shared}
theorem z2w {e it l a : Addr} {f : Bool} {oa : Obj} {i : Nat} {its : Array Value} {x y : Value} {Q : Option Value -> Shared -> Prop} (he : EnO s.heap e it i y a f) (ha : s.heap.get? a = some oa) (nae : a ≠ e) (nai : a ≠ it)
  (hit : s.heap.IsListIter it l i) (hl : s.heap.IsList l its) (hx : its[i]? = some x) (hne : e ≠ it)
  (hQ : ∀ h',EnO h' e it ((i : Int) + 1) y a true -> h'.IsListIter it l (i + 1) -> h'.get? s.heap.objs.size = some { cls:=.type "tuple",data:=.seq #[.int i s.toks,x] } -> (∀ b o,b ≠ e -> b ≠ it -> s.heap.get? b = some o -> h'.get? b = some o) -> Q (some (.ref s.heap.objs.size)) { s with heap:=h',toks:=s.toks + 1 }) :
  wpAny (model P w) A (pyNext (.ref e)) Q E s:=by
 obtain ⟨hp,g,d,tk,os⟩:=s
 have hT : Shared.TypeIs ⟨hp,g,d,tk,os⟩ (.ref e) "enumerate":=⟨_,he,rfl⟩
 unfold pyNext
 refine wpAny_bind (wpAny_attempt (wpAny_callSpecial?_slot (name:=Str.ofString "__next__") hT F.slot_enumerate_next (wpAny_call_entry F.slot_enumerate_next hT F.entry_enumerate_next ?_ (F.args_enumerate_next_1 _))))
 change wpAny (model P w) _ (field (.ref e) 2 >>= _) _ _ _
 refine wpAny_bind (wpAny_field he rfl (x:=.ref it) rfl (wpAny_bind (wpAny_nextOf_list_item hit hl hx fun h1 hit1 sb1=>?_)))
 have sb1 : Heap.SameBut it hp h1:=sb1
 have he1 : EnO h1 e it i y a f:=(sb1.2 e hne).trans he
 change wpAny (model P w) _ (field (.ref e) 3 >>= _) _ _ ⟨h1,g,d,tk,os⟩
 refine wpAny_bind (wpAny_field he1 rfl (x:=rawInt i) rfl ?_)
 change wpAny (model P w) _ (field (.ref e) 4 >>= _) _ _ ⟨h1,g,d,tk,os⟩
 refine wpAny_bind (wpAny_field he1 rfl (x:=.none) rfl ?_)
 change wpAny (model P w) _ (mkInt i >>= _) _ _ ⟨h1,g,d,tk,os⟩
 refine wpAny_bind (wpAny_mkInt ?_)
 change wpAny (model P w) _ (setField (.ref e) 3 (rawInt ((i : Int) + 1)) >>= _) _ _ ⟨h1,g,d,tk + 1,os⟩
 refine wpAny_bind (wpAny_setField_rec he1 (by simp) fun h2 he2 sb2=>?_)
 have sb2 : Heap.SameBut e h1 h2:=sb2
 have he2 : EnO h2 e it ((i : Int) + 1) y a f:=he2
 change wpAny (model P w) _ (setField (.ref e) 4 .none >>= _) _ _ ⟨h2,g,d,tk + 1,os⟩
 refine wpAny_bind (wpAny_setField_rec he2 (by simp) fun h3 he3 sb3=>?_)
 have sb3 : Heap.SameBut e h2 h3:=sb3
 have he3 : EnO h3 e it ((i : Int) + 1) y a f:=he3
 change wpAny (model P w) _ (newTuple [.int i tk,x] >>= _) _ _ ⟨h3,g,d,tk + 1,os⟩
 refine wpAny_bind (wpAny_newTuple ?_)
 have sz : h3.objs.size = hp.objs.size:=by rw [sb3.1,sb2.1,sb1.1]
 have lte : e < hp.objs.size:=Heap.lt_size he
 obtain ⟨h4,eh4⟩ : ∃ h4,h4 = h3.push { cls:=.type "tuple",data:=.seq #[.int i tk,x] }:=⟨_,rfl⟩
 have he4 : EnO h4 e it ((i : Int) + 1) y a f:=by rw [eh4]; exact Heap.get?_push_of_some _ he3
 have tu4 : h4.get? hp.objs.size = some { cls:=.type "tuple",data:=.seq #[.int i tk,x] }:=by rw [eh4,<- sz]; exact Heap.get?_push_size _ rfl
 have kp4 : ∀ b o,b ≠ e -> b ≠ it -> hp.get? b = some o -> h4.get? b = some o:=fun b o b1 b2 hb=>by
  rw [eh4]
  exact Heap.get?_push_of_some _ (sb3.extBut b o b1 (sb2.extBut b o b1 (sb1.extBut b o b2 hb)))
 have it4 : h4.IsListIter it l (i + 1):=by
  obtain ⟨o,ho,r⟩:=(hit1.extBut sb2.extBut (Ne.symm hne)).extBut sb3.extBut (Ne.symm hne)
  rw [eh4]
  exact ⟨o,Heap.get?_push_of_some _ ho,r⟩
 have al4:=kp4 a oa nae nai ha
 change wpAny (model P w) _ (Builtin.SmallTypes.ownedTupleIsFree (.ref e) >>= _) _ _ ⟨h3.push { cls:=.type "tuple",data:=.seq #[.int i tk,x] },g,d,tk + 1,os⟩
 rw [sz,<- eh4]
 refine wpAny_bind ?_
 unfold Builtin.SmallTypes.ownedTupleIsFree
 refine wpAny_bind (wpAny_field he4 rfl (x:=rawInt a) rfl ?_)
 change wpAny (model P w) _ (loadIfAlive ((a : Int).toNat) >>= _) _ _ _
 rw [Int.toNat_natCast]
 refine wpAny_bind (PySem.W.kdx_alive al4 ?_)
 simp only [Option.isNone_some,Bool.false_eq_true,if_false]
 refine wpAny_bind (wpAny_field he4 rfl (x:=.bool f) rfl ?_)
 cases f with
 | true =>
  rw [if_neg (show ¬ ((Value.bool true != Value.bool true) = true) from Bool.false_ne_true)]
  refine wpAny_pure ?_
  simp only [Bool.false_eq_true,if_false]
  exact wpAny_pure ⟨_,rfl,wpAny_pure (hQ h4 he4 it4 tu4 kp4)⟩
 | false =>
  rw [if_pos (show (Value.bool false != Value.bool true) = true from rfl)]
  refine wpAny_bind (wpAny_setField_rec he4 (by simp) fun h5 he5 sb5=>?_)
  have sb5 : Heap.SameBut e h4 h5:=sb5
  have he5 : EnO h5 e it ((i : Int) + 1) y a true:=he5
  refine wpAny_pure ?_
  simp only [Bool.false_eq_true,if_false]
  exact wpAny_pure ⟨_,rfl,wpAny_pure (hQ h5 he5 (it4.extBut sb5.extBut (Ne.symm hne)) (sb5.extBut _ _ (Nat.ne_of_gt lte) tu4) fun b o b1 b2 hb=>sb5.extBut b o b1 (kp4 b o b1 b2 hb))⟩
theorem z1w {e it l a : Addr} {f : Bool} {i : Nat} {its : Array Value} {y : Value} {Q : Option Value -> Shared -> Prop} (hh : A.handled = none) (he : EnO s.heap e it i y a f)
  (hit : s.heap.IsListIter it l i) (hl : s.heap.IsList l its) (hx : its[i]? = none) (hQ : ∀ h',Heap.ExtBut it s.heap h' -> Q none { s with heap:=h' }) : wpAny (model P w) A (pyNext (.ref e)) Q E s:=by
 have hT : s.TypeIs (.ref e) "enumerate":=⟨_,he,rfl⟩
 unfold pyNext
 refine wpAny_bind (wpAny_attempt (wpAny_callSpecial?_slot (name:=Str.ofString "__next__") hT F.slot_enumerate_next (wpAny_call_entry F.slot_enumerate_next hT F.entry_enumerate_next ?_ (F.args_enumerate_next_1 _))))
 change wpAny (model P w) _ (field (.ref e) 2 >>= _) _ _ _
 refine wpAny_bind (wpAny_field he rfl (x:=.ref it) rfl (wpAny_bind (wpAny_nextOf_list_end hh hit hl hx fun h' x q1 q2=>?_)))
 obtain ⟨o,ho,hc⟩:=q2
 exact wpAny_bind (wpAny_isInstance (T:="StopIteration") (b:=true) ⟨o,ho,hc⟩ isSubtype_stop (wpAny_pure (hQ _ q1)))
theorem zvn : typeLookup (.type "enumerate") "__len__" = pure none:=by (rw [typeLookup_type,builtinLookup_eq_fast]; kernel_rfl)
theorem zv2 : typeLookup (.type "enumerate") "__length_hint__" = pure none:=by (rw [typeLookup_type,builtinLookup_eq_fast]; kernel_rfl)
end
inductive Lay (S : Addr) (H1 : Hp) (xs : List V) : Nat -> List V -> Hp -> Prop where
 | nil : Lay S H1 xs 0 [] H1
 | snoc {i : Nat} {vs : List V} {H : Hp} {x : V} {p : Addr} (h : Lay S H1 xs i vs H) (hx : xs[i]? = some x) (hp : H p = none) (ne : p ≠ S) : Lay S H1 xs (i + 1) (vs ++ [.ref p]) (upd H p (.tup [.int i,x]))
theorem Lay.len {S : Addr} {H1 H : Hp} {xs vs : List V} {i : Nat} (h : Lay S H1 xs i vs H) : vs.length = i:=by
 induction h with
 | nil=>rfl
 | snoc _ _ _ _ ih=>rw [List.length_append,ih]; rfl
theorem Lay.none {S : Addr} {H1 H : Hp} {xs vs : List V} {i : Nat} (h : Lay S H1 xs i vs H) (h0 : H1 S = none) : H S = none:=by
 induction h with
 | nil=>exact h0
 | snoc _ _ _ ne ih=>rw [za2 (Ne.symm ne)]; exact ih
theorem zvf {H : Hp} {a b : Addr} {o u : HO} (h : a ≠ b) : upd (upd H a o) b u = upd (upd H b u) a o:=by
 funext c
 by_cases hb : c = b
 ·subst hb; rw [zbm,za2 (Ne.symm h),zbm]
 ·by_cases ha : c = a
  ·subst ha; rw [za2 h,zbm,zbm]
  ·rw [za2 hb,za2 ha,za2 ha,za2 hb]
noncomputable def EnS (e it : Addr) (i : Nat) (h : Heap) : Prop:=(i = 0 /\ IsEnum h e it 0 .none) \/ ∃ y a f oa,EnO h e it i y a f /\ h.get? a = some oa /\ a ≠ e /\ a ≠ it
theorem EnS.there {e it : Addr} {i : Nat} {h : Heap} (x : EnS e it i h) : ∃ o,h.get? e = some o /\ o.cls = .type "enumerate":=by
 rcases x with ⟨_,x⟩ | ⟨_,_,_,_,x,_⟩
 ·exact ⟨_,x,rfl⟩
 ·exact ⟨_,x,rfl⟩
section
variable {X : Cx} {pins : List (Addr × Obj)} {σ : St}
theorem Lay.same {S : Addr} {H1 H : Hp} {xs vs : List V} {i : Nat} (h : Lay S H1 xs i vs H) : zau H1 H:=by
 induction h with
 | nil=>exact zau.refl _
 | snoc _ _ hp _ ih=>exact ih.trans (zcg hp)
theorem zwi (hc : X.calm = true) {e it l S : Addr} {xs : List V} {H1 : Hp} (hl : SqL X.K H1 l xs) (ne : e ≠ it) (nS : S ≠ e /\ S ≠ it) (h0 : H1 S = none) {R : Result -> Shared -> Prop} (B : Around) (hB : B.handled = none)
  (kR : ∀ vs H2 s',Lay S H1 xs xs.length vs H2 -> Inv X pins σ (upd H2 S (.lst vs)) s' -> R (.ok (.ret .none)) s') :
  ∀ (k i : Nat) (s : Shared) (H2 : Hp) (vs : List V),xs.length - i = k -> i <= xs.length -> Lay S H1 xs i vs H2 -> Inv X pins σ (upd H2 S (.lst vs)) s -> EnS e it i s.heap -> s.heap.IsListIter it l i -> (∀ b ∈ [e,it],zdz X pins (upd H2 S (.lst vs)) b) ->
   codeAny (model X.prog X.w) B (.builtin "list.extend.loop" ⟨[.ref S,.ref e,.none],[]⟩) R s:=by
 intro k
 induction k with
 | zero =>
  intro i s H2 vs hk hi lay I en hit hf
  have ei : i = xs.length:=by omega
  have sq : SqL X.K (upd H2 S (.lst vs)) l xs:=(lay.same.trans (zcg (lay.none h0))).seq hl
  obtain ⟨its,rr,pl,hz⟩:=I.list sq
  have hx : its.toArray[i]? = none:=by
   rw [List.getElem?_toArray]
   exact List.getElem?_eq_none (by rw [<- rr.length]; omega)
  have fin : ∀ h',Heap.ExtBut it s.heap h' -> R (.ok (.ret .none)) { s with heap:=h' }:=fun h' x=>by
   refine kR vs H2 _ (by rw [<- ei]; exact lay) (I.turnedMany (t':=s.toks) (ch:=[e,it]) (fun b o hb q=>x b o (fun z=>hb (by rw [z]; exact List.mem_cons_of_mem _ List.mem_cons_self)) q) hf)
  apply codeAny_builtin F.entry_extend_loop
  rw [Around.under_plainId (F.plain_extend_loop) _]
  change wpAny (model X.prog X.w) B.in1 (pyNext (.ref e) >>= _) _ _ _
  rcases en with ⟨e0,he⟩ | ⟨y,a,f,oa,he,_,_,_⟩
  ·have e0' : i = 0:=e0
   refine wpAny_bind (wpAny_pyNext_enum_end (i:=i) hB (by rw [e0']; exact he) hit pl.isList hx fun h' x=>wpAny_pure (fin h' x))
  ·exact wpAny_bind (z1w hB he hit pl.isList hx fun h' x=>wpAny_pure (fin h' x))
 | succ k ih =>
  intro i s H2 vs hk hi lay I en hit hf
  have sq : SqL X.K (upd H2 S (.lst vs)) l xs:=(lay.same.trans (zcg (lay.none h0))).seq hl
  obtain ⟨its,rr,pl,hz⟩:=I.list sq
  have hlt : i < xs.length:=by omega
  obtain ⟨x,ex⟩ : ∃ x,xs[i]? = some x:=⟨xs[i],List.getElem?_eq_getElem hlt⟩
  obtain ⟨u,eu,ru⟩:=rr.get ex
  have hx : its.toArray[i]? = some u:=by rw [List.getElem?_toArray]; exact eu
  obtain ⟨oe,ge,_⟩:=en.there
  have lte : e < s.heap.objs.size:=Heap.lt_size ge
  have lti : it < s.heap.objs.size:=by obtain ⟨o,g,_⟩:=hit; exact Heap.lt_size g
  have ltS : S < s.heap.objs.size:=by
   obtain ⟨_,_,_,_,_,g⟩:=I.lstM (l:=S) zbm
   exact Heap.lt_size g
  obtain ⟨p,hp⟩ : ∃ p,p = s.heap.objs.size:=⟨_,rfl⟩
  have pS : p ≠ S:=by rw [hp]; exact Nat.ne_of_gt ltS
  have pe : p ≠ e:=by rw [hp]; exact Nat.ne_of_gt lte
  have pi : p ≠ it:=by rw [hp]; exact Nat.ne_of_gt lti
  have Hp : H2 p = none:=by
   have:=I.fresh
   rw [<- hp,za2 pS] at this
   exact this
  apply codeAny_builtin F.entry_extend_loop
  rw [Around.under_plainId (F.plain_extend_loop) _]
  change wpAny (model X.prog X.w) B.in1 (pyNext (.ref e) >>= _) _ _ _
  have go : ∀ h',EnS e it (i + 1) h' -> h'.IsListIter it l (i + 1) -> h'.get? p = some { cls:=.type "tuple",data:=.seq #[.int i s.toks,u] } -> (∀ b o,b ≠ e -> b ≠ it -> s.heap.get? b = some o -> h'.get? b = some o) ->
    wpAny (model X.prog X.w) B.in1 (updateSeq S (·.push (.ref p)) >>= fun _=>again (.builtin "list.extend.loop" ⟨[.ref S,.ref e,.none],[]⟩)) (fun fin s'=>match fin with | .done f=>R (.ok f) s' | .again c'=>c'.quiet = true /\ codeAny (model X.prog X.w) B c' R s') (fun u s'=>R (.error u) s') { s with heap:=h',toks:=s.toks + 1 }:=fun h' en' hit' tu kp=>by
   have tupOk : IsTup (s.heap.push { cls:=.type "tuple",data:=.seq #[.int i s.toks,u] }) p #[.int i s.toks,u]:=⟨_,by rw [hp]; exact Heap.get?_push_size _ rfl,rfl,_,rfl⟩
   have I1:=I.laid (a:=p) (o:=.tup [.int i,x]) (h':=s.heap.push { cls:=.type "tuple",data:=.seq #[.int i s.toks,u] }) (t':=s.toks + 1) (fun b o q=>Heap.get?_push_of_some _ q) (Nat.le_of_eq hp.symm) ⟨Nat.le_trans (show 2 <= 1000 by decide) (Nat.le_of_lt (zmw (Nat.le_refl _))),[.int i s.toks,u],.cons ⟨_,rfl⟩ (.cons ru .nil),tupOk⟩
   have hf1 : ∀ b ∈ [e,it],zdz X pins (upd (upd H2 S (.lst vs)) p (.tup [.int i,x])) b:=fun b hb=>⟨by
    rw [za2 (fun z=>?_)]
    ·exact (hf b hb).1
    ·rcases List.mem_cons.mp hb with y | y
     ·exact pe (z.symm.trans y)
     ·exact pi (z.symm.trans (List.mem_singleton.mp y)),(hf b hb).2⟩
   have I2:=I1.turnedMany (h':=h') (t':=s.toks + 1) (ch:=[e,it]) (fun b o hb q=>by
    by_cases hb2 : b = p
    ·subst hb2
     have q2 : (s.heap.push { cls:=.type "tuple",data:=.seq #[.int i s.toks,u] }).get? b = some { cls:=.type "tuple",data:=.seq #[.int i s.toks,u] }:=by rw [hp]; exact Heap.get?_push_size _ rfl
     have q : (s.heap.push { cls:=.type "tuple",data:=.seq #[.int i s.toks,u] }).get? b = some o:=q
     rw [q2] at q
     rw [<- q]
     exact tu
    ·have q : (s.heap.push { cls:=.type "tuple",data:=.seq #[.int i s.toks,u] }).get? b = some o:=q
     rw [Heap.get?_push_ne _ _ _ (by rw [<- hp]; exact hb2)] at q
     simp only [List.mem_cons,List.not_mem_nil,or_false,not_or] at hb
     exact kp b o hb.1 hb.2 q) hf1
   have hH : upd (upd H2 S (.lst vs)) p (.tup [.int i,x]) S = some (.lst vs):=by rw [za2 (Ne.symm pS)]; exact zbm
   obtain ⟨z2,jts,n2,rv,lv,gS⟩:=I2.lstM hH
   have lay':=Lay.snoc lay ex Hp pS
   have vl:=lay.len
   have I3:=I2.lset (its':=jts ++ [.ref p]) (f:=(·.push (.ref p))) (ys:=vs ++ [.ref p]) (t':=s.toks + 1) hH gS (by simp) (rv.append (.cons (show zaw (.ref p) (.ref p) from rfl) .nil)) (by rw [List.length_append,List.length_singleton,vl]; omega)
   rw [zvf (Ne.symm pS),zld] at I3
   have hf3 : ∀ b ∈ [e,it],zdz X pins (upd (upd H2 p (.tup [.int i,x])) S (.lst (vs ++ [.ref p]))) b:=fun b hb=>⟨by
    have bS : b ≠ S:=by
     rcases List.mem_cons.mp hb with y | y
     ·rw [y]; exact Ne.symm nS.1
     ·rw [List.mem_singleton.mp y]; exact Ne.symm nS.2
    have:=(hf1 b hb).1
    rw [zvf (Ne.symm pS),za2 bS] at this
    rw [za2 bS]
    exact this,(hf b hb).2⟩
   have oth : ∀ b o,b ≠ S -> h'.get? b = some o -> (h'.update S (Obj.mapSeq (·.push (.ref p)))).get? b = some o:=fun b o hb q=>(Heap.get?_update_other _ _ (Ne.symm hb)).trans q
   refine wpAny_bind (wpAny_updateSeq gS rfl (wpAny_pure ⟨plainId_quiet F.plain_extend_loop _,ih (i + 1) _ _ _ (by omega) (by omega) lay' I3 ?_ ?_ hf3⟩) ?_ ?_)
   ·rcases en' with ⟨z,_⟩ | ⟨y,a,f,oa,he,ha,n1,n2'⟩
    ·cases z
    ·by_cases haS : a = S
     ·subst haS
      exact .inr ⟨y,a,f,_,oth e _ (Ne.symm nS.1) he,Heap.get?_update_self _ gS rfl,n1,n2'⟩
     ·exact .inr ⟨y,a,f,oa,oth e _ (Ne.symm nS.1) he,oth a oa haS ha,n1,n2'⟩
   ·obtain ⟨o,g,r⟩:=hit'
    exact ⟨o,oth it o (Ne.symm nS.2) g,r⟩
   ·rw [List.size_toArray,<- lv]; exact z2
   ·show (jts.toArray.push _).size <= _
    rw [Array.size_push,List.size_toArray,<- lv]
    omega
  rcases en with ⟨e0,he⟩ | ⟨y,a,f,oa,he,ha,n1,n2⟩
  ·refine wpAny_bind (wpAny_pyNext_enum_item (i:=i) (by rw [e0]; exact he) hit pl.isList hx ne fun h' a1 a2 a3 a4 a5=>?_)
   rw [<- hp] at a1 a3 ⊢
   exact go h' (.inr ⟨u,p,false,_,a1,a3,pe,pi⟩) a2 a3 a5
  ·refine wpAny_bind (z2w he ha n1 n2 hit pl.isList hx ne fun h' a1 a2 a3 a5=>?_)
   rw [<- hp] at a3 ⊢
   exact go h' (.inr ⟨y,a,true,oa,a1,a5 a oa n1 n2 ha,n1,n2⟩) a2 a3 a5
theorem z0n {s : Shared} {A : Around} {P : Program} {w : World} {E : Value -> Shared -> Prop} {e : Addr} {Q : Bool -> Shared -> Prop} (hT : s.TypeIs (.ref e) "enumerate") (h : Q true s) : wpAny (model P w) A (Builtin.List.listLengthHint (.ref e)) Q E s:=by
 unfold Builtin.List.listLengthHint
 refine wpAny_bind (wpAny_specialOf hT zvn ?_)
 change wpAny (model P w) A (specialOf (Value.ref e) (Str.ofString "__length_hint__") >>= _) _ _ _
 exact wpAny_bind (wpAny_specialOf hT zv2 (wpAny_pure h))
theorem z5h (hc : X.calm = true) {s : Shared} {H1 : Hp} {l e it : Addr} {xs : List V} {E : Value -> Shared -> Prop} {Q : Value -> Shared -> Prop} (I : Inv X pins σ H1 s) (hl : SqL X.K H1 l xs) (ne : e ≠ it) (he : IsEnum s.heap e it 0 .none) (hit : s.heap.IsListIter it l 0) (hf : ∀ b ∈ [e,it],zdz X pins H1 b)
  (kQ : ∀ S vs H2 s',H1 S = none -> Lay S H1 xs xs.length vs H2 -> Inv X pins σ (upd H2 S (.lst vs)) s' -> Q (.ref S) s') : wpAny (model X.prog X.w) X.A (call (.type "list") [.ref e]) Q E s:=by
 have lte : e < s.heap.objs.size:=Heap.lt_size he
 have lti : it < s.heap.objs.size:=by obtain ⟨o,g,_⟩:=hit; exact Heap.lt_size g
 obtain ⟨S,hS0⟩ : ∃ S,S = s.heap.objs.size:=⟨_,rfl⟩
 have Se : S ≠ e:=by rw [hS0]; exact Nat.ne_of_gt lte
 have Si : S ≠ it:=by rw [hS0]; exact Nat.ne_of_gt lti
 have HS : H1 S = none:=by rw [hS0]; exact I.fresh
 refine callType_codes (Q₁:=fun obj s1=>obj = .ref s.heap.objs.size /\ s1 = { s with heap:=s.heap.push { cls:=.type "list",data:=.seq #[] } }) F.called_list (F.typeCall_list_1 _) F.entry_list_init (code_list_new _ ⟨rfl,rfl⟩) fun obj s1 q1=>?_
 obtain ⟨rfl,rfl⟩:=q1
 have hS : (s.heap.push { cls:=.type "list",data:=.seq #[] }).get? s.heap.objs.size = some { cls:=.type "list",data:=.seq #[] }:=Heap.get?_push_size _ rfl
 have I1 : Inv X pins σ (upd H1 s.heap.objs.size (.lst [])) { s with heap:=s.heap.push { cls:=.type "list",data:=.seq #[] } }:=I.lnew (its:=[]) (t':=s.toks) .nil (Nat.zero_le _)
 refine ⟨⟨_,hS,rfl⟩,F.args_list_init_2 _ _,?_⟩
 rw [<- hS0] at hS I1 ⊢
 change wpAny (model X.prog X.w) X.A.in1.in1 (Builtin.List.listItems (.ref S) >>= _) _ _ _
 apply wpAny_bind
 unfold Builtin.List.listItems
 refine wpAny_bind (wpAny_seqItems hS rfl (wpAny_pure ?_))
 change wpAny (model X.prog X.w) X.A.in1.in1 (updateSeq S (fun _=>#[]) >>= _) _ _ _
 apply wpAny_bind
 refine wpAny_updateSeq hS rfl ?_
 apply wpAny_bind
 apply wpAny_letGo
 have I2:=I1.lset (its:=[]) (its':=[]) (f:=fun _=>#[]) (ys:=[]) (t':=s.toks) zbm hS rfl .nil (Nat.zero_le _)
 rw [zld] at I2
 have oth : ∀ b o,b ≠ S -> s.heap.get? b = some o -> ((s.heap.push { cls:=.type "list",data:=.seq #[] }).update S (Obj.mapSeq (fun _=>(#[] : Array Value)))).get? b = some o:=fun b o hb q=>(Heap.get?_update_other _ _ (Ne.symm hb)).trans (Heap.get?_push_of_some _ q)
 obtain ⟨h2,eh2⟩ : ∃ h2,h2 = (s.heap.push { cls:=.type "list",data:=.seq #[] }).update S (Obj.mapSeq (fun _=>(#[] : Array Value))):=⟨_,rfl⟩
 rw [<- eh2] at oth
 change Inv X pins σ (upd H1 S (.lst [])) { s with heap:=(s.heap.push { cls:=.type "list",data:=.seq #[] }).update S (Obj.mapSeq (fun _=>(#[] : Array Value))),toks:=s.toks } at I2
 rw [<- eh2] at I2
 change wpAny (model X.prog X.w) X.A.in1.in1 (Builtin.List.listExtendWith (.ref S) (.ref e) .none) _ _ { s with heap:=(s.heap.push { cls:=.type "list",data:=.seq #[] }).update S (Obj.mapSeq (fun _=>(#[] : Array Value))) }
 rw [<- eh2]
 have he2 : IsEnum h2 e it 0 .none:=oth e _ (Ne.symm Se) he
 have hT : Shared.TypeIs { s with heap:=h2 } (.ref e) "enumerate":=⟨_,he2,rfl⟩
 unfold Builtin.List.listExtendWith
 refine wpAny_bind (wpAny_typeOf hT ?_)
 have q1 : Builtin.List.listSameRef (.ref S) (.ref e) = false:=by simp [Builtin.List.listSameRef,Se]
 have q2 : (Value.type "enumerate" == Value.type "list") = false:=by decide
 have q3 : (Value.type "enumerate" == Value.type "tuple") = false:=by decide
 simp only [q1,q2,q3,Bool.or_false,Bool.false_eq_true,if_false]
 refine wpAny_bind (wpAny_pyIter_enum he2 ?_)
 refine wpAny_bind (wpAny_holding (z0n hT ?_))
 simp only [Bool.true_or,if_true]
 refine wpAny_bind (wpAny_rule ?_)
 obtain ⟨_,jts,n2,rv,lv,gS⟩:=I2.lstM (l:=S) zbm
 have ej : jts = []:=List.eq_nil_of_length_eq_zero (by rw [<- lv]; rfl)
 subst ej
 unfold Builtin.List.listTouch
 refine wpAny_bind (wpAny_bind (wpAny_updateSeq gS rfl ?_))
 have I3:=I2.lset (its:=[]) (its':=[.none]) (f:=(·.push .none)) (ys:=[.non]) (t':=s.toks) zbm gS rfl (.cons rfl .nil) (Nat.le_trans (show 1 <= 1000 by decide) (Nat.le_of_lt (zmw (Nat.le_refl _))))
 rw [zld] at I3
 obtain ⟨z3,kts,n3,rv3,lv3,gS3⟩:=I3.lstM (l:=S) zbm
 obtain ⟨v3,ek⟩ : ∃ v3,kts = [v3]:=List.length_eq_one_iff.mp (by rw [<- lv3]; rfl)
 subst ek
 refine wpAny_updateSeq gS3 rfl ?_ (by show 1 <= _; exact z3) (by show 0 <= _; exact Nat.zero_le _)
 have I4:=I3.lset (its:=[v3]) (its':=[]) (f:=(·.pop)) (ys:=[]) (t':=s.toks) zbm gS3 rfl .nil (Nat.zero_le _)
 rw [zld] at I4
 have oth4 : ∀ b o,b ≠ S -> s.heap.get? b = some o -> ((h2.update S (Obj.mapSeq (·.push Value.none))).update S (Obj.mapSeq (·.pop))).get? b = some o:=fun b o hb q=>(Heap.get?_update_other _ _ (Ne.symm hb)).trans ((Heap.get?_update_other _ _ (Ne.symm hb)).trans (oth b o hb q))
 refine wpAny_pure ⟨plainId_quiet F.plain_extend_loop _,zwi hc hl ne ⟨Se,Si⟩ HS X.A.in1 (show X.A.in1.handled = none from I.ok.hd hc) (fun vs H2 s' lay J=>?_) xs.length 0 _ H1 [] (by omega) (Nat.zero_le _) .nil I4 (.inl ⟨rfl,oth4 e _ (Ne.symm Se) he⟩) ?_ fun b hb=>⟨?_,(hf b hb).2⟩⟩
 ·exact ⟨rfl,kQ S vs H2 s' HS lay J⟩
 ·obtain ⟨o,g,r⟩:=hit
  exact ⟨o,oth4 it o (Ne.symm Si) g,r⟩
 ·have bS : b ≠ S:=by
   rcases List.mem_cons.mp hb with y | y
   ·rw [y]; exact Ne.symm Se
   ·rw [List.mem_singleton.mp y]; exact Ne.symm Si
  rw [za2 bS]
  exact (hf b hb).1
end
noncomputable def tLE (K : PySem.W.Frag) (te : TE) : TE:=fun σ H Q=>te σ H fun y H1=>∃ l xs,y = .ref l /\ SqL K H1 l xs /\ ∀ S vs H2,H1 S = none -> Lay S H1 xs xs.length vs H2 -> Q (.ref S) (upd H2 S (.lst vs))
section
variable {X : Cx} {e : Expr} {te : TE} {p p2 pos pos2 : Pos}
theorem z78 (hc : X.calm = true) (hgl : Gl X "list") (hml : X.mg "list" = none) (hge : Gl X "enumerate") (hme : X.mg "enumerate" = none) (he : PE X e te)
  (h1 : starEach [.Call (.Name "enumerate" p2) [e] [] pos2] X.env = (false,eval (.Call (.Name "enumerate" p2) [e] [] pos2) X.env) :: starEach [] X.env:=by rfl) (h2 : starEach [e] X.env = (false,eval e X.env) :: starEach [] X.env:=by rfl)
  (hpl : (backTo pos (starEach [] X.env)).any (·.1) = false:=by rfl) (hpl2 : (backTo pos2 (starEach [] X.env)).any (·.1) = false:=by rfl) :
  PE X (.Call (.Name "list" p) [.Call (.Name "enumerate" p2) [e] [] pos2] [] pos) (tLE X.K te):=by
 intro pins s σ H Q I h
 refine wpAny_Call_Name_kw (zf5 I hgl hml boot_list ?_)
 refine PyProof.Rows.callWith_type1 ?_ h1 hpl
 rw [h1]
 show wpAny _ _ (spliced ((false,eval (.Call (.Name "enumerate" p2) [e] [] pos2) X.env) :: backTo pos (starEach [] X.env))) _ _ s
 refine Calls.spliced_cons (wpAny_Call_Name_kw (zf5 I hge hme boot_enumerate ?_))
 refine PyProof.Rows.callWith_type1 ?_ h2 hpl2
 rw [h2]
 show wpAny _ _ (spliced ((false,eval e X.env) :: backTo pos2 (starEach [] X.env))) _ _ s
 refine Calls.spliced_cons (thn (he pins s σ H _ I h) fun u s1 q_=>?_)
 obtain ⟨x,H1,I1,r1,l,xs,e1,hq,q⟩:=q_
 subst e1
 cases r1
 refine wpAny_pure ?_
 obtain ⟨its,rr,pl,hz⟩:=I1.list hq
 refine call_enumerate_list pl.isList fun h' a1 a2 a3 a4=>?_
 refine wpAny_pure ?_
 have I2:=I1.kept (h':=h') (t':=s1.toks) a4
 have fr : ∀ b,s1.heap.objs.size <= b -> zdz X pins H1 b:=fun b hb=>I1.fpOk hb (I1.hok.fresh hb)
 refine z5h hc I2 hq (Nat.ne_of_gt (Nat.lt_succ_self _)) a1 a2 (fun b hb=>?_) fun S vs H2 s' hS lay J=>?_
 ·rcases List.mem_cons.mp hb with y | y
  ·rw [y]; exact fr _ (Nat.le_succ _)
  ·rw [List.mem_singleton.mp y]; exact fr _ (Nat.le_refl _)
 ·exact ⟨.ref S,_,J,rfl,q S vs H2 hS lay⟩
end
noncomputable def zg2 (i : Nat) (ds : List D) : List D:=(List.range i).map fun j=>D.tup [.int (j : Nat),ds.getD j .non]
theorem z7x (i : Nat) (ds : List D) : zg2 (i + 1) ds = zg2 i ds ++ [.tup [.int i,ds.getD i .non]]:=by
 unfold zg2
 rw [List.range_succ,List.map_append]
 rfl
theorem z3q {G : Gc} {Hf H1 : Hp} {ds : List D} {xs : List V} {S : Addr} (s0 : zau Hf H1) (r : zai G Hf ds xs) {i : Nat} {vs : List V} {H2 : Hp} (h : Lay S H1 xs i vs H2) : ∃ Hf',Ext Hf H1 Hf' H2 /\ zai G Hf' (zg2 i ds) vs:=by
 induction h with
 | nil=>exact ⟨Hf,Ext.refl s0,rfl⟩
 | @snoc i vs H x p h hx hp ne ih =>
  obtain ⟨Hf',x1,r1⟩:=ih
  obtain ⟨d,ed,rd⟩ : ∃ d,ds[i]? = some d /\ Rep G Hf d x:=by
   have hl : i < ds.length:=by rw [r.length]; exact (List.getElem?_eq_some_iff.mp hx).1
   obtain ⟨v,ev,rv⟩:=r.get (List.getElem?_eq_getElem hl)
   rw [hx] at ev
   cases ev
   exact ⟨_,List.getElem?_eq_getElem hl,rv⟩
  have e2 : ds.getD i .non = d:=by rw [List.getD_eq_getElem?_getD,ed]; rfl
  have hf : Hf' p = none:=x1.s.free hp
  refine ⟨upd Hf' p (.tup [.int i,x]),x1.trans (Ext.new x1.s hp),?_⟩
  rw [z7x,e2]
  exact (r1.up (zcg hf)).append (.cons ⟨p,[.int i,x],rfl,zbm,.cons rfl (.cons ((rd.up x1.f).up (zcg hf)) .nil)⟩ .nil)
noncomputable def zgt (f : List Sl -> Option D) (ρ : List Sl) : Option (List D):=(f ρ).bind fun d=>match d with
 | .lst xs=>some (zg2 xs.length xs)
 | _=>none
theorem zzz {f : List Sl -> Option D} {ρ : List Sl} {ds : List D} (h : zgt f ρ = some ds) : ∃ xs,f ρ = some (.lst xs) /\ ds = zg2 xs.length xs:=by
 unfold zgt at h
 cases e : f ρ with
 | none=>rw [e] at h; cases h
 | some d =>
  rw [e,Option.bind_some] at h
  split at h
  ·cases h; exact ⟨_,rfl,rfl⟩
  ·cases h
section
variable {c : Str -> Addr} {X : Cx} {e : Expr} {p p2 pos pos2 : Pos}
theorem zsu {f : List Sl -> Option D} (hc : X.calm = true) (hgl : Gl X "list") (hml : X.mg "list" = none) (hge : Gl X "enumerate") (hme : X.mg "enumerate" = none) (he : DE c X e f)
  (h1 : starEach [.Call (.Name "enumerate" p2) [e] [] pos2] X.env = (false,eval (.Call (.Name "enumerate" p2) [e] [] pos2) X.env) :: starEach [] X.env:=by rfl) (h2 : starEach [e] X.env = (false,eval e X.env) :: starEach [] X.env:=by rfl)
  (hpl : (backTo pos (starEach [] X.env)).any (·.1) = false:=by rfl) (hpl2 : (backTo pos2 (starEach [] X.env)).any (·.1) = false:=by rfl) :
  DO c X (.Call (.Name "list" p) [.Call (.Name "enumerate" p2) [e] [] pos2] [] pos) (zgt f):=PE.imp (z78 hc hgl hml hge hme he h1 h2 hpl hpl2) fun σ H Q q_=>by
 obtain ⟨Hf0,H0,Hf,ρ,ds,st,ef,k⟩:=q_
 obtain ⟨xs,e1,rfl⟩:=zzz ef
 refine ⟨Hf0,H0,Hf,ρ,.lst xs,st,e1,fun v Hf1 H1 x1 r1=>?_⟩
 obtain ⟨l,us,el,q,rs⟩:=r1
 subst el
 refine ⟨l,us,rfl,SqL.of (x1.s _ _ q),fun S vs H2 hS lay=>?_⟩
 obtain ⟨Hf2,x2,r2⟩:=z3q x1.s rs lay
 have hS2 : H2 S = none:=lay.none hS
 rw [<- rs.length] at r2
 exact k S vs Hf2 (upd H2 S (.lst vs)) ((x1.trans x2).trans (Ext.tmp x2.s hS2)) ((x1.trans x2).h.free hS2) (x2.s.free hS2) zbm r2
end
theorem z3h {f : List Sl -> Option D} {ρ : List Sl} {xs : List D} (h : f ρ = some (.lst xs)) : zgt f ρ = some (zg2 xs.length xs):=by
 unfold zgt
 rw [h]
 rfl
noncomputable def isE (x d : D) : Bool:=deq 19 d x == some true
noncomputable def zix (y x : D) : Option D:=match y with
 | .lst ds=>if zfm x ds = some true then some (.int ((ds.findIdx (isE x) : Nat) : Int)) else none
 | _=>none
theorem zsr {x : D} : ∀ {ds : List D} {b : Bool},zfm x ds = some b -> (∀ d ∈ ds,∃ b',deq 19 d x = some b') /\ ds.any (isE x) = b
 | [],_,h=>by cases h; exact ⟨fun d hd=>(List.not_mem_nil hd).elim,rfl⟩
 | d :: ds,b,h=>by
  obtain ⟨b1,b2,h1,h2,rfl⟩:=zs7 h
  obtain ⟨k1,k2⟩:=zsr h2
  refine ⟨fun d' hd=>?_,?_⟩
  ·rcases List.mem_cons.mp hd with e | e
   ·rw [e]; exact ⟨b1,h1⟩
   ·exact k1 d' e
  ·rw [List.any_cons,k2]
   unfold isE
   rw [h1]
   cases b1 <;> rfl
noncomputable def zsg (G : Gc) : V -> List V -> Hp -> VK -> Prop:=fun vx vs H Q=>∃ Hf y x d w,vs = [w] /\ zau Hf H /\ Rep G Hf y vx /\ Rep G Hf x w /\ zix y x = some d /\ ∀ v Hf' H',Ext Hf H Hf' H' -> Rep G Hf' d v -> Q v H'
section
variable {c : Str -> Addr} {X : Cx}
theorem zyh (hu : X.A.units + 64 < cLine) : MtM X "list.index" (zsg (Gx c X)):=by
 rintro pins s σ H x xs v us Q I rx rv ⟨Hf,y,z,d,w,rfl,s0,r1,r2,e,k⟩
 unfold zix at e
 split at e
 ·rename_i ds
  split at e
  ·rename_i hany
   cases e
   obtain ⟨l,vs,el,q,rs⟩:=r1
   subst el
   cases rx
   obtain ⟨u,rfl,ru⟩:=rv.one
   have q':=s0 _ _ q
   obtain ⟨z1,its,n,rr,hl,e0⟩:=I.lstM q'
   obtain ⟨f,hf,ha⟩:=zqn (A:=X.A.in1) I (by rw [Around.in1_units]; omega) (r2.up s0) ru (rs.up s0) rr hany
   obtain ⟨k1,k2⟩:=zsr hany
   have same : ∀ (m : Nat) (hm : m < its.length),f its[m] = isE z (ds.getD m .non):=fun m hm=>by
    have md : m < ds.length:=by rw [rs.length,hl]; exact hm
    obtain ⟨v1,ev1,rv1⟩:=rs.get (List.getElem?_eq_getElem md)
    obtain ⟨u1,eu1,ru1⟩:=rr.get ev1
    rw [List.getElem?_eq_getElem hm] at eu1
    cases eu1
    obtain ⟨_,d',v',r',rv',h'⟩:=hf its[m] (List.getElem_mem hm)
    have ev:=zaw.inj rv' ru1
    subst ev
    obtain ⟨b1,hb1⟩:=k1 ds[m] (List.getElem_mem md)
    have eb:=zm2 19 r' (rv1.up s0) h' hb1
    rw [List.getD_eq_getElem?_getD,List.getElem?_eq_getElem md]
    show _ = isE z ds[m]
    unfold isE
    rw [hb1,eb]
    cases b1 <;> rfl
   have hj : ds.findIdx (isE z) < ds.length:=List.findIdx_lt_length_of_exists (List.any_eq_true.mp k2)
   have hj' : ds.findIdx (isE z) < its.length:=by rw [<- hl,<- rs.length]; exact hj
   refine call_meets F.slot_list_index ⟨_,e0,rfl⟩ F.entry_list_index (F.args_list_index_2 _ _) (SeqAt.list_indexAt l its.toArray n none #[] u f (ds.findIdx (isE z)) (by rw [List.size_toArray]; exact hj') (by rw [sizeLine_eq] at z1; omega) ?_ ?_) ⟨e0,fun y hy=>(hf y (by simpa using hy)).1,?_⟩
   ·rw [List.getElem_toArray,same _ hj',List.getD_eq_getElem?_getD,List.getElem?_eq_getElem hj]
    exact List.findIdx_getElem
   ·intro m hm hlt
    rw [List.getElem_toArray,same m (by rw [List.size_toArray] at hm; exact hm),List.getD_eq_getElem?_getD,List.getElem?_eq_getElem (Nat.lt_trans hlt hj)]
    have:=List.not_of_lt_findIdx hlt
    simpa using this
   ·exact ⟨.int _,H,I.tok _,⟨_,rfl⟩,k _ Hf H (Ext.refl s0) rfl⟩
  ·cases e
 ·cases e
theorem z5z {e : Expr} {f g : List Sl -> Option D} (h : PE X e (tBM X.K "list" (zsg (Gx c X)) (tD (Gx c X) f) (zl9 (tD (Gx c X) g) zlc))) : DE c X e (m2 zix f g):=PE.imp h fun σ H Q q_=>by
 obtain ⟨Hf0,H0,Hf,ρ,d,st,ef,k⟩:=q_
 obtain ⟨x,y,e1,e2,e3⟩:=zl8 ef
 obtain ⟨ds,rfl⟩ : ∃ ds,x = .lst ds:=by
  unfold zix at e3
  split at e3
  ·exact ⟨_,rfl⟩
  ·cases e3
 refine ⟨Hf0,H0,Hf,ρ,_,st,e1,fun v Hf1 H1 x1 r1=>?_⟩
 obtain ⟨l,vs,el,q,rs⟩:=id r1
 subst el
 exact ⟨.inl ⟨rfl,_,SqL.of (x1.s _ _ q)⟩,Hf0,H0,Hf1,ρ,y,st.step x1,e2,fun u Hf2 H2 x2 r2=>⟨Hf2,.lst ds,y,d,u,rfl,x2.s,r1.up x2.f,r2,e3,fun w Hf3 H3 x3 r3=>k w Hf3 H3 ((x1.trans x2).trans x3) r3⟩⟩
end
end L2
namespace N_k44
open PySem PySem.Spec PyProof.Rows L2
local macro_rules | `(tactic| walk_at "sc")=>`(tactic| exact ⟨rfl,rfl,rfl,by decide +kernel,rfl,by decide +kernel,by decide +kernel⟩)
noncomputable def top (i : Nat) : Stmt:=PySem.Challenge.pw_standstill_k44_total_sheets.main.body.getD i (.Pass ⟨0,0,0,0⟩)
noncomputable abbrev s_8 : Stmt:=top 2
noncomputable abbrev zik : Stmt:=top 9
noncomputable abbrev zi4 : Stmt:=top 10
noncomputable abbrev ziu : Stmt:=top 11
noncomputable abbrev zjv : Stmt:=top 12
noncomputable abbrev zj9 : Stmt:=top 16
noncomputable abbrev zjr : Stmt:=top 17
noncomputable abbrev zie : Stmt:=top 18
noncomputable abbrev zjj : Stmt:=top 19
noncomputable abbrev zj8 : Stmt:=top 21
noncomputable abbrev zj0 : Stmt:=top 22
noncomputable abbrev zj3 : Stmt:=top 23
noncomputable abbrev zi7 : Stmt:=top 24
noncomputable abbrev s_6 : Stmt:=top 25
noncomputable abbrev zj5 : Stmt:=top 26
noncomputable abbrev zj1 : Stmt:=top 27
noncomputable abbrev zjn : Stmt:=top 28
noncomputable abbrev zjs : Stmt:=top 30
noncomputable abbrev zje : Stmt:=top 31
noncomputable abbrev zjo : Stmt:=top 32
noncomputable abbrev zii : Stmt:=top 33
noncomputable abbrev s_7 : Stmt:=top 35
noncomputable abbrev s_2 : Stmt:=top 36
noncomputable abbrev zj4 : Stmt:=top 37
noncomputable abbrev zi8 : Stmt:=top 38
noncomputable abbrev zjt : Stmt:=top 39
noncomputable abbrev zjk : Stmt:=top 40
noncomputable abbrev zis : Stmt:=top 41
noncomputable abbrev ziy : Stmt:=top 42
noncomputable abbrev zio : Stmt:=top 43
noncomputable abbrev zil : Stmt:=top 44
noncomputable abbrev s_3 : Stmt:=top 45
noncomputable abbrev s_1 : Stmt:=top 46
noncomputable abbrev s_5 : Stmt:=top 47
noncomputable abbrev zji : Stmt:=top 48
noncomputable abbrev s_4 : Stmt:=top 49
noncomputable abbrev s_9 : Stmt:=top 50
noncomputable abbrev zit : Stmt:=top 51
noncomputable abbrev zjq : Stmt:=top 52
noncomputable abbrev s_0 : Stmt:=top 53
noncomputable abbrev zir : Stmt:=ze7 (top 5) 0
noncomputable abbrev zif : Stmt:=ze7 (top 5) 5
noncomputable abbrev zid : Stmt:=ze7 (top 5) 8
noncomputable abbrev zi1 : Stmt:=ze7 (top 6) 0
noncomputable abbrev zj6 : Stmt:=ze7 (top 6) 5
noncomputable abbrev zin : Stmt:=ze7 (top 6) 8
noncomputable abbrev zja : Stmt:=ze7 (top 7) 0
noncomputable abbrev zi6 : Stmt:=ze7 (top 7) 5
noncomputable abbrev zjw : Stmt:=ze7 (top 7) 8
noncomputable abbrev zjy : Stmt:=ze7 (top 8) 0
noncomputable abbrev zjh : Stmt:=ze7 (top 8) 5
noncomputable abbrev zim : Stmt:=ze7 (top 8) 8
theorem zqg : za6 ["many","some","listed","thing"] ["many","some"] (zaj s_8):=by walk_at "sc"
theorem zqp : za6 ["told","word"] ["told"] (zaj zik):=by walk_at "sc"
theorem z16 : za6 ["items","entries"] ["items","entries"] (zaj zi4):=by walk_at "sc"
theorem z64 : za6 ["items","sheet"] ["items","sheet"] (zaj ziu):=by walk_at "sc"
theorem z19 : za6 ["items","without"] ["items","without"] (zaj zjv):=by walk_at "sc"
theorem zv6 : za6 ["rule"] ["rule"] (zaj zj9):=by walk_at "sc"
theorem zwg : za6 ["rule","sheet"] ["rule","sheet"] (zaj zjr):=by walk_at "sc"
theorem zxv : za6 ["rule","sheet","without"] ["rule","sheet","without"] (zaj zie):=by walk_at "sc"
theorem z0x : za6 ["rule","sheet"] ["rule","sheet"] (zaj zjj):=by walk_at "sc"
theorem zq0 : za6 ["sheet","thing","truth","other"] ["sheet","thing","truth"] (zaj zj8):=by walk_at "sc"
theorem zrz : za6 ["rule","sheet","without","thing"] ["rule","sheet","without"] (zaj zj0):=by walk_at "sc"
theorem zyn : za6 ["sheet","bar"] ["sheet","bar"] (zaj zj3):=by walk_at "sc"
theorem zre : za6 ["plain","worlds","bars","sheet","why","number"] ["plain","worlds","bars","sheet","why"] (zaj zi7):=by walk_at "sc"
theorem zz7 : za6 ["listed","number"] ["listed","number"] (zaj s_6):=by walk_at "sc"
theorem zsw : za6 ["plain","sheet","things","without"] ["plain","sheet","things"] (zaj zj5):=by walk_at "sc"
theorem z3v : za6 ["sheet","things"] ["sheet","things"] (zaj zj1):=by walk_at "sc"
theorem zrs : za6 ["plain","worlds","bars","sheet","step","pair"] ["plain","worlds","bars","sheet","step"] (zaj zjn):=by walk_at "sc"
theorem znk : za6 ["plain","worlds","bars","line","bar","things"] ["plain","worlds","bars","line"] (zaj zjs):=by walk_at "sc"
theorem zmg : za6 ["many","bar","thing","sheet","truth"] ["many","bar"] (zaj zje):=by walk_at "sc"
theorem zkq : za6 ["plain","worlds","bars","sheet","steps","after","place","step","ends"] ["plain","worlds","bars","sheet","steps"] (zaj zjo):=by walk_at "sc"
theorem znl : za6 ["plain","worlds","paper","bars","line"] ["plain","worlds","paper"] (zaj zii):=by walk_at "sc"
theorem z22 : za6 ["_law_script","_law_k"] ["_law_script","_law_k"] (zaj s_7):=by walk_at "sc"
theorem zkm : za6 ["_law_cell","_law_many","_law_found","_law_number","_law_k"] ["_law_cell","_law_many"] (zaj s_2):=by walk_at "sc"
theorem z2c : za6 ["_law_x"] ["_law_x"] (zaj zj4):=by walk_at "sc"
theorem zm5 : za6 ["_law_xs","_law_many","_law_word","_law_items","_law_near"] ["_law_xs","_law_many"] (zaj zi8):=by walk_at "sc"
theorem zpr : za6 ["_law_cell","_law_many","_law_calm","_law_xs","_law_parts"] ["_law_cell","_law_many","_law_calm"] (zaj zjt):=by walk_at "sc"
theorem zko : za6 ["_law_kind","_law_many","_law_rules","_law_k","_law_on","_law_part_here"] ["_law_kind","_law_many"] (zaj zjk):=by walk_at "sc"
theorem zgo : za6 ["_law_rules","_law_found","_law_word","_law_head","_law_parts","_law_mine","_law_part_here"] ["_law_rules"] (zaj zis):=by walk_at "sc"
theorem z40 : za6 ["_law_part_here","_law_sheet"] ["_law_part_here","_law_sheet"] (zaj ziy):=by walk_at "sc"
theorem z2g : za6 ["_law_rule_here","_law_sheet"] ["_law_rule_here","_law_sheet"] (zaj zio):=by walk_at "sc"
theorem zxg : za6 ["_law_part_here","_law_rising_here","_law_held"] ["_law_part_here","_law_rising_here","_law_held"] (zaj zil):=by walk_at "sc"
theorem ziq : za6 ["_law_rules","_law_held","_law_rising_here","_law_turn","_law_word","_law_head","_law_parts"] ["_law_rules","_law_held"] (zaj s_3):=by walk_at "sc"
theorem ziv : za6 ["_law_many","_law_rows_here","_law_k","_law_longer","_law_row"] ["_law_many"] (zaj s_1):=by walk_at "sc"
theorem zza : za6 ["_law_row"] ["_law_row"] (zaj s_5):=by walk_at "sc"
theorem zlo : za6 ["_law_rules","_law_sets","_law_held","_law_k","_law_rule_here","_law_rising_here"] ["_law_rules","_law_sets","_law_held"] (zaj zji):=by walk_at "sc"
theorem ze6 : za6 ["_law_many","_law_rules","_law_sets","_law_lines","_law_row","_law_first","_law_turn","_law_size","_law_rows_here","_law_start","_law_k","_law_steps"] ["_law_many","_law_rules","_law_sets"] (zaj s_4):=by walk_at "sc"
theorem zgh : za6 ["_law_many","_law_sets","_law_lines","_law_cell","_law_xs","_law_at","_law_held","_law_bar","_law_steps","_law_last"] ["_law_many","_law_sets","_law_lines","_law_cell"] (zaj s_9):=by walk_at "sc"
theorem zk9 : za6 ["_law_steps","_law_found","_law_pair","_law_why_here"] ["_law_steps"] (zaj zit):=by walk_at "sc"
theorem zm8 : za6 ["_law_many","_law_rules","_law_sets","_law_lines","_law_due","_law_handed","_law_mine","_law_found"] ["_law_many","_law_rules","_law_sets","_law_lines","_law_due"] (zaj zjq):=by walk_at "sc"
theorem zev : za6 ["_law_script","_law_hs","_law_many","_law_rules","_law_cell","_law_sets","_law_row","_law_cut","_law_lines","_law_some","_law_mine"] ["_law_script"] (zaj s_0):=by walk_at "sc"
theorem z3b : za6 ["self","thing"] ["self","thing"] (zaj zir):=by walk_at "sc"
theorem z5g : za6 ["self","sheet"] ["self","sheet"] (zaj zif):=by walk_at "sc"
theorem z4p : za6 ["self","sheet","without"] ["self","sheet","without"] (zaj zid):=by walk_at "sc"
theorem z0z : za6 ["self","thing"] ["self","thing"] (zaj zi1):=by walk_at "sc"
theorem z0o : za6 ["self","sheet"] ["self","sheet"] (zaj zj6):=by walk_at "sc"
theorem z0a : za6 ["self","sheet","without"] ["self","sheet","without"] (zaj zin):=by walk_at "sc"
theorem z5v : za6 ["self","bound","items"] ["self","bound","items"] (zaj zja):=by walk_at "sc"
theorem zxa : za6 ["self","sheet"] ["self","sheet"] (zaj zi6):=by walk_at "sc"
theorem z05 : za6 ["self","sheet","without"] ["self","sheet","without"] (zaj zjw):=by walk_at "sc"
theorem z1a : za6 ["self","bound","items"] ["self","bound","items"] (zaj zjy):=by walk_at "sc"
theorem zxm : za6 ["self","sheet"] ["self","sheet"] (zaj zjh):=by walk_at "sc"
theorem zxe : za6 ["self","sheet","without"] ["self","sheet","without"] (zaj zim):=by walk_at "sc"
set_option genInjectivity false
set_option genSizeOf false
structure Wa where
 f_8 : Addr
 fd_8 : FuncData
 f_39 : Addr
 fd_39 : FuncData
 f_24 : Addr
 fd_24 : FuncData
 f_17 : Addr
 fd_17 : FuncData
 f_42 : Addr
 fd_42 : FuncData
 f_25 : Addr
 fd_25 : FuncData
 f_43 : Addr
 fd_43 : FuncData
 f_44 : Addr
 fd_44 : FuncData
 f_45 : Addr
 fd_45 : FuncData
 f_35 : Addr
 fd_35 : FuncData
 f_36 : Addr
 fd_36 : FuncData
 f_46 : Addr
 fd_46 : FuncData
 f_12 : Addr
 fd_12 : FuncData
 f_6 : Addr
 fd_6 : FuncData
 f_37 : Addr
 fd_37 : FuncData
 f_47 : Addr
 fd_47 : FuncData
 f_38 : Addr
 fd_38 : FuncData
 f_31 : Addr
 fd_31 : FuncData
 f_26 : Addr
 fd_26 : FuncData
 f_27 : Addr
 fd_27 : FuncData
 f_32 : Addr
 fd_32 : FuncData
 f_7 : Addr
 fd_7 : FuncData
 f_2 : Addr
 fd_2 : FuncData
 f_33 : Addr
 fd_33 : FuncData
 f_28 : Addr
 fd_28 : FuncData
 f_34 : Addr
 fd_34 : FuncData
 f_18 : Addr
 fd_18 : FuncData
 f_11 : Addr
 fd_11 : FuncData
 f_40 : Addr
 fd_40 : FuncData
 f_19 : Addr
 fd_19 : FuncData
 f_41 : Addr
 fd_41 : FuncData
 f_3 : Addr
 fd_3 : FuncData
 f_1 : Addr
 fd_1 : FuncData
 f_5 : Addr
 fd_5 : FuncData
 f_30 : Addr
 fd_30 : FuncData
 f_4 : Addr
 fd_4 : FuncData
 f_9 : Addr
 fd_9 : FuncData
 f_29 : Addr
 fd_29 : FuncData
 f_10 : Addr
 fd_10 : FuncData
 f_0 : Addr
 fd_0 : FuncData
 f_48 : Addr
 fd_48 : FuncData
 f_20 : Addr
 fd_20 : FuncData
 f_13 : Addr
 fd_13 : FuncData
 f_49 : Addr
 fd_49 : FuncData
 f_21 : Addr
 fd_21 : FuncData
 f_14 : Addr
 fd_14 : FuncData
 f_50 : Addr
 fd_50 : FuncData
 f_22 : Addr
 fd_22 : FuncData
 f_15 : Addr
 fd_15 : FuncData
 f_51 : Addr
 fd_51 : FuncData
 f_23 : Addr
 fd_23 : FuncData
 f_16 : Addr
 fd_16 : FuncData
 C_In : Addr
 C_Out : Addr
 C_Least : Addr
 C_Most : Addr
structure Wd (K : PySem.W.Frag) (mg : Str -> Option Value) (a : Wa) : Prop where
 F_8 : Fun K "marks" "marks" s_8 a.f_8 a.fd_8
 b_8 : za3 K a.fd_8 ["many","some"] []
 g_8 : mg "marks" = some (.ref a.f_8)
 F_39 : Fun K "part_of" "part_of" zik a.f_39 a.fd_39
 b_39 : za3 K a.fd_39 ["told"] []
 g_39 : mg "part_of" = some (.ref a.f_39)
 F_24 : Fun K "worth_in" "worth_in" zi4 a.f_24 a.fd_24
 b_24 : za3 K a.fd_24 ["items","entries"] []
 g_24 : mg "worth_in" = some (.ref a.f_24)
 F_17 : Fun K "worth_not_out" "worth_not_out" ziu a.f_17 a.fd_17
 b_17 : za3 K a.fd_17 ["items","sheet"] []
 g_17 : mg "worth_not_out" = some (.ref a.f_17)
 F_42 : Fun K "outside" "outside" zjv a.f_42 a.fd_42
 b_42 : za3 K a.fd_42 ["items","without"] []
 g_42 : mg "outside" = some (.ref a.f_42)
 F_25 : Fun K "body_of" "body_of" zj9 a.f_25 a.fd_25
 b_25 : za3 K a.fd_25 ["rule"] []
 g_25 : mg "body_of" = some (.ref a.f_25)
 F_43 : Fun K "body_sure" "body_sure" zjr a.f_43 a.fd_43
 b_43 : za3 K a.fd_43 ["rule","sheet"] []
 g_43 : mg "body_sure" = some (.ref a.f_43)
 F_44 : Fun K "body_lost" "body_lost" zie a.f_44 a.fd_44
 b_44 : za3 K a.fd_44 ["rule","sheet","without"] []
 g_44 : mg "body_lost" = some (.ref a.f_44)
 F_45 : Fun K "surely_broken" "surely_broken" zjj a.f_45 a.fd_45
 b_45 : za3 K a.fd_45 ["rule","sheet"] []
 g_45 : mg "surely_broken" = some (.ref a.f_45)
 F_35 : Fun K "put_to" "put_to" zj8 a.f_35 a.fd_35
 b_35 : za3 K a.fd_35 ["sheet","thing","truth"] []
 g_35 : mg "put_to" = some (.ref a.f_35)
 F_36 : Fun K "rests_outside" "rests_outside" zj0 a.f_36 a.fd_36
 b_36 : za3 K a.fd_36 ["rule","sheet","without"] []
 g_36 : mg "rests_outside" = some (.ref a.f_36)
 F_46 : Fun K "fits" "fits" zj3 a.f_46 a.fd_46
 b_46 : za3 K a.fd_46 ["sheet","bar"] []
 g_46 : mg "fits" = some (.ref a.f_46)
 F_12 : Fun K "right_why" "right_why" zi7 a.f_12 a.fd_12
 b_12 : za3 K a.fd_12 ["plain","worlds","bars","sheet","why"] []
 g_12 : mg "right_why" = some (.ref a.f_12)
 F_6 : Fun K "has_number" "has_number" s_6 a.f_6 a.fd_6
 b_6 : za3 K a.fd_6 ["listed","number"] []
 g_6 : mg "has_number" = some (.ref a.f_6)
 F_37 : Fun K "right_group" "right_group" zj5 a.f_37 a.fd_37
 b_37 : za3 K a.fd_37 ["plain","sheet","things"] []
 g_37 : mg "right_group" = some (.ref a.f_37)
 F_47 : Fun K "has_in" "has_in" zj1 a.f_47 a.fd_47
 b_47 : za3 K a.fd_47 ["sheet","things"] []
 g_47 : mg "has_in" = some (.ref a.f_47)
 F_38 : Fun K "right_step" "right_step" zjn a.f_38 a.fd_38
 b_38 : za3 K a.fd_38 ["plain","worlds","bars","sheet","step"] []
 g_38 : mg "right_step" = some (.ref a.f_38)
 F_31 : Fun K "right_line" "right_line" zjs a.f_31 a.fd_31
 b_31 : za3 K a.fd_31 ["plain","worlds","bars","line"] []
 g_31 : mg "right_line" = some (.ref a.f_31)
 F_26 : Fun K "begun" "begun" zje a.f_26 a.fd_26
 b_26 : za3 K a.fd_26 ["many","bar"] []
 g_26 : mg "begun" = some (.ref a.f_26)
 F_27 : Fun K "right_steps" "right_steps" zjo a.f_27 a.fd_27
 b_27 : za3 K a.fd_27 ["plain","worlds","bars","sheet","steps"] []
 g_27 : mg "right_steps" = some (.ref a.f_27)
 F_32 : Fun K "right_paper" "right_paper" zii a.f_32 a.fd_32
 b_32 : za3 K a.fd_32 ["plain","worlds","paper"] []
 g_32 : mg "right_paper" = some (.ref a.f_32)
 F_7 : Fun K "_law_cell_at" "_law_cell_at" s_7 a.f_7 a.fd_7
 b_7 : za3 K a.fd_7 ["_law_script","_law_k"] []
 g_7 : mg "_law_cell_at" = some (.ref a.f_7)
 F_2 : Fun K "_law_mixed" "_law_mixed" s_2 a.f_2 a.fd_2
 b_2 : za3 K a.fd_2 ["_law_cell","_law_many"] []
 g_2 : mg "_law_mixed" = some (.ref a.f_2)
 F_33 : Fun K "_law_worth" "_law_worth" zj4 a.f_33 a.fd_33
 b_33 : za3 K a.fd_33 ["_law_x"] []
 g_33 : mg "_law_worth" = some (.ref a.f_33)
 F_28 : Fun K "_law_part" "_law_part" zi8 a.f_28 a.fd_28
 b_28 : za3 K a.fd_28 ["_law_xs","_law_many"] []
 g_28 : mg "_law_part" = some (.ref a.f_28)
 F_34 : Fun K "_law_rule" "_law_rule" zjt a.f_34 a.fd_34
 b_34 : za3 K a.fd_34 ["_law_cell","_law_many","_law_calm"] []
 g_34 : mg "_law_rule" = some (.ref a.f_34)
 F_18 : Fun K "_law_ring" "_law_ring" zjk a.f_18 a.fd_18
 b_18 : za3 K a.fd_18 ["_law_kind","_law_many"] []
 g_18 : mg "_law_ring" = some (.ref a.f_18)
 F_11 : Fun K "_law_copy" "_law_copy" zis a.f_11 a.fd_11
 b_11 : za3 K a.fd_11 ["_law_rules"] []
 g_11 : mg "_law_copy" = some (.ref a.f_11)
 F_40 : Fun K "_law_part_sure" "_law_part_sure" ziy a.f_40 a.fd_40
 b_40 : za3 K a.fd_40 ["_law_part_here","_law_sheet"] []
 g_40 : mg "_law_part_sure" = some (.ref a.f_40)
 F_19 : Fun K "_law_broken" "_law_broken" zio a.f_19 a.fd_19
 b_19 : za3 K a.fd_19 ["_law_rule_here","_law_sheet"] []
 g_19 : mg "_law_broken" = some (.ref a.f_19)
 F_41 : Fun K "_law_holds" "_law_holds" zil a.f_41 a.fd_41
 b_41 : za3 K a.fd_41 ["_law_part_here","_law_rising_here","_law_held"] []
 g_41 : mg "_law_holds" = some (.ref a.f_41)
 F_3 : Fun K "_law_rising" "_law_rising" s_3 a.f_3 a.fd_3
 b_3 : za3 K a.fd_3 ["_law_rules","_law_held"] []
 g_3 : mg "_law_rising" = some (.ref a.f_3)
 F_1 : Fun K "_law_rows" "_law_rows" s_1 a.f_1 a.fd_1
 b_1 : za3 K a.fd_1 ["_law_many"] []
 g_1 : mg "_law_rows" = some (.ref a.f_1)
 F_5 : Fun K "_law_members" "_law_members" s_5 a.f_5 a.fd_5
 b_5 : za3 K a.fd_5 ["_law_row"] []
 g_5 : mg "_law_members" = some (.ref a.f_5)
 F_30 : Fun K "_law_why" "_law_why" zji a.f_30 a.fd_30
 b_30 : za3 K a.fd_30 ["_law_rules","_law_sets","_law_held"] []
 g_30 : mg "_law_why" = some (.ref a.f_30)
 F_4 : Fun K "_law_paper" "_law_paper" s_4 a.f_4 a.fd_4
 b_4 : za3 K a.fd_4 ["_law_many","_law_rules","_law_sets"] []
 g_4 : mg "_law_paper" = some (.ref a.f_4)
 F_9 : Fun K "_law_spoiled" "_law_spoiled" s_9 a.f_9 a.fd_9
 b_9 : za3 K a.fd_9 ["_law_many","_law_sets","_law_lines","_law_cell"] []
 g_9 : mg "_law_spoiled" = some (.ref a.f_9)
 F_29 : Fun K "_law_again" "_law_again" zit a.f_29 a.fd_29
 b_29 : za3 K a.fd_29 ["_law_steps"] []
 g_29 : mg "_law_again" = some (.ref a.f_29)
 F_10 : Fun K "_law_told" "_law_told" zjq a.f_10 a.fd_10
 b_10 : za3 K a.fd_10 ["_law_many","_law_rules","_law_sets","_law_lines","_law_due"] []
 g_10 : mg "_law_told" = some (.ref a.f_10)
 F_0 : Fun K "law" "law" s_0 a.f_0 a.fd_0
 b_0 : za3 K a.fd_0 ["_law_script"] []
 g_0 : mg "law" = some (.ref a.f_0)
 F_48 : Fun K "__init__" "In.__init__" zir a.f_48 a.fd_48
 b_48 : za3 K a.fd_48 ["self","thing"] []
 F_20 : Fun K "sure" "In.sure" zif a.f_20 a.fd_20
 b_20 : za3 K a.fd_20 ["self","sheet"] []
 F_13 : Fun K "lost" "In.lost" zid a.f_13 a.fd_13
 b_13 : za3 K a.fd_13 ["self","sheet","without"] []
 F_49 : Fun K "__init__" "Out.__init__" zi1 a.f_49 a.fd_49
 b_49 : za3 K a.fd_49 ["self","thing"] []
 F_21 : Fun K "sure" "Out.sure" zj6 a.f_21 a.fd_21
 b_21 : za3 K a.fd_21 ["self","sheet"] []
 F_14 : Fun K "lost" "Out.lost" zin a.f_14 a.fd_14
 b_14 : za3 K a.fd_14 ["self","sheet","without"] []
 F_50 : Fun K "__init__" "Least.__init__" zja a.f_50 a.fd_50
 b_50 : za3 K a.fd_50 ["self","bound","items"] []
 F_22 : Fun K "sure" "Least.sure" zi6 a.f_22 a.fd_22
 b_22 : za3 K a.fd_22 ["self","sheet"] []
 F_15 : Fun K "lost" "Least.lost" zjw a.f_15 a.fd_15
 b_15 : za3 K a.fd_15 ["self","sheet","without"] []
 F_51 : Fun K "__init__" "Most.__init__" zjy a.f_51 a.fd_51
 b_51 : za3 K a.fd_51 ["self","bound","items"] []
 F_23 : Fun K "sure" "Most.sure" zjh a.f_23 a.fd_23
 b_23 : za3 K a.fd_23 ["self","sheet"] []
 F_16 : Fun K "lost" "Most.lost" zim a.f_16 a.fd_16
 b_16 : za3 K a.fd_16 ["self","sheet","without"] []
 g_In : mg "In" = some (.ref a.C_In)
 cl_In : Cls K a.C_In
 mk_In : Mk K a.C_In a.f_48
 na_In_thing : zc6 K a.C_In "thing"
 m_20 : zdb K a.C_In "sure" a.f_20
 m_13 : zdb K a.C_In "lost" a.f_13
 g_Out : mg "Out" = some (.ref a.C_Out)
 cl_Out : Cls K a.C_Out
 mk_Out : Mk K a.C_Out a.f_49
 na_Out_thing : zc6 K a.C_Out "thing"
 m_21 : zdb K a.C_Out "sure" a.f_21
 m_14 : zdb K a.C_Out "lost" a.f_14
 g_Least : mg "Least" = some (.ref a.C_Least)
 cl_Least : Cls K a.C_Least
 mk_Least : Mk K a.C_Least a.f_50
 na_Least_bound : zc6 K a.C_Least "bound"
 na_Least_pieces : zc6 K a.C_Least "pieces"
 m_22 : zdb K a.C_Least "sure" a.f_22
 m_15 : zdb K a.C_Least "lost" a.f_15
 g_Most : mg "Most" = some (.ref a.C_Most)
 cl_Most : Cls K a.C_Most
 mk_Most : Mk K a.C_Most a.f_51
 na_Most_bound : zc6 K a.C_Most "bound"
 na_Most_pieces : zc6 K a.C_Most "pieces"
 m_23 : zdb K a.C_Most "sure" a.f_23
 m_16 : zdb K a.C_Most "lost" a.f_16
 kt_NoneType_bool : PySem.W.kitOne K (.type "NoneType") (.type "bool") = some false
 kt_bool_bool : PySem.W.kitOne K (.type "bool") (.type "bool") = some true
 kt_int_bool : PySem.W.kitOne K (.type "int") (.type "bool") = some false
 kt_str_bool : PySem.W.kitOne K (.type "str") (.type "bool") = some false
 kt_list_bool : PySem.W.kitOne K (.type "list") (.type "bool") = some false
 kt_tuple_bool : PySem.W.kitOne K (.type "tuple") (.type "bool") = some false
 kt_dict_bool : PySem.W.kitOne K (.type "dict") (.type "bool") = some false
 z_all : mg "all" = none
 z_any : mg "any" = none
 z_bool : mg "bool" = none
 z_enumerate : mg "enumerate" = none
 z_isinstance : mg "isinstance" = none
 z_len : mg "len" = none
 z_list : mg "list" = none
 z_max : mg "max" = none
 z_range : mg "range" = none
 z_set : mg "set" = none
 z_sum : mg "sum" = none
set_option genInjectivity true
set_option genSizeOf true
section
variable {P : Program} {w : World} {K : PySem.W.Frag} {mg : Str -> Option Value} {base : Heap}
noncomputable def cl (a : Wa) : Str -> Addr:=fun s=>if s = "In" then a.C_In else if s = "Out" then a.C_Out else if s = "Least" then a.C_Least else if s = "Most" then a.C_Most else 0
theorem zi9 {a : Wa} : cl a "In" = a.C_In:=by unfold cl; rw [if_pos rfl]
theorem ziz {a : Wa} (W : Wd K mg a) : Cls K (cl a "In"):=by rw [zi9]; exact W.cl_In
theorem zx9 {a : Wa} (W : Wd K mg a) : Mk K (cl a "In") a.f_48:=by rw [zi9]; exact W.mk_In
theorem z8h {a : Wa} (W : Wd K mg a) : mg "In" = some (.ref (cl a "In")):=by rw [zi9]; exact W.g_In
theorem zl7 {a : Wa} (W : Wd K mg a) : zc6 K (cl a "In") "thing":=by rw [zi9]; exact W.na_In_thing
theorem z8g {a : Wa} (W : Wd K mg a) : zdb K (cl a "In") "sure" a.f_20:=by rw [zi9]; exact W.m_20
theorem z4k {a : Wa} (W : Wd K mg a) : zdb K (cl a "In") "lost" a.f_13:=by rw [zi9]; exact W.m_13
theorem zjx {a : Wa} : cl a "Out" = a.C_Out:=by unfold cl; rw [if_neg (by decide +kernel)]; rw [if_pos rfl]
theorem zka {a : Wa} (W : Wd K mg a) : Cls K (cl a "Out"):=by rw [zjx]; exact W.cl_Out
theorem zvt {a : Wa} (W : Wd K mg a) : Mk K (cl a "Out") a.f_49:=by rw [zjx]; exact W.mk_Out
theorem zyt {a : Wa} (W : Wd K mg a) : mg "Out" = some (.ref (cl a "Out")):=by rw [zjx]; exact W.g_Out
theorem zoq {a : Wa} (W : Wd K mg a) : zc6 K (cl a "Out") "thing":=by rw [zjx]; exact W.na_Out_thing
theorem zzg {a : Wa} (W : Wd K mg a) : zdb K (cl a "Out") "sure" a.f_21:=by rw [zjx]; exact W.m_21
theorem zz8 {a : Wa} (W : Wd K mg a) : zdb K (cl a "Out") "lost" a.f_14:=by rw [zjx]; exact W.m_14
theorem zhd {a : Wa} : cl a "Least" = a.C_Least:=by unfold cl; rw [if_neg (by decide +kernel)]; rw [if_neg (by decide +kernel)]; rw [if_pos rfl]
theorem zgz {a : Wa} (W : Wd K mg a) : Cls K (cl a "Least"):=by rw [zhd]; exact W.cl_Least
theorem z8c {a : Wa} (W : Wd K mg a) : Mk K (cl a "Least") a.f_50:=by rw [zhd]; exact W.mk_Least
theorem z15 {a : Wa} (W : Wd K mg a) : mg "Least" = some (.ref (cl a "Least")):=by rw [zhd]; exact W.g_Least
theorem zqa {a : Wa} (W : Wd K mg a) : zc6 K (cl a "Least") "bound":=by rw [zhd]; exact W.na_Least_bound
theorem zo4 {a : Wa} (W : Wd K mg a) : zc6 K (cl a "Least") "pieces":=by rw [zhd]; exact W.na_Least_pieces
theorem z2r {a : Wa} (W : Wd K mg a) : zdb K (cl a "Least") "sure" a.f_22:=by rw [zhd]; exact W.m_22
theorem zvk {a : Wa} (W : Wd K mg a) : zdb K (cl a "Least") "lost" a.f_15:=by rw [zhd]; exact W.m_15
theorem zhm {a : Wa} : cl a "Most" = a.C_Most:=by unfold cl; rw [if_neg (by decide +kernel)]; rw [if_neg (by decide +kernel)]; rw [if_neg (by decide +kernel)]; rw [if_pos rfl]
theorem zgv {a : Wa} (W : Wd K mg a) : Cls K (cl a "Most"):=by rw [zhm]; exact W.cl_Most
theorem z5w {a : Wa} (W : Wd K mg a) : Mk K (cl a "Most") a.f_51:=by rw [zhm]; exact W.mk_Most
theorem z3d {a : Wa} (W : Wd K mg a) : mg "Most" = some (.ref (cl a "Most")):=by rw [zhm]; exact W.g_Most
theorem znc {a : Wa} (W : Wd K mg a) : zc6 K (cl a "Most") "bound":=by rw [zhm]; exact W.na_Most_bound
theorem zo2 {a : Wa} (W : Wd K mg a) : zc6 K (cl a "Most") "pieces":=by rw [zhm]; exact W.na_Most_pieces
theorem zv7 {a : Wa} (W : Wd K mg a) : zdb K (cl a "Most") "sure" a.f_23:=by rw [zhm]; exact W.m_23
theorem z49 {a : Wa} (W : Wd K mg a) : zdb K (cl a "Most") "lost" a.f_16:=by rw [zhm]; exact W.m_16
theorem zv9 {a : Wa} (W : Wd K mg a) : zqw K "bool":=fun t ht=>by
 simp only [List.mem_cons,List.not_mem_nil,or_false] at ht
 rcases ht with rfl | rfl | rfl | rfl | rfl | rfl | rfl
 ·exact W.kt_NoneType_bool
 ·exact W.kt_bool_bool
 ·exact W.kt_int_bool
 ·exact W.kt_str_bool
 ·exact W.kt_list_bool
 ·exact W.kt_tuple_bool
 ·exact W.kt_dict_bool
end
noncomputable def b_40 : List Sl -> Option Fl :=
 (zak (zbd (mB (m2 dEq (mIx (zaf 0) (fun _=>some (.int 0))) (fun _=>some (.str "in")))) (zay (m2 dIs (mIx (zaf 1) (mIx (zaf 0) (fun _=>some (.int 1)))) (fun _=>some (.bl true)))) zbq)
  (zak (zbd (mB (m2 dEq (mIx (zaf 0) (fun _=>some (.int 0))) (fun _=>some (.str "out")))) (zay (m2 dIs (mIx (zaf 1) (mIx (zaf 0) (fun _=>some (.int 1)))) (fun _=>some (.bl false)))) zbq)
  (zak (zbd (mB (m2 dEq (mIx (zaf 0) (fun _=>some (.int 0))) (fun _=>some (.str "least")))) (zay (m2 dGe (zao zdu (zab (zan (zbl 2 [1] (zbh (mIx (zaf 0) (fun _=>some (.int 2)))) (zcm (zbc (zar 0) (zbc (zar 1) zcr))) (mB (m2 dIs (mIx (zaf 2) (zaa 0)) (fun _=>some (.bl true)))) (zaa 1))) (fun _=>some []))) (mIx (zaf 0) (fun _=>some (.int 1))))) zbq)
  (zay (m2 dLe (zao zdu (zab (zan (zbl 2 [1] (zbh (mIx (zaf 0) (fun _=>some (.int 2)))) (zcm (zbc (zar 0) (zbc (zar 1) zcr))) (mB (m2 zel (mIx (zaf 2) (zaa 0)) (fun _=>some (.bl false)))) (zaa 1))) (fun _=>some []))) (mIx (zaf 0) (fun _=>some (.int 1))))))))
noncomputable def zlr (as : List D) : Option D:=za8 2 b_40 as
noncomputable def b_19 : List Sl -> Option Fl :=
 (zak (zbd (mOr (mB (m2 dEq (mIx (zaf 0) (fun _=>some (.int 0))) (fun _=>some (.str "may")))) (zdh (mB (m2 dEq (mIx (zaf 0) (fun _=>some (.int 0))) (fun _=>some (.str "make")))) (mB (m2 zel (mIx (zaf 1) (mIx (zaf 0) (fun _=>some (.int 1)))) (fun _=>some (.bl false)))))) (zay (fun _=>some (.bl false))) zbq)
  (zay (zao zfq (zab (zan (zbl 1 [1] (zbh (mIx (zaf 0) (fun _=>some (.int 2)))) (zar 0) (fun _=>some true) (zao zlr (zab (zaa 0) (zab (zaa 1) (fun _=>some [])))))) (fun _=>some [])))))
noncomputable def zkv (as : List D) : Option D:=za8 2 b_19 as
noncomputable def b_7 : List Sl -> Option Fl :=
 (zak (zbd (mB (m2 dLt (zaa 1) (zao zcz (zab (zaa 0) (fun _=>some []))))) (zay (mIx (zaf 0) (zaa 1))) zbq)
  (zay (fun _=>some (.int 0))))
noncomputable def m_7 (as : List D) : Option D:=za8 2 b_7 as
noncomputable def b_5 : List Sl -> Option Fl :=
 (zha (zbl 2 [] (zg7 (zab (zaa 0) (fun _=>some []))) (zcm (zbc (zar 0) (zbc (zar 1) zcr))) (zcu (zaa 1)) (zaa 0)))
noncomputable def m_5 (as : List D) : Option D:=za8 1 b_5 as
noncomputable def b_2 : List Sl -> Option Fl :=
 (zak (zcv 2 (fun _=>some []))
  (zak (zbf 3 (m2 zb7 (m2 zcn (m2 zbj (zaa 0) (fun _=>some (.int 2305843009213693951))) (fun _=>some (.int 1315423911))) (fun _=>some (.int 48271))))
  (zak (zco (zdt (zab (zaa 1) (fun _=>some []))) (zar 4) (zak (zbf 3 (m2 zbj (m2 zb7 (m2 zb7 (m2 zcn (zaa 3) (m2 zb7 (zaa 3) (fun _=>some (.int 69621)))) (m2 zcn (fun _=>some (.int 7)) (zaa 4))) (fun _=>some (.int 1))) (fun _=>some (.int 2305843009213693951))))
  (zd9 2 (zaa 3))))
  (zd0 2))))
noncomputable def m_2 (as : List D) : Option D:=za8 5 b_2 as
noncomputable def b_1 : List Sl -> Option Fl :=
 (zak (zbf 1 (zan (zab (zan (fun _=>some [])) (fun _=>some []))))
  (zak (zco (zdt (zab (zaa 0) (fun _=>some []))) (zar 2) (zak (zcv 3 (fun _=>some []))
  (zak (zco (zbh (zaa 1)) (zar 4) (zij 3 (ziw (zan (zab (zan (zdd (zaa 4) (zan (zab (fun _=>some (.bl true)) (fun _=>some []))))) (zab (zan (zdd (zaa 4) (zan (zab (fun _=>some (.bl false)) (fun _=>some []))))) (fun _=>some [])))))))
  (zdq 3 (zbf 1 (zaa 3))))))
  (zd0 1)))
noncomputable def m_1 (as : List D) : Option D:=za8 5 b_1 as
noncomputable def b_41 : List Sl -> Option Fl :=
 (zak (zbd (mB (m2 dEq (mIx (zaf 0) (fun _=>some (.int 0))) (fun _=>some (.str "in")))) (zay (mIx (zaf 1) (mIx (zaf 0) (fun _=>some (.int 1))))) zbq)
  (zak (zbd (mB (m2 dEq (mIx (zaf 0) (fun _=>some (.int 0))) (fun _=>some (.str "out")))) (zay (zhe (mIx (zaf 2) (mIx (zaf 0) (fun _=>some (.int 1)))))) zbq)
  (zak (zbd (mB (m2 dEq (mIx (zaf 0) (fun _=>some (.int 0))) (fun _=>some (.str "least")))) (zay (m2 dGe (zao zdu (zab (zan (zbl 2 [1] (zbh (mIx (zaf 0) (fun _=>some (.int 2)))) (zcm (zbc (zar 0) (zbc (zar 1) zcr))) (zcu (mIx (zaf 2) (zaa 0))) (zaa 1))) (fun _=>some []))) (mIx (zaf 0) (fun _=>some (.int 1))))) zbq)
  (zay (m2 dLe (zao zdu (zab (zan (zbl 2 [2] (zbh (mIx (zaf 0) (fun _=>some (.int 2)))) (zcm (zbc (zar 0) (zbc (zar 1) zcr))) (zcu (mIx (zaf 2) (zaa 0))) (zaa 1))) (fun _=>some []))) (mIx (zaf 0) (fun _=>some (.int 1))))))))
noncomputable def zl3 (as : List D) : Option D:=za8 3 b_41 as
noncomputable def b_3 : List Sl -> Option Fl :=
 (zak (zcv 2 (zbl 1 [] (zbh (zaa 1)) (zar 0) (fun _=>some true) (fun _=>some (.bl false))))
  (zak (zco (zdt (zab (zao zcz (zab (zaa 1) (fun _=>some []))) (fun _=>some []))) (zar 3) (zco (zbh (zaa 0)) (zcm (zbc (zar 4) (zbc (zar 5) (zbc (zar 6) zcr)))) (zbd (zdh (mB (m2 dNe (zaa 4) (fun _=>some (.str "never")))) (zdh (zcu (mIx (zaf 1) (zaa 5))) (zd7 (zcu (mIx (zaf 2) (zaa 5)))))) (zfu 2 (zaa 5) (zao zfq (zab (zan (zbl 1 [2,1] (zbh (zaa 6)) (zar 0) (fun _=>some true) (zj2 zl3 (zab (zaa 0) (zab (zgi 1) (zab (zaa 2) (fun _=>some []))))))) (fun _=>some [])))) zbq)))
  (zd0 2)))
noncomputable def m_3 (as : List D) : Option D:=za8 7 b_3 as
noncomputable def b_30 : List Sl -> Option Fl :=
 (zak (zco (zg7 (zab (zaa 0) (fun _=>some []))) (zcm (zbc (zar 3) (zbc (zar 4) zcr))) (zbd (zcu (zao zkv (zab (zaa 4) (zab (zaa 2) (fun _=>some []))))) (zay (zbe (zab (fun _=>some (.str "rule")) (zab (zaa 3) (fun _=>some []))))) zbq))
  (zak (zbf 5 (zao m_3 (zab (zaa 0) (zab (zaa 2) (fun _=>some [])))))
  (zak (zbd (mB (m2 dNe (zaa 5) (zaa 2))) (zay (zbe (zab (fun _=>some (.str "group")) (zab (zan (zbl 2 [5] (zg7 (zab (zaa 2) (fun _=>some []))) (zcm (zbc (zar 0) (zbc (zar 1) zcr))) (zdh (zcu (zaa 1)) (zd7 (zcu (mIx (zaf 2) (zaa 0))))) (zaa 0))) (fun _=>some []))))) zbq)
  (zay (zbe (zab (fun _=>some (.str "world")) (zab (m2 zix (zaa 1) (zao m_5 (zab (zaa 2) (fun _=>some [])))) (fun _=>some []))))))))
noncomputable def zpa (as : List D) : Option D:=za8 6 b_30 as
noncomputable def b_4 : List Sl -> Option Fl :=
 (zak (zcv 3 (fun _=>some []))
  (zak (zco (zbh (zao m_1 (zab (zaa 0) (fun _=>some [])))) (zar 4) (zd9 3 (zbe (zab (zan (zgt (zaa 4))) (zab (zan (zab (zbe (zab (fun _=>some .non) (zab (zao zpa (zab (zaa 1) (zab (zaa 2) (zab (zaa 4) (fun _=>some []))))) (fun _=>some [])))) (fun _=>some []))) (fun _=>some []))))))
  (zak (zbf 5 (fun _=>some (.int 0)))
  (zak (zco (zdt (zab (zaa 0) (fun _=>some []))) (zar 6) (zak (zbf 7 (m2 zf4 (m2 zf4 (zaa 0) (fun _=>some (.int 1))) (zaa 6)))
  (zak (zbf 8 (zao m_1 (zab (zaa 7) (fun _=>some []))))
  (zak (zbf 9 (zao zcz (zab (zgi 3) (fun _=>some []))))
  (zak (zco (zg7 (zab (zaa 8) (fun _=>some []))) (zcm (zbc (zar 10) (zbc (zar 4) zcr))) (zak (zbf 11 (zan (zab (zbe (zab (zbe (zab (zaa 7) (zab (fun _=>some (.bl false)) (fun _=>some [])))) (zab (zbe (zab (fun _=>some (.str "bar")) (zab (m2 zb7 (zaa 5) (m2 zcn (fun _=>some (.int 2)) (zaa 10))) (fun _=>some [])))) (fun _=>some [])))) (zab (zbe (zab (fun _=>some .non) (zab (zbe (zab (fun _=>some (.str "bar")) (zab (m2 zb7 (m2 zb7 (zaa 5) (m2 zcn (fun _=>some (.int 2)) (zaa 10))) (fun _=>some (.int 1))) (fun _=>some [])))) (fun _=>some [])))) (fun _=>some [])))))
  (zd9 3 (zbe (zab (zan (zgt (zaa 4))) (zab (zaa 11) (fun _=>some [])))))))
  (zbf 5 (zaa 9)))))))
  (zd0 3)))))
noncomputable def m_4 (as : List D) : Option D:=za8 12 b_4 as
noncomputable def b_18 : List Sl -> Option Fl :=
 (zak (zcv 2 (fun _=>some []))
  (zak (zco (zdt (zab (zaa 1) (fun _=>some []))) (zar 3) (zak (zbf 4 (m2 zbj (m2 zb7 (zaa 3) (fun _=>some (.int 1))) (zaa 1)))
  (zak (zbf 5 (mIx (zab (fun _=>some .non) (zab (zbe (zab (fun _=>some (.str "in")) (zab (zaa 3) (fun _=>some [])))) (zab (zbe (zab (fun _=>some (.str "out")) (zab (zaa 3) (fun _=>some [])))) (zab (zbe (zab (fun _=>some (.str "least")) (zab (fun _=>some (.int 2)) (zab (zan (zab (zbe (zab (zaa 3) (zab (fun _=>some (.int 2)) (fun _=>some [])))) (zab (zbe (zab (zaa 4) (zab (fun _=>some (.int 1)) (fun _=>some [])))) (fun _=>some [])))) (fun _=>some []))))) (zab (zbe (zab (fun _=>some (.str "most")) (zab (fun _=>some (.int 0)) (zab (zan (zab (zbe (zab (zaa 3) (zab (fun _=>some (.int 1)) (fun _=>some [])))) (fun _=>some []))) (fun _=>some []))))) (fun _=>some [])))))) (zaa 0)))
  (zbd (mB (m2 zel (zaa 5) (fun _=>some .non))) (zd9 2 (zbe (zab (mIx (zab (fun _=>some (.str "make")) (zab (fun _=>some (.str "may")) (fun _=>some []))) (m2 zga (m2 zbj (m2 zcn (zaa 3) (zaa 0)) (fun _=>some (.int 5))) (fun _=>some (.int 4)))) (zab (zaa 4) (zab (zan (zab (zaa 5) (fun _=>some []))) (fun _=>some [])))))) zbq))))
  (zd0 2)))
noncomputable def znf (as : List D) : Option (List D):=zkc 6 b_18 as
noncomputable def b_33 : List Sl -> Option Fl :=
 (zak (zbd (mB (m2 dEq (m2 zbj (zaa 0) (fun _=>some (.int 8))) (fun _=>some (.int 5)))) (zay (m2 zbj (m2 zcn (m2 zcn (m2 zcn (zaa 0) (zaa 0)) (zaa 0)) (zaa 0)) (m2 zm0 (fun _=>some (.int 10)) (fun _=>some (.int 60))))) zbq)
  (zay (mIx (zab (fun _=>some (.int 1)) (zab (fun _=>some (.int 1)) (zab (fun _=>some (.int 2)) (zab (fun _=>some (.int 0)) (zab (fun _=>some (.int 3)) (zab (fun _=>some (.int 1)) (zab (fun _=>some (.int 1)) (zab (fun _=>some (.int 2)) (fun _=>some []))))))))) (m2 zbj (m2 zga (zaa 0) (fun _=>some (.int 8))) (fun _=>some (.int 8))))))
noncomputable def zkn (as : List D) : Option D:=za8 1 b_33 as
noncomputable def b_28 : List Sl -> Option Fl :=
 (zak (zbf 2 (mIx (zab (fun _=>some (.str "in")) (zab (fun _=>some (.str "out")) (zab (fun _=>some (.str "in")) (zab (fun _=>some (.str "least")) (zab (fun _=>some (.str "most")) (fun _=>some [])))))) (m2 zbj (mIx (zaf 0) (fun _=>some (.int 0))) (fun _=>some (.int 5)))))
  (zak (zbd (mOr (mB (m2 dEq (zaa 2) (fun _=>some (.str "in")))) (mB (m2 dEq (zaa 2) (fun _=>some (.str "out"))))) (zay (zbe (zab (zaa 2) (zab (m2 zbj (mIx (zaf 0) (fun _=>some (.int 1))) (zaa 1)) (fun _=>some []))))) zbq)
  (zak (zbf 3 (zan (zbl 1 [1,0] (zdt (zab (m2 zbj (mIx (zaf 0) (fun _=>some (.int 2))) (fun _=>some (.int 4))) (fun _=>some []))) (zar 0) (fun _=>some true) (zbe (zab (m2 zbj (mIx (zaf 2) (m2 zb7 (fun _=>some (.int 4)) (m2 zcn (fun _=>some (.int 2)) (zaa 0)))) (zaa 1)) (zab (zao zkn (zab (mIx (zaf 2) (m2 zb7 (fun _=>some (.int 5)) (m2 zcn (fun _=>some (.int 2)) (zaa 0)))) (fun _=>some []))) (fun _=>some [])))))))
  (zak (zbf 4 (zao zdu (zab (zan (zbl 2 [] (zbh (zan (mSl (zaa 3) (fun _=>some none) (mPt (m2 zbj (mIx (zaf 0) (fun _=>some (.int 3))) (fun _=>some (.int 5))))))) (zcm (zbc (zar 0) (zbc (zar 1) zcr))) (fun _=>some true) (zaa 1))) (fun _=>some []))))
  (zay (zbe (zab (zaa 2) (zab (m2 zf4 (m2 zb7 (zaa 4) (m2 zbj (m2 zga (mIx (zaf 0) (fun _=>some (.int 3))) (fun _=>some (.int 5))) (fun _=>some (.int 3)))) (fun _=>some (.int 1))) (zab (zaa 3) (fun _=>some []))))))))))
noncomputable def zla (as : List D) : Option D:=za8 5 b_28 as
noncomputable def b_34 : List Sl -> Option Fl :=
 (zak (zbf 3 (zao m_2 (zab (zaa 0) (zab (fun _=>some (.int 33)) (fun _=>some [])))))
  (zak (zbd (mB (m2 dEq (zaa 1) (fun _=>some (.int 0)))) (zay (zbe (zab (fun _=>some (.str "never")) (zab (fun _=>some .non) (zab (zan (mSl (zan (zab (zbe (zab (mIx (zab (fun _=>some (.str "least")) (zab (fun _=>some (.str "most")) (fun _=>some []))) (m2 zbj (mIx (zaf 3) (fun _=>some (.int 0))) (fun _=>some (.int 2)))) (zab (m2 zf4 (m2 zbj (mIx (zaf 3) (fun _=>some (.int 1))) (fun _=>some (.int 3))) (fun _=>some (.int 1))) (zab (zan (fun _=>some [])) (fun _=>some []))))) (fun _=>some []))) (fun _=>some none) (mPt (m2 zbj (mIx (zaf 3) (fun _=>some (.int 2))) (fun _=>some (.int 6)))))) (fun _=>some [])))))) zbq)
  (zak (zbf 4 (zan (zbl 1 [1,3] (zdt (zab (mIx (zab (fun _=>some (.int 1)) (zab (fun _=>some (.int 1)) (zab (fun _=>some (.int 2)) (zab (fun _=>some (.int 2)) (zab (fun _=>some (.int 3)) (zab (fun _=>some (.int 0)) (fun _=>some []))))))) (m2 zbj (mIx (zaf 3) (fun _=>some (.int 0))) (fun _=>some (.int 6)))) (fun _=>some []))) (zar 0) (fun _=>some true) (zao zla (zab (zan (mSl (zaa 2) (mPt (m2 zb7 (fun _=>some (.int 3)) (m2 zcn (fun _=>some (.int 10)) (zaa 0)))) (mPt (m2 zb7 (fun _=>some (.int 13)) (m2 zcn (fun _=>some (.int 10)) (zaa 0)))))) (zab (zaa 1) (fun _=>some [])))))))
  (zak (zbd (zdh (mB (m2 dEq (m2 zbj (mIx (zaf 3) (fun _=>some (.int 1))) (fun _=>some (.int 8))) (fun _=>some (.int 0)))) (zdh (zd7 (zcu (zaa 2))) (mOr (mB (m2 dNe (zaa 4) (zan (fun _=>some [])))) (mB (m2 dEq (m2 zbj (mIx (zaf 3) (fun _=>some (.int 2))) (fun _=>some (.int 4))) (fun _=>some (.int 0))))))) (zay (zbe (zab (fun _=>some (.str "never")) (zab (fun _=>some .non) (zab (zaa 4) (fun _=>some [])))))) zbq)
  (zay (zbe (zab (mIx (zab (fun _=>some (.str "make")) (zab (fun _=>some (.str "may")) (fun _=>some []))) (m2 zbj (m2 zga (mIx (zaf 3) (fun _=>some (.int 1))) (fun _=>some (.int 8))) (fun _=>some (.int 2)))) (zab (m2 zbj (m2 zga (mIx (zaf 3) (fun _=>some (.int 2))) (fun _=>some (.int 4))) (zaa 1)) (zab (zaa 4) (fun _=>some []))))))))))
noncomputable def zph (as : List D) : Option D:=za8 5 b_34 as
noncomputable def b_9 : List Sl -> Option Fl :=
 (zak (zbf 4 (zao m_2 (zab (zaa 3) (zab (fun _=>some (.int 4)) (fun _=>some [])))))
  (zak (zbf 5 (m2 zbj (mIx (zaf 4) (fun _=>some (.int 1))) (zao zcz (zab (zaa 2) (fun _=>some [])))))
  (zak (zbd (mB (m2 dEq (m2 zbj (mIx (zaf 4) (fun _=>some (.int 0))) (fun _=>some (.int 5))) (fun _=>some (.int 0)))) (zay (zbe (zab (zaa 1) (zab (zan (mSl (zaa 2) (fun _=>some none) (mPt (m1 zho (fun _=>some (.int 1)))))) (fun _=>some []))))) zbq)
  (zak (zbd (mB (m2 dEq (m2 zbj (mIx (zaf 4) (fun _=>some (.int 0))) (fun _=>some (.int 5))) (fun _=>some (.int 1)))) (zay (zbe (zab (zaa 1) (zab (zan (zdd (zan (mSl (zaa 2) (fun _=>some none) (mPt (zaa 5)))) (zan (mSl (zaa 2) (mPt (m2 zb7 (zaa 5) (fun _=>some (.int 1)))) (fun _=>some none))))) (fun _=>some []))))) zbq)
  (zak (zbd (zdh (mB (m2 dEq (m2 zbj (mIx (zaf 4) (fun _=>some (.int 0))) (fun _=>some (.int 5))) (fun _=>some (.int 2)))) (zdh (mB (m2 dNe (zaa 1) (zan (fun _=>some [])))) (mB (m2 dGt (zaa 0) (fun _=>some (.int 0)))))) (zak (zbf 5 (m2 zbj (mIx (zaf 4) (fun _=>some (.int 1))) (zao zcz (zab (zaa 1) (fun _=>some [])))))
  (zak (zbf 6 (zan (zbl 1 [1,5,0,4] (zdt (zab (zaa 0) (fun _=>some []))) (zar 0) (fun _=>some true) (m2 dNe (m2 dIn (zaa 0) (mIx (zaf 1) (zaa 2))) (m2 dEq (zaa 0) (m2 zbj (mIx (zaf 4) (fun _=>some (.int 2))) (zaa 3)))))))
  (zay (zbe (zab (zan (zdd (zan (zdd (zan (mSl (zaa 1) (fun _=>some none) (mPt (zaa 5)))) (zan (zab (zao m_5 (zab (zaa 6) (fun _=>some []))) (fun _=>some []))))) (zan (mSl (zaa 1) (mPt (m2 zb7 (zaa 5) (fun _=>some (.int 1)))) (fun _=>some none))))) (zab (zaa 2) (fun _=>some []))))))) zbq)
  (zak (zbd (zdh (mB (m2 dEq (m2 zbj (mIx (zaf 4) (fun _=>some (.int 0))) (fun _=>some (.int 5))) (fun _=>some (.int 3)))) (mB (m2 dGt (zaa 0) (fun _=>some (.int 0))))) (zak (zbf 5 (m2 zbj (mIx (zaf 4) (fun _=>some (.int 1))) (zao zol (zab (fun _=>some (.int 1)) (zab (m2 zf4 (m2 zga (m2 zb7 (zao zcz (zab (zaa 2) (fun _=>some []))) (fun _=>some (.int 1))) (fun _=>some (.int 2))) (fun _=>some (.int 1))) (fun _=>some []))))))
  (zay (zbe (zab (zaa 1) (zab (zan (zdd (zan (mSl (zaa 2) (fun _=>some none) (mPt (m2 zb7 (zaa 5) (fun _=>some (.int 1)))))) (zan (mSl (zaa 2) (mPt (zaa 5)) (fun _=>some none))))) (fun _=>some [])))))) zbq)
  (zak (zi5 (zcm (zbc (zar 7) (zbc (zar 8) zcr))) (mIx (zaf 2) (zaa 5)))
  (zak (zbf 9 (zbe (zab (fun _=>some .non) (zab (zbe (zab (mIx (zab (fun _=>some (.str "rule")) (zab (fun _=>some (.str "bar")) (zab (fun _=>some (.str "world")) (fun _=>some [])))) (m2 zbj (mIx (zaf 4) (fun _=>some (.int 2))) (fun _=>some (.int 3)))) (zab (m2 zb7 (fun _=>some (.int 400)) (m2 zbj (mIx (zaf 4) (fun _=>some (.int 3))) (m2 zm0 (fun _=>some (.int 10)) (fun _=>some (.int 9))))) (fun _=>some [])))) (fun _=>some [])))))
  (zay (zbe (zab (zaa 1) (zab (zan (zdd (zan (zdd (zan (mSl (zaa 2) (fun _=>some none) (mPt (zaa 5)))) (zan (zab (zbe (zab (zaa 7) (zab (zan (zdd (zan (mSl (zaa 8) (fun _=>some none) (mPt (m1 zho (fun _=>some (.int 1)))))) (zan (zab (zaa 9) (fun _=>some []))))) (fun _=>some [])))) (fun _=>some []))))) (zan (mSl (zaa 2) (mPt (m2 zb7 (zaa 5) (fun _=>some (.int 1)))) (fun _=>some none))))) (fun _=>some [])))))))))))))
noncomputable def m_9 (as : List D) : Option D:=za8 10 b_9 as
noncomputable def b_29 : List Sl -> Option Fl :=
 (zak (zcv 1 (fun _=>some []))
  (zak (zco (zbh (zaa 0)) (zcm (zbc (zar 2) (zbc (zar 3) zcr))) (zak (zbd (mB (m2 dEq (mIx (zaf 3) (fun _=>some (.int 0))) (fun _=>some (.str "group")))) (zbf 3 (zbe (zab (mIx (zaf 3) (fun _=>some (.int 0))) (zab (zan (zbh (mIx (zaf 3) (fun _=>some (.int 1))))) (fun _=>some []))))) zbq)
  (zd9 1 (zbe (zab (zaa 2) (zab (zaa 3) (fun _=>some [])))))))
  (zd0 1)))
noncomputable def znd (as : List D) : Option D:=za8 4 b_29 as
noncomputable def b_11 : List Sl -> Option Fl :=
 (zak (zcv 1 (fun _=>some []))
  (zak (zco (zbh (zaa 0)) (zcm (zbc (zar 2) (zbc (zar 3) (zbc (zar 4) zcr)))) (zak (zcv 5 (fun _=>some []))
  (zak (zco (zbh (zaa 4)) (zar 6) (zak (zbd (mB (m2 dEq (zao zcz (zab (zaa 6) (fun _=>some []))) (fun _=>some (.int 3)))) (zbf 6 (zbe (zab (mIx (zaf 6) (fun _=>some (.int 0))) (zab (mIx (zaf 6) (fun _=>some (.int 1))) (zab (zan (zbh (mIx (zaf 6) (fun _=>some (.int 2))))) (fun _=>some [])))))) zbq)
  (zd9 5 (zaa 6))))
  (zdq 5 (zd9 1 (zbe (zab (zaa 2) (zab (zaa 3) (zab (zaa 5) (fun _=>some []))))))))))
  (zd0 1)))
noncomputable def zn8 (as : List D) : Option D:=za8 7 b_11 as
noncomputable def b_26 : List Sl -> Option Fl :=
 (zak (zcv 3 (zbl 1 [] (zdt (zab (zaa 0) (fun _=>some []))) (zar 0) (fun _=>some true) (fun _=>some .non)))
  (zak (zco (zbh (zaa 1)) (zcm (zbc (zar 2) (zbc (zar 4) zcr))) (zfu 3 (zaa 2) (zaa 4)))
  (zd0 3)))
noncomputable def zna (as : List D) : Option D:=za8 5 b_26 as
noncomputable def b_35 : List Sl -> Option Fl :=
 (zak (zcv 3 (zaf 0))
  (zak (zfu 3 (zaa 1) (zaa 2))
  (zd0 3)))
noncomputable def zoc (as : List D) : Option D:=za8 4 b_35 as
noncomputable def b_46 : List Sl -> Option Fl :=
 (zay (zao zfq (zab (zan (zbl 2 [0] (zbh (zaa 1)) (zcm (zbc (zar 0) (zbc (zar 1) zcr))) (fun _=>some true) (m2 dEq (mIx (zaf 2) (zaa 0)) (zaa 1)))) (fun _=>some []))))
noncomputable def zpi (as : List D) : Option D:=za8 2 b_46 as
noncomputable def b_6 : List Sl -> Option Fl :=
 (zay (zia dLe dLt (fun _=>some (.int 0)) (zaa 1) (zao zcz (zab (zaa 0) (fun _=>some [])))))
noncomputable def m_6 (as : List D) : Option D:=za8 2 b_6 as
noncomputable def b_8 : List Sl -> Option Fl :=
 (zak (zp5 2)
  (zak (zco (zbh (zaa 1)) (zar 3) (zhg 2 (zaa 3) (fun _=>some (.bl true))))
  (zdq 2 (zha (zbl 1 [2] (zdt (zab (zaa 0) (fun _=>some []))) (zar 0) (fun _=>some true) (m2 zqh (zaa 0) (zaa 1)))))))
noncomputable def m_8 (as : List D) : Option D:=za8 4 b_8 as
noncomputable def b_47 : List Sl -> Option Fl :=
 (zay (zao zf6 (zab (zan (zbl 1 [0] (zbh (zaa 1)) (zar 0) (fun _=>some true) (m2 dIs (mIx (zaf 1) (zaa 0)) (fun _=>some (.bl true))))) (fun _=>some []))))
noncomputable def zng (as : List D) : Option D:=za8 2 b_47 as
noncomputable def b_13 : List Sl -> Option Fl :=
 (zay (vOr (m2 dIs (mIx (zaf 1) (zd1 "In" "thing" (zaa 0))) (fun _=>some (.bl false))) (mIx (zaf 2) (zd1 "In" "thing" (zaa 0)))))
noncomputable def m_13 (as : List D) : Option D:=za8 3 b_13 as
noncomputable def b_42 : List Sl -> Option Fl :=
 (zha (zbl 1 [1] (zbh (zaa 0)) (zar 0) (zd7 (zcu (mIx (zaf 1) (mIx (zaf 0) (fun _=>some (.int 0)))))) (zaa 0)))
noncomputable def znb (as : List D) : Option D:=za8 2 b_42 as
noncomputable def b_17 : List Sl -> Option Fl :=
 (zay (zao zdu (zab (zan (zbl 2 [1] (zbh (zaa 0)) (zcm (zbc (zar 0) (zbc (zar 1) zcr))) (mB (m2 zel (mIx (zaf 2) (zaa 0)) (fun _=>some (.bl false)))) (zaa 1))) (fun _=>some []))))
noncomputable def zkd (as : List D) : Option D:=za8 2 b_17 as
noncomputable def b_15 : List Sl -> Option Fl :=
 (zay (m2 dLt (zao zkd (zab (zao znb (zab (zd1 "Least" "pieces" (zaa 0)) (zab (zaa 2) (fun _=>some [])))) (zab (zaa 1) (fun _=>some [])))) (zd1 "Least" "bound" (zaa 0))))
noncomputable def m_15 (as : List D) : Option D:=za8 3 b_15 as
noncomputable def b_24 : List Sl -> Option Fl :=
 (zay (zao zdu (zab (zan (zbl 2 [1] (zbh (zaa 0)) (zcm (zbc (zar 0) (zbc (zar 1) zcr))) (mB (m2 dIs (mIx (zaf 2) (zaa 0)) (fun _=>some (.bl true)))) (zaa 1))) (fun _=>some []))))
noncomputable def zmc (as : List D) : Option D:=za8 2 b_24 as
noncomputable def b_16 : List Sl -> Option Fl :=
 (zay (m2 dGt (zao zmc (zab (zd1 "Most" "pieces" (zaa 0)) (zab (zaa 1) (fun _=>some [])))) (zd1 "Most" "bound" (zaa 0))))
noncomputable def m_16 (as : List D) : Option D:=za8 3 b_16 as
noncomputable def b_14 : List Sl -> Option Fl :=
 (zay (m2 dIs (mIx (zaf 1) (zd1 "Out" "thing" (zaa 0))) (fun _=>some (.bl true))))
noncomputable def m_14 (as : List D) : Option D:=za8 3 b_14 as
noncomputable def zr6 (as : List D) : Option (List Str × List D):=zk4 2 [("thing",(zaa 1))] as
noncomputable def zug (as : List D) : Option (List Str × List D):=zk4 3 [("bound",(zaa 1)),("pieces",(zan (zaf 2)))] as
noncomputable def ztt (as : List D) : Option (List Str × List D):=zk4 3 [("bound",(zaa 1)),("pieces",(zan (zaf 2)))] as
noncomputable def zsx (as : List D) : Option (List Str × List D):=zk4 2 [("thing",(zaa 1))] as
noncomputable def b_39 : List Sl -> Option Fl :=
 (zak (zbf 1 (mIx (zaf 0) (fun _=>some (.int 0))))
  (zak (zbd (mB (m2 dEq (zaa 1) (fun _=>some (.str "in")))) (zay (zi0 "In" zr6 (zab (mIx (zaf 0) (fun _=>some (.int 1))) (fun _=>some [])))) zbq)
  (zak (zbd (mB (m2 dEq (zaa 1) (fun _=>some (.str "out")))) (zay (zi0 "Out" zsx (zab (mIx (zaf 0) (fun _=>some (.int 1))) (fun _=>some [])))) zbq)
  (zak (zbd (mB (m2 dEq (zaa 1) (fun _=>some (.str "least")))) (zay (zi0 "Least" zug (zab (mIx (zaf 0) (fun _=>some (.int 1))) (zab (mIx (zaf 0) (fun _=>some (.int 2))) (fun _=>some []))))) zbq)
  (zay (zi0 "Most" ztt (zab (mIx (zaf 0) (fun _=>some (.int 1))) (zab (mIx (zaf 0) (fun _=>some (.int 2))) (fun _=>some [])))))))))
noncomputable def zok (as : List D) : Option D:=za8 2 b_39 as
noncomputable def b_25 : List Sl -> Option Fl :=
 (zha (zbl 1 [] (zbh (mIx (zaf 0) (fun _=>some (.int 2)))) (zar 0) (fun _=>some true) (zao zok (zab (zaa 0) (fun _=>some [])))))
noncomputable def zli (as : List D) : Option D:=za8 1 b_25 as
noncomputable def b_44 : List Sl -> Option Fl :=
 (zay (zao zf6 (zab (zan (zbl 1 [1,2] (zbh (zao zli (zab (zaa 0) (fun _=>some [])))) (zar 0) (fun _=>some true) (zdk (zc0 "In" "lost" m_13 (zaa 0) (zab (zaa 1) (zab (zaa 2) (fun _=>some [])))) (zdk (zc0 "Out" "lost" m_14 (zaa 0) (zab (zaa 1) (zab (zaa 2) (fun _=>some [])))) (zdk (zc0 "Least" "lost" m_15 (zaa 0) (zab (zaa 1) (zab (zaa 2) (fun _=>some [])))) (zc0 "Most" "lost" m_16 (zaa 0) (zab (zaa 1) (zab (zaa 2) (fun _=>some []))))))))) (fun _=>some []))))
noncomputable def zpv (as : List D) : Option D:=za8 3 b_44 as
noncomputable def b_36 : List Sl -> Option Fl :=
 (zak (zbf 3 (mIx (zaf 0) (fun _=>some (.int 1))))
  (zay (zec (m2 zel (zaa 3) (fun _=>some .non)) (zec (mIx (zaf 2) (zaa 3)) (zhe (zao zpv (zab (zaa 0) (zab (zaa 1) (zab (zaa 2) (fun _=>some []))))))))))
noncomputable def zor (as : List D) : Option D:=za8 4 b_36 as
noncomputable def b_37 : List Sl -> Option Fl :=
 (zak (zbf 3 (zao m_8 (zab (mIx (zaf 0) (fun _=>some (.int 0))) (zab (zaa 2) (fun _=>some [])))))
  (zak (zbd (zcu (zao zf6 (zab (zan (zbl 1 [1,3] (zbh (mIx (zaf 0) (fun _=>some (.int 1)))) (zar 0) (fun _=>some true) (zao zor (zab (zaa 0) (zab (zaa 1) (zab (zaa 2) (fun _=>some []))))))) (fun _=>some [])))) (zay (fun _=>some (.bl false))) zbq)
  (zay (zao zng (zab (zaa 1) (zab (zaa 2) (fun _=>some [])))))))
noncomputable def zpl (as : List D) : Option D:=za8 4 b_37 as
noncomputable def b_20 : List Sl -> Option Fl :=
 (zay (m2 dIs (mIx (zaf 1) (zd1 "In" "thing" (zaa 0))) (fun _=>some (.bl true))))
noncomputable def m_20 (as : List D) : Option D:=za8 2 b_20 as
noncomputable def b_22 : List Sl -> Option Fl :=
 (zay (m2 dGe (zao zmc (zab (zd1 "Least" "pieces" (zaa 0)) (zab (zaa 1) (fun _=>some [])))) (zd1 "Least" "bound" (zaa 0))))
noncomputable def m_22 (as : List D) : Option D:=za8 2 b_22 as
noncomputable def b_23 : List Sl -> Option Fl :=
 (zay (m2 dLe (zao zkd (zab (zd1 "Most" "pieces" (zaa 0)) (zab (zaa 1) (fun _=>some [])))) (zd1 "Most" "bound" (zaa 0))))
noncomputable def m_23 (as : List D) : Option D:=za8 2 b_23 as
noncomputable def b_21 : List Sl -> Option Fl :=
 (zay (m2 dIs (mIx (zaf 1) (zd1 "Out" "thing" (zaa 0))) (fun _=>some (.bl false))))
noncomputable def m_21 (as : List D) : Option D:=za8 2 b_21 as
noncomputable def b_43 : List Sl -> Option Fl :=
 (zay (zao zfq (zab (zan (zbl 1 [1] (zbh (zao zli (zab (zaa 0) (fun _=>some [])))) (zar 0) (fun _=>some true) (zdk (zc0 "In" "sure" m_20 (zaa 0) (zab (zaa 1) (fun _=>some []))) (zdk (zc0 "Out" "sure" m_21 (zaa 0) (zab (zaa 1) (fun _=>some []))) (zdk (zc0 "Least" "sure" m_22 (zaa 0) (zab (zaa 1) (fun _=>some []))) (zc0 "Most" "sure" m_23 (zaa 0) (zab (zaa 1) (fun _=>some [])))))))) (fun _=>some []))))
noncomputable def zpw (as : List D) : Option D:=za8 2 b_43 as
noncomputable def b_45 : List Sl -> Option Fl :=
 (zak (zbd (mB (m2 dEq (mIx (zaf 0) (fun _=>some (.int 0))) (fun _=>some (.str "may")))) (zay (fun _=>some (.bl false))) zbq)
  (zak (zbd (zdh (mB (m2 dEq (mIx (zaf 0) (fun _=>some (.int 0))) (fun _=>some (.str "make")))) (mB (m2 zel (mIx (zaf 1) (mIx (zaf 0) (fun _=>some (.int 1)))) (fun _=>some (.bl false))))) (zay (fun _=>some (.bl false))) zbq)
  (zay (zao zpw (zab (zaa 0) (zab (zaa 1) (fun _=>some [])))))))
noncomputable def zqf (as : List D) : Option D:=za8 2 b_45 as
noncomputable def b_12 : List Sl -> Option Fl :=
 (zak (zbd (mB (m2 dEq (mIx (zaf 4) (fun _=>some (.int 0))) (fun _=>some (.str "group")))) (zay (zao zpl (zab (zaa 0) (zab (zaa 3) (zab (mIx (zaf 4) (fun _=>some (.int 1))) (fun _=>some [])))))) zbq)
  (zak (zbf 5 (mIx (zaf 4) (fun _=>some (.int 1))))
  (zak (zbd (mB (m2 dEq (mIx (zaf 4) (fun _=>some (.int 0))) (fun _=>some (.str "rule")))) (zay (zec (zao m_6 (zab (mIx (zaf 0) (fun _=>some (.int 1))) (zab (zaa 5) (fun _=>some [])))) (zao zqf (zab (mIx (zbh (mIx (zaf 0) (fun _=>some (.int 1)))) (zaa 5)) (zab (zaa 3) (fun _=>some [])))))) zbq)
  (zak (zbd (mB (m2 dEq (mIx (zaf 4) (fun _=>some (.int 0))) (fun _=>some (.str "bar")))) (zay (zec (zao m_6 (zab (zaa 2) (zab (zaa 5) (fun _=>some [])))) (zao zpi (zab (zaa 3) (zab (mIx (zaf 2) (zaa 5)) (fun _=>some [])))))) zbq)
  (zay (zec (m2 dEq (mIx (zaf 4) (fun _=>some (.int 0))) (fun _=>some (.str "world"))) (zec (zao m_6 (zab (zaa 1) (zab (zaa 5) (fun _=>some [])))) (m2 dEq (zaa 3) (zao m_8 (zab (mIx (zaf 0) (fun _=>some (.int 0))) (zab (mIx (zaf 1) (zaa 5)) (fun _=>some []))))))))))))
noncomputable def zm7 (as : List D) : Option D:=za8 6 b_12 as
noncomputable def b_38 : List Sl -> Option Fl :=
 (zak (zbf 5 (mIx (zaf 4) (fun _=>some (.int 0))))
  (zak (zbd (mB (m2 dIs (zaa 5) (fun _=>some .non))) (zay (zao zm7 (zab (zaa 0) (zab (zaa 1) (zab (zaa 2) (zab (zaa 3) (zab (mIx (zaf 4) (fun _=>some (.int 1))) (fun _=>some [])))))))) zbq)
  (zak (zbd (mB (m2 zel (mIx (zaf 3) (mIx (zaf 5) (fun _=>some (.int 0)))) (fun _=>some .non))) (zay (fun _=>some (.bl false))) zbq)
  (zay (zao zm7 (zab (zaa 0) (zab (zaa 1) (zab (zaa 2) (zab (zao zoc (zab (zaa 3) (zab (mIx (zaf 5) (fun _=>some (.int 0))) (zab (zhe (mIx (zaf 5) (fun _=>some (.int 1)))) (fun _=>some []))))) (zab (mIx (zaf 4) (fun _=>some (.int 1))) (fun _=>some [])))))))))))
noncomputable def zqc (as : List D) : Option D:=za8 6 b_38 as
noncomputable def b_27 : List Sl -> Option Fl :=
 (zak (zcv 5 (zaf 3))
  (zak (zco (zkw (zaa 4)) (zcm (zbc (zar 6) (zbc (zar 7) zcr))) (zak (zbf 8 (m2 dIs (mIx (zaf 7) (fun _=>some (.int 0))) (fun _=>some .non)))
  (zak (zbd (mB (m2 dNe (zaa 8) (m2 dEq (zaa 6) (zao zcz (zab (zaa 4) (fun _=>some [])))))) (zay (fun _=>some (.bl false))) zbq)
  (zak (zbd (zd7 (zcu (zih zqc (zab (zaa 0) (zab (zaa 1) (zab (zaa 2) (zab (zgi 5) (zab (zaa 7) (fun _=>some []))))))))) (zay (fun _=>some (.bl false))) zbq)
  (zbd (zd7 (zcu (zaa 8))) (zfu 5 (mIx (zbh (mIx (zaf 7) (fun _=>some (.int 0)))) (fun _=>some (.int 0))) (mIx (zbh (mIx (zaf 7) (fun _=>some (.int 0)))) (fun _=>some (.int 1)))) zbq)))))
  (zay (m2 dGt (zao zcz (zab (zaa 4) (fun _=>some []))) (fun _=>some (.int 0))))))
noncomputable def zpu (as : List D) : Option D:=za8 9 b_27 as
noncomputable def b_31 : List Sl -> Option Fl :=
 (zak (zbf 4 (mIx (zaf 3) (fun _=>some (.int 0))))
  (zak (zbf 5 (zan (zbl 2 [] (zbh (zaa 4)) (zcm (zbc (zar 0) (zbc (zar 1) zcr))) (fun _=>some true) (zaa 0))))
  (zak (zbd (mB (m2 dLt (zkl (zaa 5)) (zao zcz (zab (zaa 5) (fun _=>some []))))) (zay (fun _=>some (.bl false))) zbq)
  (zay (zao zpu (zab (zaa 0) (zab (zaa 1) (zab (zaa 2) (zab (zao zna (zab (mIx (zaf 0) (fun _=>some (.int 0))) (zab (zaa 4) (fun _=>some [])))) (zab (mIx (zaf 3) (fun _=>some (.int 1))) (fun _=>some [])))))))))))
noncomputable def zqd (as : List D) : Option D:=za8 6 b_31 as
noncomputable def b_32 : List Sl -> Option Fl :=
 (zak (zcv 3 (fun _=>some []))
  (zak (zco (zbh (zaa 2)) (zar 4) (zak (zbd (zd7 (zcu (zih zqd (zab (zaa 0) (zab (zaa 1) (zab (zgi 3) (zab (zaa 4) (fun _=>some [])))))))) (zay (fun _=>some (.bl false))) zbq)
  (zd9 3 (mIx (zaf 4) (fun _=>some (.int 0))))))
  (zdq 3 (zay (zec (m2 dGt (zao zcz (zab (zaa 3) (fun _=>some []))) (fun _=>some (.int 0))) (m2 dEq (zao zcz (zab (mIx (zaf 3) (m1 zho (fun _=>some (.int 1)))) (fun _=>some []))) (fun _=>some (.int 0))))))))
noncomputable def zpj (as : List D) : Option D:=za8 5 b_32 as
noncomputable def b_10 : List Sl -> Option Fl :=
 (zak (zbf 5 (zan (zab (zbe (zab (zaa 0) (zab (zao zn8 (zab (zaa 1) (fun _=>some []))) (fun _=>some [])))) (zab (zan (zbl 1 [] (zbh (zaa 2)) (zar 0) (fun _=>some true) (zan (zaf 0)))) (fun _=>some [])))))
  (zak (zbf 6 (zan (zbl 2 [] (zbh (zaa 3)) (zcm (zbc (zar 0) (zbc (zar 1) zcr))) (fun _=>some true) (zbe (zab (zan (zaf 0)) (zab (zao znd (zab (zaa 1) (fun _=>some []))) (fun _=>some [])))))))
  (zak (zbf 7 (zao zpj (zab (mIx (zaf 5) (fun _=>some (.int 0))) (zab (mIx (zaf 5) (fun _=>some (.int 1))) (zab (zaa 6) (fun _=>some []))))))
  (zak (zbd (mOr (zd7 (zcu (zp6 "bool" (zaa 7)))) (mB (m2 dNe (zaa 7) (zaa 4)))) (zay (fun _=>some (.bl false))) zbq)
  (zay (zec (m2 dEq (zaa 5) (zan (zab (zbe (zab (zaa 0) (zab (zaa 1) (fun _=>some [])))) (zab (zaa 2) (fun _=>some []))))) (m2 dEq (zaa 6) (zaa 3))))))))
noncomputable def zl1 (as : List D) : Option D:=za8 8 b_10 as
noncomputable def b_0 : List Sl -> Option Fl :=
 (zak (zbf 1 (zao m_2 (zab (zao m_7 (zab (zaa 0) (zab (fun _=>some (.int 0)) (fun _=>some [])))) (zab (fun _=>some (.int 4)) (fun _=>some [])))))
  (zak (zbf 2 (m2 zga (m2 zb7 (m2 zbj (mIx (zaf 1) (fun _=>some (.int 0))) (fun _=>some (.int 13))) (fun _=>some (.int 2))) (fun _=>some (.int 3))))
  (zak (zcv 3 (zk1 znf (zab (m2 zbj (mIx (zaf 1) (fun _=>some (.int 1))) (fun _=>some (.int 5))) (zab (zaa 2) (fun _=>some [])))))
  (zak (zco (zbh (zan (mSl (zaa 0) (mPt (fun _=>some (.int 2))) (mPt (fun _=>some (.int 14)))))) (zar 4) (zd9 3 (zao zph (zab (zaa 4) (zab (zaa 2) (zab (m2 dEq (m2 zbj (mIx (zaf 1) (fun _=>some (.int 2))) (fun _=>some (.int 2))) (fun _=>some (.int 0))) (fun _=>some [])))))))
  (zak (zcv 5 (fun _=>some []))
  (zak (zco (zbh (zao m_1 (zab (zaa 2) (fun _=>some [])))) (zar 6) (zdq 3 (zbd (zdh (zd7 (zcu (zao zf6 (zab (zan (zbl 1 [6] (zaf 3) (zar 0) (fun _=>some true) (zao zkv (zab (zaa 0) (zab (zaa 1) (fun _=>some [])))))) (fun _=>some []))))) (mB (m2 dEq (zao m_3 (zab (zaa 3) (zab (zaa 6) (fun _=>some [])))) (zaa 6)))) (zd9 5 (zao m_5 (zab (zaa 6) (fun _=>some [])))) zbq)))
  (zak (zdq 5 (zbf 7 (m2 zbj (zao m_7 (zab (zaa 0) (zab (fun _=>some (.int 1)) (fun _=>some [])))) (m2 zb7 (zao zcz (zab (zaa 5) (fun _=>some []))) (fun _=>some (.int 1))))))
  (zak (zdq 5 (zcv 5 (zdd (zan (mSl (zaa 5) (mPt (zaa 7)) (fun _=>some none))) (zan (mSl (zaa 5) (fun _=>some none) (mPt (zaa 7)))))))
  (zak (zdq 5 (zdq 3 (zbf 8 (zao m_4 (zab (zaa 2) (zab (zaa 3) (zab (zaa 5) (fun _=>some []))))))))
  (zak (zdq 5 (zdq 3 (zbd (zd7 (zcu (zao zl1 (zab (zaa 2) (zab (zaa 3) (zab (zaa 5) (zab (zaa 8) (zab (fun _=>some (.bl true)) (fun _=>some []))))))))) (zay (fun _=>some (.bl false))) zbq)))
  (zak (zco (zbh (zan (zdd (zan (zab (zao m_7 (zab (zaa 0) (zab (fun _=>some (.int 0)) (fun _=>some [])))) (fun _=>some []))) (zan (mSl (zaa 0) (mPt (fun _=>some (.int 2))) (mPt (fun _=>some (.int 22)))))))) (zar 4) (zak (zdq 5 (zi5 (zcm (zbc (zar 9) (zbc (zar 10) zcr))) (zao m_9 (zab (zaa 2) (zab (zaa 5) (zab (zaa 8) (zab (zaa 4) (fun _=>some []))))))))
  (zdq 3 (zbd (zd7 (zcu (zao zl1 (zab (zaa 2) (zab (zaa 3) (zab (zaa 9) (zab (zaa 10) (zab (fun _=>some (.bl false)) (fun _=>some []))))))))) (zay (fun _=>some (.bl false))) zbq))))
  (zay (fun _=>some (.bl true))))))))))))))
noncomputable def m_0 (as : List D) : Option D:=za8 11 b_0 as
section
variable {P : Program} {w : World} {K : PySem.W.Frag} {mg : Str -> Option Value} {base : Heap}
theorem z73 {a : Wa} (W : Wd K mg a) : zax P w K mg base CX0 1 a.f_40 a.fd_40 ["_law_part_here","_law_sheet"] (spD ⟨K,cl a⟩ ["_law_part_here","_law_sheet"].length zlr) :=
 zbi (k:=0) (N:=["_law_part_here","_law_sheet"]) (F:=b_40) W.F_40 z40 fun cdv A outer s H E hr=>have hu:=hr.units; by
  unfold b_40
  exact (zal (zbr (zbg (zby hu) zbx (DE.db (zah (dvC 0) zad)) (DE.db zbk)) (zam (za1 (zcf zfn zfg (DE.db (zah (dvC 1) (zah (dvC 0) zad))) (DE.db zcb)))) zbs)
  (zal (zbr (zbg (zby hu) zbx (DE.db (zah (dvC 0) zad)) (DE.db zbk)) (zam (za1 (zcf zfn zfg (DE.db (zah (dvC 1) (zah (dvC 0) zad))) (DE.db zcb)))) zbs)
  (zal (zbr (zbg (zby hu) zbx (DE.db (zah (dvC 0) zad)) (DE.db zbk)) (zam (za1 (zcf zp3 zp8 (DE.db (zci (zh4 rfl) zh8 rfl W.z_sum boot_sum (zbv (DE.db (DO.de (zcw 2 [1] ["_law_thing","_law_worth_here","_law_sheet"] rfl (DI.de (zb9 (zah (dvC 0) zad))) (fun _ _ _ _ _=>(zc1 rfl (zbp (dgc 0 2) (zbp (dgc 1 2) zc3)))) (fun _ _ _ _ _=>(zgd (zbg zfn zfg (DE.db (zah (zdo 2) (dvc 0))) (DE.db zcb)))) (fun _ _ _ _ _=>(dvc 1))))) zcc))) (DE.db (zah (dvC 0) zad))))) zbs)
  (zam (za1 (zcf zl2 zmy (DE.db (zci (zh4 rfl) zh8 rfl W.z_sum boot_sum (zbv (DE.db (DO.de (zcw 2 [1] ["_law_thing","_law_worth_here","_law_sheet"] rfl (DI.de (zb9 (zah (dvC 0) zad))) (fun _ _ _ _ _=>(zc1 rfl (zbp (dgc 0 2) (zbp (dgc 1 2) zc3)))) (fun _ _ _ _ _=>(zgd (zbg zhx zh6 (DE.db (zah (zdo 2) (dvc 0))) (DE.db zcb)))) (fun _ _ _ _ _=>(dvc 1))))) zcc))) (DE.db (zah (dvC 0) zad))))))))
theorem zsq {a : Wa} (W : Wd K mg a) : zax P w K mg base CX0 2 a.f_19 a.fd_19 ["_law_rule_here","_law_sheet"] (spD ⟨K,cl a⟩ ["_law_rule_here","_law_sheet"].length zkv) :=
 zbi (k:=1) (N:=["_law_rule_here","_law_sheet"]) (F:=b_19) W.F_19 z2g fun cdv A outer s H E hr=>have hu:=hr.units; by
  unfold b_19
  exact (zal (zbr (DW.dt (zlk (zbg (zby hu) zbx (DE.db (zah (dvC 0) zad)) (DE.db zbk)) (zmr (DW.dt (zfo (zbg (zby hu) zbx (DE.db (zah (dvC 0) zad)) (DE.db zbk)) (zgs (zbg zhx zh6 (DE.db (zah (dvC 1) (zah (dvC 0) zad))) (DE.db zcb)))))))) (zam (za1 zcb)) zbs)
  (zam (za1 (zci (zmv rfl) zlq rfl W.z_all boot_all (zbv (DE.db (DO.de (zcw 1 [1] ["_law_part_here","_law_sheet"] rfl (DI.de (zb9 (zah (dvC 0) zad))) (fun _ _ _ _ _=>(dgc 0 1)) (fun _ _ _ _ _=>zdf) (fun _ _ _ _ _=>(za9 (z73 W) (hr.mono (by decide)) (glc rfl) W.g_40 W.F_40.kp W.b_40 (zac (dvc 0) (zac (dvc 1) zag))))))) zcc)))))
theorem zoa {a : Wa} (W : Wd K mg a) : zax P w K mg base CX0 1 a.f_7 a.fd_7 ["_law_script","_law_k"] (spD ⟨K,cl a⟩ ["_law_script","_law_k"].length m_7) :=
 zbi (k:=0) (N:=["_law_script","_law_k"]) (F:=b_7) W.F_7 z22 fun cdv A outer s H E hr=>by
  unfold b_7
  exact (zal (zbr (zbg zlp zlb (DE.db (dv 1)) (DE.db (zci zek zee rfl W.z_len PySem.boot_len (zbv (DE.db (dv 0)) zcc)))) (zam (za1 (zah (dvC 0) (dv 1)))) zbs)
  (zam (za1 zad)))
theorem zpy {a : Wa} (W : Wd K mg a) : zax P w K mg base CX0 1 a.f_5 a.fd_5 ["_law_row"] (spD ⟨K,cl a⟩ ["_law_row"].length m_5) :=
 zbi (k:=0) (N:=["_law_row"]) (F:=b_5) W.F_5 zza fun cdv A outer s H E hr=>by
  unfold b_5
  exact (zam (zl5 (zcw 2 [] ["_law_thing","_law_truth"] rfl (DI.de (zms rfl W.z_enumerate (zac (dv 0) zag))) (fun _ _ _ _ _=>(zc1 rfl (zbp (dgc 0 2) (zbp (dgc 1 2) zc3)))) (fun _ _ _ _ _=>(zgd (zdj (DE.db (dvc 1))))) (fun _ _ _ _ _=>(dvc 0)))))
theorem znt {a : Wa} (W : Wd K mg a) : zax P w K mg base CX0 1 a.f_2 a.fd_2 ["_law_cell","_law_many"] (spD ⟨K,cl a⟩ ["_law_cell","_law_many"].length m_2) :=
 zbi (k:=0) (N:=["_law_cell","_law_many","_law_found","_law_number","_law_k"]) (F:=b_2) W.F_2 zkm fun cdv A outer s H E hr=>by
  unfold b_2
  exact (zal (zep 2 zkm.nd (zbz zag))
  (zal (zb3 3 zkm.nd (zat zc4 (zat zer (zat zb6 (dv 0) zad) zad) zad))
  (zal (zc5 PassesOwn.never rfl (zfx rfl W.z_range (zac (dv 1) zag)) (zca 4 5 zkm.nd) (zal (zb3 3 zkm.nd (zat zb6 (zat zc4 (zat zc4 (zat zer (dv 3) (zat zc4 (dv 3) zad)) (zat zer zad (dv 4))) zad) zad))
  (zam (zf2 (zfl (ze5 PySem.F.plainAttrs_list PySem.F.slot_list_append PySem.F.type_list_append zf0 (pv 2) (zdr (dv 3) zdy)))))))
  (zam (zgn 2)))))
theorem znq {a : Wa} (W : Wd K mg a) : zax P w K mg base CX0 1 a.f_1 a.fd_1 ["_law_many"] (spD ⟨K,cl a⟩ ["_law_many"].length m_1) :=
 zbi (k:=0) (N:=["_law_many","_law_rows_here","_law_k","_law_longer","_law_row"]) (F:=b_1) W.F_1 ziv fun cdv A outer s H E hr=>by
  unfold b_1
  exact (zal (zb3 1 ziv.nd (DO.de (zbz (zac (DO.de (zbz zag)) zag))))
  (zal (zc5 PassesOwn.never rfl (zfx rfl W.z_range (zac (dv 0) zag)) (zca 2 5 ziv.nd) (zal (zep 3 ziv.nd (zbz zag))
  (zal (zc5 PassesOwn.never rfl (zb9 (dv 1)) (zca 4 5 ziv.nd) (zam (z3p (zfl (ze5 PySem.F.plainAttrs_list PySem.F.slot_list_extend PySem.F.type_list_extend zwd (pv 3) (zdr (DO.de (zbz (zac (DO.de (zfj (dv 4) (DO.de (zbz (zac zcb zag))))) (zac (DO.de (zfj (dv 4) (DO.de (zbz (zac zcb zag))))) zag)))) zdy))))))
  (zam (zey 3 (zb3 1 ziv.nd (dv 3)))))))
  (zam (zgn 1))))
theorem z79 {a : Wa} (W : Wd K mg a) : zax P w K mg base CX0 1 a.f_41 a.fd_41 ["_law_part_here","_law_rising_here","_law_held"] (spD ⟨K,cl a⟩ ["_law_part_here","_law_rising_here","_law_held"].length zl3) :=
 zbi (k:=0) (N:=["_law_part_here","_law_rising_here","_law_held"]) (F:=b_41) W.F_41 zxg fun cdv A outer s H E hr=>have hu:=hr.units; by
  unfold b_41
  exact (zal (zbr (zbg (zby hu) zbx (DE.db (zah (dvC 0) zad)) (DE.db zbk)) (zam (za1 (zah (dvC 1) (zah (dvC 0) zad)))) zbs)
  (zal (zbr (zbg (zby hu) zbx (DE.db (zah (dvC 0) zad)) (DE.db zbk)) (zam (za1 (zn7 (zah (dvC 2) (zah (dvC 0) zad))))) zbs)
  (zal (zbr (zbg (zby hu) zbx (DE.db (zah (dvC 0) zad)) (DE.db zbk)) (zam (za1 (zcf zp3 zp8 (DE.db (zci (zh4 rfl) zh8 rfl W.z_sum boot_sum (zbv (DE.db (DO.de (zcw 2 [1] ["_law_thing","_law_worth_here","_law_rising_here"] rfl (DI.de (zb9 (zah (dvC 0) zad))) (fun _ _ _ _ _=>(zc1 rfl (zbp (dgc 0 2) (zbp (dgc 1 2) zc3)))) (fun _ _ _ _ _=>(zgd (zdj (DE.db (zah (zdo 2) (dvc 0)))))) (fun _ _ _ _ _=>(dvc 1))))) zcc))) (DE.db (zah (dvC 0) zad))))) zbs)
  (zam (za1 (zcf zl2 zmy (DE.db (zci (zh4 rfl) zh8 rfl W.z_sum boot_sum (zbv (DE.db (DO.de (zcw 2 [2] ["_law_thing","_law_worth_here","_law_held"] rfl (DI.de (zb9 (zah (dvC 0) zad))) (fun _ _ _ _ _=>(zc1 rfl (zbp (dgc 0 2) (zbp (dgc 1 2) zc3)))) (fun _ _ _ _ _=>(zgd (zdj (DE.db (zah (zdo 2) (dvc 0)))))) (fun _ _ _ _ _=>(dvc 1))))) zcc))) (DE.db (zah (dvC 0) zad))))))))
theorem zuw {a : Wa} (W : Wd K mg a) : zax P w K mg base CX0 2 a.f_3 a.fd_3 ["_law_rules","_law_held"] (spD ⟨K,cl a⟩ ["_law_rules","_law_held"].length m_3) :=
 zbi (k:=1) (N:=["_law_rules","_law_held","_law_rising_here","_law_turn","_law_word","_law_head","_law_parts"]) (F:=b_3) W.F_3 ziq fun cdv A outer s H E hr=>have hu:=hr.units; by
  unfold b_3
  exact (zal (zep 2 ziq.nd (zcw 1 [] ["_law_truth"] rfl (DI.de (zb9 (dv 1))) (fun _ _ _ _ _=>(dgc 0 1)) (fun _ _ _ _ _=>zdf) (fun _ _ _ _ _=>zcb)))
  (zal (zc5 PassesOwn.never rfl (zfx rfl W.z_range (zac (zci zek zee rfl W.z_len PySem.boot_len (zbv (DE.db (dv 1)) zcc)) zag)) (zca 3 7 ziq.nd) (zam (zc5 PassesOwn.never rfl (zb9 (dv 0)) (zc1 rfl (zbp (zca 4 7 ziq.nd) (zbp (zca 5 7 ziq.nd) (zbp (zca 6 7 ziq.nd) zc3)))) (zam (zbr (DW.dt (zfo (zbg (zhz hu) zhn (DE.db (dv 4)) (DE.db zbk)) (zfo (zdj (DE.db (zah (dvC 1) (dv 5)))) (zgs (zfr (zdj (DE.db (zah (dvC 2) (dv 5))))))))) (zam (zm1 (pv 2) (dv 5) (zci (zmv rfl) zlq rfl W.z_all boot_all (zbv (DE.db (DO.de (zcw 1 [2,1] ["_law_part_here","_law_rising_here","_law_held"] rfl (DI.de (zb9 (dv 6))) (fun _ _ _ _ _=>(dgc 0 1)) (fun _ _ _ _ _=>zdf) (fun _ _ _ _ _=>(z2z (z79 W) (hr.mono (by decide)) (glc rfl) W.g_41 W.F_41.kp W.b_41 (zbv (DE.db (dvc 0)) (zbv (z5o 1) (zbv (DE.db (dvc 2)) zcc)))))))) zcc)))) zbs)))))
  (zam (zgn 2))))
theorem z5x {a : Wa} (W : Wd K mg a) : zax P w K mg base CX0 3 a.f_30 a.fd_30 ["_law_rules","_law_sets","_law_held"] (spD ⟨K,cl a⟩ ["_law_rules","_law_sets","_law_held"].length zpa) :=
 zbi (k:=2) (N:=["_law_rules","_law_sets","_law_held","_law_k","_law_rule_here","_law_rising_here"]) (F:=b_30) W.F_30 zlo fun cdv A outer s H E hr=>have hu:=hr.units; by
  unfold b_30
  exact (zal (zc5 PassesOwn.never rfl (zms rfl W.z_enumerate (zac (dv 0) zag)) (zc1 rfl (zbp (zca 3 6 zlo.nd) (zbp (zca 4 6 zlo.nd) zc3))) (zam (zbr (zdj (DE.db (za9 (zsq W) (hr.mono (by decide)) rfl W.g_19 W.F_19.kp W.b_19 (zac (dv 4) (zac (dv 2) zag))))) (zam (za1 (zbw (zac zbk (zac (dv 3) zag))))) zbs)))
  (zal (zb3 5 zlo.nd (za9 (zuw W) (hr.mono (by decide)) rfl W.g_3 W.F_3.kp W.b_3 (zac (dv 0) (zac (dv 2) zag))))
  (zal (zbr (zbg (zhz hu) zhn (DE.db (dv 5)) (DE.db (dv 2))) (zam (za1 (zbw (zac zbk (zac (DO.de (zcw 2 [5] ["_law_thing","_law_truth","_law_rising_here"] rfl (DI.de (zms rfl W.z_enumerate (zac (dv 2) zag))) (fun _ _ _ _ _=>(zc1 rfl (zbp (dgc 0 2) (zbp (dgc 1 2) zc3)))) (fun _ _ _ _ _=>(zgd (DW.dt (zfo (zdj (DE.db (dvc 1))) (zgs (zfr (zdj (DE.db (zah (zdo 2) (dvc 0)))))))))) (fun _ _ _ _ _=>(dvc 0)))) zag))))) zbs)
  (zam (za1 (zbw (zac zbk (zac (z5z (ze5 PySem.F.plainAttrs_list PySem.F.slot_list_index PySem.F.type_list_index (zyh hu) (dv 1) (zdr (za9 (zpy W) (hr.mono (by decide)) rfl W.g_5 W.F_5.kp W.b_5 (zac (dv 2) zag)) zdy))) zag))))))))
theorem z65 {a : Wa} (W : Wd K mg a) : zax P w K mg base CX0 4 a.f_4 a.fd_4 ["_law_many","_law_rules","_law_sets"] (spD ⟨K,cl a⟩ ["_law_many","_law_rules","_law_sets"].length m_4) :=
 zbi (k:=3) (N:=["_law_many","_law_rules","_law_sets","_law_lines","_law_row","_law_first","_law_turn","_law_size","_law_rows_here","_law_start","_law_k","_law_steps"]) (F:=b_4) W.F_4 ze6 fun cdv A outer s H E hr=>by
  unfold b_4
  exact (zal (zep 3 ze6.nd (zbz zag))
  (zal (zc5 PassesOwn.never rfl (zb9 (za9 (znq W) (hr.mono (by decide)) rfl W.g_1 W.F_1.kp W.b_1 (zac (dv 0) zag))) (zca 4 12 ze6.nd) (zam (zf2 (zfl (ze5 PySem.F.plainAttrs_list PySem.F.slot_list_append PySem.F.type_list_append zf0 (pv 3) (zdr (zbw (zac (DO.de (zsu rfl rfl W.z_list rfl W.z_enumerate (dv 4))) (zac (DO.de (zbz (zac (zbw (zac ze9 (zac (za9 (z5x W) (hr.mono (by decide)) rfl W.g_30 W.F_30.kp W.b_30 (zac (dv 1) (zac (dv 2) (zac (dv 4) zag)))) zag))) zag))) zag))) zdy))))))
  (zal (zb3 5 ze6.nd zad)
  (zal (zc5 PassesOwn.never rfl (zfx rfl W.z_range (zac (dv 0) zag)) (zca 6 12 ze6.nd) (zal (zb3 7 ze6.nd (zat zkg (zat zkg (dv 0) zad) (dv 6)))
  (zal (zb3 8 ze6.nd (za9 (znq W) (hr.mono (by decide)) rfl W.g_1 W.F_1.kp W.b_1 (zac (dv 7) zag)))
  (zal (zb3 9 ze6.nd (zci zek zee rfl W.z_len PySem.boot_len (zbv (dvB 3) zcc)))
  (zal (zc5 PassesOwn.never rfl (zms rfl W.z_enumerate (zac (dv 8) zag)) (zc1 rfl (zbp (zca 10 12 ze6.nd) (zbp (zca 4 12 ze6.nd) zc3))) (zal (zb3 11 ze6.nd (DO.de (zbz (zac (zbw (zac (zbw (zac (dv 7) (zac zcb zag))) (zac (zbw (zac zbk (zac (zat zc4 (dv 5) (zat zer zad (dv 10))) zag))) zag))) (zac (zbw (zac ze9 (zac (zbw (zac zbk (zac (zat zc4 (zat zc4 (dv 5) (zat zer zad (dv 10))) zad) zag))) zag))) zag)))))
  (zam (zf2 (zfl (ze5 PySem.F.plainAttrs_list PySem.F.slot_list_append PySem.F.type_list_append zf0 (pv 3) (zdr (zbw (zac (DO.de (zsu rfl rfl W.z_list rfl W.z_enumerate (dv 4))) (zac (dv 11) zag))) zdy)))))))
  (zam (zb3 5 ze6.nd (dv 9))))))))
  (zam (zgn 3))))))
theorem zyx {a : Wa} (W : Wd K mg a) : zax P w K mg base CX0 1 a.f_18 a.fd_18 ["_law_kind","_law_many"] (spO ⟨K,cl a⟩ ["_law_kind","_law_many"].length znf) :=
 zzs (k:=0) (N:=["_law_kind","_law_many","_law_rules","_law_k","_law_on","_law_part_here"]) (F:=b_18) W.F_18 zko fun cdv A outer s H E hr=>by
  unfold b_18
  exact (zal (zep 2 zko.nd (zbz zag))
  (zal (zc5 PassesOwn.never rfl (zfx rfl W.z_range (zac (dv 1) zag)) (zca 3 6 zko.nd) (zal (zb3 4 zko.nd (zat zb6 (zat zc4 (dv 3) zad) (dv 1)))
  (zal (zb3 5 zko.nd (zah (DO.dc (zbz (zac ze9 (zac (zbw (zac zbk (zac (dv 3) zag))) (zac (zbw (zac zbk (zac (dv 3) zag))) (zac (zbw (zac zbk (zac zad (zac (DO.de (zbz (zac (zbw (zac (dv 3) (zac zad zag))) (zac (zbw (zac (dv 4) (zac zad zag))) zag)))) zag)))) (zac (zbw (zac zbk (zac zad (zac (DO.de (zbz (zac (zbw (zac (dv 3) (zac zad zag))) zag))) zag)))) zag))))))) (dv 0)))
  (zam (zbr (zbg zhx zh6 (DE.db (dv 5)) (DE.db ze9)) (zam (zf2 (zfl (ze5 PySem.F.plainAttrs_list PySem.F.slot_list_append PySem.F.type_list_append zf0 (pv 2) (zdr (zbw (zac (zah (DO.dc (zbz (zac zbk (zac zbk zag)))) (zat zhw (zat zb6 (zat zer (dv 3) (dv 0)) zad) zad)) (zac (dv 4) (zac (DO.de (zbz (zac (dv 5) zag))) zag)))) zdy))))) zbs)))))
  (zam (zgn 2))))
theorem zwl {a : Wa} (W : Wd K mg a) : zax P w K mg base CX0 1 a.f_33 a.fd_33 ["_law_x"] (spD ⟨K,cl a⟩ ["_law_x"].length zkn) :=
 zbi (k:=0) (N:=["_law_x"]) (F:=b_33) W.F_33 z2c fun cdv A outer s H E hr=>have hu:=hr.units; by
  unfold b_33
  exact (zal (zbr (zbg (zby hu) zbx (DE.db (zat zb6 (dv 0) zad)) (DE.db zad)) (zam (za1 (zat zb6 (zat zer (zat zer (zat zer (dv 0) (dv 0)) (dv 0)) (dv 0)) (zat ztz zad zad)))) zbs)
  (zam (za1 (zah (DO.dc (zbz (zac zad (zac zad (zac zad (zac zad (zac zad (zac zad (zac zad (zac zad zag)))))))))) (zat zb6 (zat zhw (dv 0) zad) zad)))))
theorem z6t {a : Wa} (W : Wd K mg a) : zax P w K mg base CX0 2 a.f_28 a.fd_28 ["_law_xs","_law_many"] (spD ⟨K,cl a⟩ ["_law_xs","_law_many"].length zla) :=
 zbi (k:=1) (N:=["_law_xs","_law_many","_law_word","_law_items","_law_near"]) (F:=b_28) W.F_28 zm5 fun cdv A outer s H E hr=>have hu:=hr.units; by
  unfold b_28
  exact (zal (zb3 2 zm5.nd (zah (DO.dc (zbz (zac zbk (zac zbk (zac zbk (zac zbk (zac zbk zag))))))) (zat zb6 (zah (dvC 0) zad) zad)))
  (zal (zbr (DW.dt (zlk (zbg (zby hu) zbx (DE.db (dv 2)) (DE.db zbk)) (zmr (zbg (zby hu) zbx (DE.db (dv 2)) (DE.db zbk))))) (zam (za1 (zbw (zac (dv 2) (zac (zat zb6 (zah (dvC 0) zad) (dv 1)) zag))))) zbs)
  (zal (zkb 3 1 [1,0] ["_law_k","_law_many","_law_xs"] zm5.nd rfl (DI.de (zfx rfl W.z_range (zac (zat zb6 (zah (dvC 0) zad) zad) zag))) (fun _ _ _ _ _=>(dgc 0 1)) (fun _ _ _ _ _=>zdf) (fun _ _ _ _ _=>(zbw (zac (zat zb6 (zah (zdo 2) (zat zc4 zad (zat zer zad (dvc 0)))) (dvc 1)) (zac (za9 (zwl W) (hr.mono (by decide)) (glc rfl) W.g_33 W.F_33.kp W.b_33 (zac (zah (zdo 2) (zat zc4 zad (zat zer zad (dvc 0)))) zag)) zag)))))
  (zal (zb3 4 zm5.nd (zci (zh4 rfl) zh8 rfl W.z_sum boot_sum (zbv (DE.db (DO.de (zcw 2 [] ["_law_thing","_law_worth_here"] rfl (DI.de (zb9 (DO.de (by refine zdl ?a ?b ?c; (case a=>exact (dv 3)); (case b=>exact zef); (case c=>exact (zc7 (zat zb6 (zah (dvC 0) zad) zad))))))) (fun _ _ _ _ _=>(zc1 rfl (zbp (dgc 0 2) (zbp (dgc 1 2) zc3)))) (fun _ _ _ _ _=>zdf) (fun _ _ _ _ _=>(dvc 1))))) zcc)))
  (zam (za1 (zbw (zac (dv 2) (zac (zat zkg (zat zc4 (dv 4) (zat zb6 (zat zhw (zah (dvC 0) zad) zad) zad)) zad) (zac (dv 3) zag))))))))))
theorem z4s {a : Wa} (W : Wd K mg a) : zax P w K mg base CX0 3 a.f_34 a.fd_34 ["_law_cell","_law_many","_law_calm"] (spD ⟨K,cl a⟩ ["_law_cell","_law_many","_law_calm"].length zph) :=
 zbi (k:=2) (N:=["_law_cell","_law_many","_law_calm","_law_xs","_law_parts"]) (F:=b_34) W.F_34 zpr fun cdv A outer s H E hr=>have hu:=hr.units; by
  unfold b_34
  refine (zal (zb3 3 zpr.nd (za9 (znt W) (hr.mono (by decide)) rfl W.g_2 W.F_2.kp W.b_2 (zac (dv 0) (zac zad zag))))
  (zal (zbr (zbg (zby hu) zbx (DE.db (dv 1)) (DE.db zad)) ?hole0 zbs)
  (zal (zkb 4 1 [1,3] ["_law_k","_law_many","_law_xs"] zpr.nd rfl (DI.de (zfx rfl W.z_range (zac (zah (DO.dc (zbz (zac zad (zac zad (zac zad (zac zad (zac zad (zac zad zag)))))))) (zat zb6 (zah (dvC 3) zad) zad)) zag))) (fun _ _ _ _ _=>(dgc 0 1)) (fun _ _ _ _ _=>zdf) (fun _ _ _ _ _=>(za9 (z6t W) (hr.mono (by decide)) (glc rfl) W.g_28 W.F_28.kp W.b_28 (zac (DO.de (by refine zdl ?a ?b ?c; (case a=>exact (dvc 2)); (case b=>exact (zc7 (zat zc4 zad (zat zer zad (dvc 0))))); (case c=>exact (zc7 (zat zc4 zad (zat zer zad (dvc 0))))))) (zac (dvc 1) zag)))))
  (zal (zbr (DW.dt (zfo (zbg (zby hu) zbx (DE.db (zat zb6 (zah (dvC 3) zad) zad)) (DE.db zad)) (zfo (zfr (zdj (DE.db (dv 2)))) (zgs (DW.dt (zlk (zbg (zhz hu) zhn (DE.db (dv 4)) (DE.db (DO.de (zbz zag)))) (zmr (zbg (zby hu) zbx (DE.db (zat zb6 (zah (dvC 3) zad) zad)) (DE.db zad))))))))) (zam (za1 (zbw (zac zbk (zac ze9 (zac (dv 4) zag)))))) zbs)
  (zam (za1 (zbw (zac (zah (DO.dc (zbz (zac zbk (zac zbk zag)))) (zat zb6 (zat zhw (zah (dvC 3) zad) zad) zad)) (zac (zat zb6 (zat zhw (zah (dvC 3) zad) zad) (dv 1)) (zac (dv 4) zag))))))))))
  (case hole0=>refine zam ?_; refine za1 ?_; refine zbw ?_; refine zac ?_ ?_; (focus exact zbk); refine zac ?_ ?_; (focus exact ze9); refine zac ?_ ?_; (focus (refine DO.de ?_; exact (by refine zdl ?a ?b ?c; (case a=>exact (DO.de (zbz (zac (zbw (zac (zah (DO.dc (zbz (zac zbk (zac zbk zag)))) (zat zb6 (zah (dvC 3) zad) zad)) (zac (zat zkg (zat zb6 (zah (dvC 3) zad) zad) zad) (zac (DO.de (zbz zag)) zag)))) zag)))); (case b=>exact zef); (case c=>exact (zc7 (zat zb6 (zah (dvC 3) zad) zad)))))); exact zag)
theorem z35 {a : Wa} (W : Wd K mg a) : zax P w K mg base CX0 2 a.f_9 a.fd_9 ["_law_many","_law_sets","_law_lines","_law_cell"] (spD ⟨K,cl a⟩ ["_law_many","_law_sets","_law_lines","_law_cell"].length m_9) :=
 zbi (k:=1) (N:=["_law_many","_law_sets","_law_lines","_law_cell","_law_xs","_law_at","_law_held","_law_bar","_law_steps","_law_last"]) (F:=b_9) W.F_9 zgh fun cdv A outer s H E hr=>have hu:=hr.units; by
  unfold b_9
  refine (zal (zb3 4 zgh.nd (za9 (znt W) (hr.mono (by decide)) rfl W.g_2 W.F_2.kp W.b_2 (zac (dv 3) (zac zad zag))))
  (zal (zb3 5 zgh.nd (zat zb6 (zah (dvC 4) zad) (zci zek zee rfl W.z_len PySem.boot_len (zbv (DE.db (dv 2)) zcc))))
  (zal (zbr (zbg (zby hu) zbx (DE.db (zat zb6 (zah (dvC 4) zad) zad)) (DE.db zad)) ?hole0 zbs)
  (zal (zbr (zbg (zby hu) zbx (DE.db (zat zb6 (zah (dvC 4) zad) zad)) (DE.db zad)) ?hole1 zbs)
  (zal (zbr (DW.dt (zfo (zbg (zby hu) zbx (DE.db (zat zb6 (zah (dvC 4) zad) zad)) (DE.db zad)) (zfo (zbg (zhz hu) zhn (DE.db (dv 1)) (DE.db (DO.de (zbz zag)))) (zgs (zbg zkx zk0 (DE.db (dv 0)) (DE.db zad)))))) (zal (zb3 5 zgh.nd (zat zb6 (zah (dvC 4) zad) (zci zek zee rfl W.z_len PySem.boot_len (zbv (DE.db (dv 1)) zcc))))
  (zal (zkb 6 1 [1,5,0,4] ["_law_thing","_law_sets","_law_at","_law_many","_law_xs"] zgh.nd rfl (DI.de (zfx rfl W.z_range (zac (dv 0) zag))) (fun _ _ _ _ _=>(dgc 0 1)) (fun _ _ _ _ _=>zdf) (fun _ _ _ _ _=>(zcf (zhz hu) zhn (DE.db (zcf z8t z4v (DE.db (dvc 0)) (DE.db (zah (zdo 1) (dvc 2))))) (DE.db (zcf (zby hu) zbx (DE.db (dvc 0)) (DE.db (zat zb6 (zah (zdo 4) zad) (dvc 3))))))))
  ?hole2)) zbs)
  (zal (zbr (DW.dt (zfo (zbg (zby hu) zbx (DE.db (zat zb6 (zah (dvC 4) zad) zad)) (DE.db zad)) (zgs (zbg zkx zk0 (DE.db (dv 0)) (DE.db zad))))) (zal (zb3 5 zgh.nd (zat zb6 (zah (dvC 4) zad) (zy4 (zw1 rfl) rfl W.z_max boot_max (zac zad (zac (zat zkg (zat zhw (zat zc4 (zci zek zee rfl W.z_len PySem.boot_len (zbv (DE.db (dv 2)) zcc)) zad) zad) zad) zag)))))
  ?hole3) zbs)
  (zal (zqq (zah (dvC 2) (dv 5)) (zc1 rfl (zbp (zca 7 10 zgh.nd) (zbp (zca 8 10 zgh.nd) zc3))))
  (zal (zb3 9 zgh.nd (zbw (zac ze9 (zac (zbw (zac (zah (DO.dc (zbz (zac zbk (zac zbk (zac zbk zag))))) (zat zb6 (zah (dvC 4) zad) zad)) (zac (zat zc4 zad (zat zb6 (zah (dvC 4) zad) (zat ztz zad zad))) zag))) zag))))
  ?hole4))))))))
  (case hole0=>refine zam ?_; refine za1 ?_; refine zbw ?_; refine zac ?_ ?_; (focus exact (dv 1)); refine zac ?_ ?_; (focus (refine DO.de ?_; exact (by refine zdl ?a ?b ?c; (case a=>exact (dv 2)); (case b=>exact zef); (case c=>exact (zc7 (zos zad)))))); exact zag)
  (case hole1=>refine zam ?_; refine za1 ?_; refine zbw ?_; refine zac ?_ ?_; (focus exact (dv 1)); refine zac ?_ ?_; (focus (refine DO.de ?_; exact (zfj (DO.de (by refine zdl ?a ?b ?c; (case a=>exact (dv 2)); (case b=>exact zef); (case c=>exact (zc7 (dv 5))))) (DO.de (by refine zdl ?a ?b ?c; (case a=>exact (dv 2)); (case b=>exact (zc7 (zat zc4 (dv 5) zad))); (case c=>exact zef)))))); exact zag)
  (case hole2=>refine zam ?_; refine za1 ?_; refine zbw ?_; refine zac ?_ ?_; (focus (refine DO.de ?_; exact (zfj (DO.de (zfj (DO.de (by refine zdl ?a ?b ?c; (case a=>exact (dv 1)); (case b=>exact zef); (case c=>exact (zc7 (dv 5))))) (DO.de (zbz (zac (za9 (zpy W) (hr.mono (by decide)) rfl W.g_5 W.F_5.kp W.b_5 (zac (dv 6) zag)) zag))))) (DO.de (by refine zdl ?a ?b ?c; (case a=>exact (dv 1)); (case b=>exact (zc7 (zat zc4 (dv 5) zad))); (case c=>exact zef)))))); refine zac ?_ ?_; (focus exact (dv 2)); exact zag)
  (case hole3=>refine zam ?_; refine za1 ?_; refine zbw ?_; refine zac ?_ ?_; (focus exact (dv 1)); refine zac ?_ ?_; (focus (refine DO.de ?_; exact (zfj (DO.de (by refine zdl ?a ?b ?c; (case a=>exact (dv 2)); (case b=>exact zef); (case c=>exact (zc7 (zat zc4 (dv 5) zad))))) (DO.de (by refine zdl ?a ?b ?c; (case a=>exact (dv 2)); (case b=>exact (zc7 (dv 5))); (case c=>exact zef)))))); exact zag)
  (case hole4=>refine zam ?_; refine za1 ?_; refine zbw ?_; refine zac ?_ ?_; (focus exact (dv 1)); refine zac ?_ ?_; (focus (refine DO.de ?_; exact (zfj (DO.de (zfj (DO.de (by refine zdl ?a ?b ?c; (case a=>exact (dv 2)); (case b=>exact zef); (case c=>exact (zc7 (dv 5))))) (DO.de (zbz (zac (zbw (zac (dv 7) (zac (DO.de (zfj (DO.de (by refine zdl ?a ?b ?c; (case a=>exact (dv 8)); (case b=>exact zef); (case c=>exact (zc7 (zos zad))))) (DO.de (zbz (zac (dv 9) zag))))) zag))) zag))))) (DO.de (by refine zdl ?a ?b ?c; (case a=>exact (dv 2)); (case b=>exact (zc7 (zat zc4 (dv 5) zad))); (case c=>exact zef)))))); exact zag)
theorem z4x {a : Wa} (W : Wd K mg a) : zax P w K mg base CX0 1 a.f_29 a.fd_29 ["_law_steps"] (spD ⟨K,cl a⟩ ["_law_steps"].length znd) :=
 zbi (k:=0) (N:=["_law_steps","_law_found","_law_pair","_law_why_here"]) (F:=b_29) W.F_29 zk9 fun cdv A outer s H E hr=>have hu:=hr.units; by
  unfold b_29
  exact (zal (zep 1 zk9.nd (zbz zag))
  (zal (zc5 PassesOwn.never rfl (zb9 (dv 0)) (zc1 rfl (zbp (zca 2 4 zk9.nd) (zbp (zca 3 4 zk9.nd) zc3))) (zal (zbr (zbg (zby hu) zbx (DE.db (zah (dvC 3) zad)) (DE.db zbk)) (zam (zb3 3 zk9.nd (zbw (zac (zah (dvC 3) zad) (zac (DO.de (zg4 boot_list rfl W.z_list (DE.dc (zah (dvC 3) zad)))) zag))))) zbs)
  (zam (zf2 (zfl (ze5 PySem.F.plainAttrs_list PySem.F.slot_list_append PySem.F.type_list_append zf0 (pv 1) (zdr (zbw (zac (dv 2) (zac (dv 3) zag))) zdy)))))))
  (zam (zgn 1))))
theorem zy9 {a : Wa} (W : Wd K mg a) : zax P w K mg base CX0 1 a.f_11 a.fd_11 ["_law_rules"] (spD ⟨K,cl a⟩ ["_law_rules"].length zn8) :=
 zbi (k:=0) (N:=["_law_rules","_law_found","_law_word","_law_head","_law_parts","_law_mine","_law_part_here"]) (F:=b_11) W.F_11 zgo fun cdv A outer s H E hr=>have hu:=hr.units; by
  unfold b_11
  exact (zal (zep 1 zgo.nd (zbz zag))
  (zal (zc5 PassesOwn.never rfl (zb9 (dv 0)) (zc1 rfl (zbp (zca 2 7 zgo.nd) (zbp (zca 3 7 zgo.nd) (zbp (zca 4 7 zgo.nd) zc3)))) (zal (zep 5 zgo.nd (zbz zag))
  (zal (zc5 PassesOwn.never rfl (zb9 (dv 4)) (zca 6 7 zgo.nd) (zal (zbr (zbg (zby hu) zbx (DE.db (zci zek zee rfl W.z_len PySem.boot_len (zbv (DE.db (dv 6)) zcc))) (DE.db zad)) (zam (zb3 6 zgo.nd (zbw (zac (zah (dvC 6) zad) (zac (zah (dvC 6) zad) (zac (DO.de (zg4 boot_list rfl W.z_list (DE.dc (zah (dvC 6) zad)))) zag)))))) zbs)
  (zam (zf2 (zfl (ze5 PySem.F.plainAttrs_list PySem.F.slot_list_append PySem.F.type_list_append zf0 (pv 5) (zdr (dv 6) zdy)))))))
  (zam (zey 5 (zf2 (zfl (ze5 PySem.F.plainAttrs_list PySem.F.slot_list_append PySem.F.type_list_append zf0 (pv 1) (zdr (zbw (zac (dv 2) (zac (dv 3) (zac (dv 5) zag)))) zdy)))))))))
  (zam (zgn 1))))
theorem zwc {a : Wa} (W : Wd K mg a) : zax P w K mg base CX0 1 a.f_26 a.fd_26 ["many","bar"] (spD ⟨K,cl a⟩ ["many","bar"].length zna) :=
 zbi (k:=0) (N:=["many","bar","thing","sheet","truth"]) (F:=b_26) W.F_26 zmg fun cdv A outer s H E hr=>by
  unfold b_26
  exact (zal (zwk 3 1 [] ["thing"] zmg.nd rfl (DI.de (zfx rfl W.z_range (zac (dv 0) zag))) (fun _ _ _ _ _=>(dgc 0 1)) (fun _ _ _ _ _=>zdf) (fun _ _ _ _ _=>ze9))
  (zal (zc5 PassesOwn.never rfl (zb9 (dv 1)) (zc1 rfl (zbp (zca 2 5 zmg.nd) (zbp (zca 4 5 zmg.nd) zc3))) (zam (zm1 (pv 3) (dv 2) (dv 4))))
  (zam (zgn 3))))
theorem zvj {a : Wa} (W : Wd K mg a) : zax P w K mg base CX0 1 a.f_35 a.fd_35 ["sheet","thing","truth"] (spD ⟨K,cl a⟩ ["sheet","thing","truth"].length zoc) :=
 zbi (k:=0) (N:=["sheet","thing","truth","other"]) (F:=b_35) W.F_35 zq0 fun cdv A outer s H E hr=>by
  unfold b_35
  exact (zal (zep 3 zq0.nd (zg4 boot_list rfl W.z_list (dvC 0)))
  (zal (zm1 (pv 3) (dv 1) (dv 2))
  (zam (zgn 3))))
theorem zvp {a : Wa} (W : Wd K mg a) : zax P w K mg base CX0 1 a.f_46 a.fd_46 ["sheet","bar"] (spD ⟨K,cl a⟩ ["sheet","bar"].length zpi) :=
 zbi (k:=0) (N:=["sheet","bar"]) (F:=b_46) W.F_46 zyn fun cdv A outer s H E hr=>have hu:=hr.units; by
  unfold b_46
  exact (zam (za1 (zci (zmv rfl) zlq rfl W.z_all boot_all (zbv (DE.db (DO.de (zcw 2 [0] ["thing","truth","sheet"] rfl (DI.de (zb9 (dv 1))) (fun _ _ _ _ _=>(zc1 rfl (zbp (dgc 0 2) (zbp (dgc 1 2) zc3)))) (fun _ _ _ _ _=>zdf) (fun _ _ _ _ _=>(zcf (zby hu) zbx (DE.db (zah (zdo 2) (dvc 0))) (DE.db (dvc 1))))))) zcc))))
theorem zo7 {a : Wa} (W : Wd K mg a) : zax P w K mg base CX0 1 a.f_6 a.fd_6 ["listed","number"] (spD ⟨K,cl a⟩ ["listed","number"].length m_6) :=
 zbi (k:=0) (N:=["listed","number"]) (F:=b_6) W.F_6 zz7 fun cdv A outer s H E hr=>by
  unfold b_6
  exact (zam (za1 (z1p zl2 zmy zlp zlb (DE.db zad) (DE.db (dv 1)) (DE.db (zci zek zee rfl W.z_len PySem.boot_len (zbv (DE.db (dv 0)) zcc))))))
theorem zr4 {a : Wa} (W : Wd K mg a) : zax P w K mg base CX0 1 a.f_8 a.fd_8 ["many","some"] (spD ⟨K,cl a⟩ ["many","some"].length m_8) :=
 zbi (k:=0) (N:=["many","some","listed","thing"]) (F:=b_8) W.F_8 zqg fun cdv A outer s H E hr=>have hu:=hr.units; by
  unfold b_8
  exact (zal (z6c 2 zqg.nd)
  (zal (zc5 PassesOwn.never rfl (zb9 (dv 1)) (zca 3 4 zqg.nd) (zam (z4o hu (pv 2) (dv 3) zcb)))
  (zam (zey 2 (zl5 (zcw 1 [2] ["thing","listed"] rfl (DI.de (zfx rfl W.z_range (zac (dv 0) zag))) (fun _ _ _ _ _=>(dgc 0 1)) (fun _ _ _ _ _=>zdf) (fun _ _ _ _ _=>(z0l hu (dvc 0) (dvc 1)))))))))
theorem zzd {a : Wa} (W : Wd K mg a) : zax P w K mg base CX0 1 a.f_47 a.fd_47 ["sheet","things"] (spD ⟨K,cl a⟩ ["sheet","things"].length zng) :=
 zbi (k:=0) (N:=["sheet","things"]) (F:=b_47) W.F_47 z3v fun cdv A outer s H E hr=>by
  unfold b_47
  exact (zam (za1 (zci (zmt rfl) zmz rfl W.z_any boot_any (zbv (DE.db (DO.de (zcw 1 [0] ["thing","sheet"] rfl (DI.de (zb9 (dv 1))) (fun _ _ _ _ _=>(dgc 0 1)) (fun _ _ _ _ _=>zdf) (fun _ _ _ _ _=>(zcf zfn zfg (DE.db (zah (zdo 1) (dvc 0))) (DE.db zcb)))))) zcc))))
theorem z5t {a : Wa} (W : Wd K mg a) : zax P w K mg base CX0 1 a.f_13 a.fd_13 ["self","sheet","without"] (spD ⟨K,cl a⟩ ["self","sheet","without"].length m_13) :=
 zbi (k:=0) (N:=["self","sheet","without"]) (F:=b_13) W.F_13 z4p fun cdv A outer s H E hr=>by
  unfold b_13
  exact (zam (za1 (z27 (zcf zfn zfg (DE.db (zah (dvC 1) (ze0 "In" (ziz W) (zl7 W) (dv 0)))) (DE.db zcb)) (zhu (zah (dvC 2) (ze0 "In" (ziz W) (zl7 W) (dv 0)))))))
theorem zzn {a : Wa} (W : Wd K mg a) : zax P w K mg base CX0 1 a.f_42 a.fd_42 ["items","without"] (spD ⟨K,cl a⟩ ["items","without"].length znb) :=
 zbi (k:=0) (N:=["items","without"]) (F:=b_42) W.F_42 z19 fun cdv A outer s H E hr=>by
  unfold b_42
  exact (zam (zl5 (zcw 1 [1] ["item","without"] rfl (DI.de (zb9 (dv 0))) (fun _ _ _ _ _=>(dgc 0 1)) (fun _ _ _ _ _=>(zgd (zfr (zdj (DE.db (zah (zdo 1) (zah (zdo 0) zad))))))) (fun _ _ _ _ _=>(dvc 0)))))
theorem zsh {a : Wa} (W : Wd K mg a) : zax P w K mg base CX0 1 a.f_17 a.fd_17 ["items","sheet"] (spD ⟨K,cl a⟩ ["items","sheet"].length zkd) :=
 zbi (k:=0) (N:=["items","sheet"]) (F:=b_17) W.F_17 z64 fun cdv A outer s H E hr=>by
  unfold b_17
  exact (zam (za1 (zci (zh4 rfl) zh8 rfl W.z_sum boot_sum (zbv (DE.db (DO.de (zcw 2 [1] ["thing","worth","sheet"] rfl (DI.de (zb9 (dv 0))) (fun _ _ _ _ _=>(zc1 rfl (zbp (dgc 0 2) (zbp (dgc 1 2) zc3)))) (fun _ _ _ _ _=>(zgd (zbg zhx zh6 (DE.db (zah (zdo 2) (dvc 0))) (DE.db zcb)))) (fun _ _ _ _ _=>(dvc 1))))) zcc))))
theorem zys {a : Wa} (W : Wd K mg a) : zax P w K mg base CX0 2 a.f_15 a.fd_15 ["self","sheet","without"] (spD ⟨K,cl a⟩ ["self","sheet","without"].length m_15) :=
 zbi (k:=1) (N:=["self","sheet","without"]) (F:=b_15) W.F_15 z05 fun cdv A outer s H E hr=>by
  unfold b_15
  exact (zam (za1 (zcf zlp zlb (DE.db (za9 (zsh W) (hr.mono (by decide)) rfl W.g_17 W.F_17.kp W.b_17 (zac (za9 (zzn W) (hr.mono (by decide)) rfl W.g_42 W.F_42.kp W.b_42 (zac (ze0 "Least" (zgz W) (zo4 W) (dv 0)) (zac (dv 2) zag))) (zac (dv 1) zag)))) (DE.db (ze0 "Least" (zgz W) (zqa W) (dv 0))))))
theorem zuu {a : Wa} (W : Wd K mg a) : zax P w K mg base CX0 1 a.f_24 a.fd_24 ["items","entries"] (spD ⟨K,cl a⟩ ["items","entries"].length zmc) :=
 zbi (k:=0) (N:=["items","entries"]) (F:=b_24) W.F_24 z16 fun cdv A outer s H E hr=>by
  unfold b_24
  exact (zam (za1 (zci (zh4 rfl) zh8 rfl W.z_sum boot_sum (zbv (DE.db (DO.de (zcw 2 [1] ["thing","worth","entries"] rfl (DI.de (zb9 (dv 0))) (fun _ _ _ _ _=>(zc1 rfl (zbp (dgc 0 2) (zbp (dgc 1 2) zc3)))) (fun _ _ _ _ _=>(zgd (zbg zfn zfg (DE.db (zah (zdo 2) (dvc 0))) (DE.db zcb)))) (fun _ _ _ _ _=>(dvc 1))))) zcc))))
theorem z6o {a : Wa} (W : Wd K mg a) : zax P w K mg base CX0 2 a.f_16 a.fd_16 ["self","sheet","without"] (spD ⟨K,cl a⟩ ["self","sheet","without"].length m_16) :=
 zbi (k:=1) (N:=["self","sheet","without"]) (F:=b_16) W.F_16 zxe fun cdv A outer s H E hr=>by
  unfold b_16
  exact (zam (za1 (zcf zkx zk0 (DE.db (za9 (zuu W) (hr.mono (by decide)) rfl W.g_24 W.F_24.kp W.b_24 (zac (ze0 "Most" (zgv W) (zo2 W) (dv 0)) (zac (dv 1) zag)))) (DE.db (ze0 "Most" (zgv W) (znc W) (dv 0))))))
theorem z2q {a : Wa} (W : Wd K mg a) : zax P w K mg base CX0 1 a.f_14 a.fd_14 ["self","sheet","without"] (spD ⟨K,cl a⟩ ["self","sheet","without"].length m_14) :=
 zbi (k:=0) (N:=["self","sheet","without"]) (F:=b_14) W.F_14 z0a fun cdv A outer s H E hr=>by
  unfold b_14
  exact (zam (za1 (zcf zfn zfg (DE.db (zah (dvC 1) (ze0 "Out" (zka W) (zoq W) (dv 0)))) (DE.db zcb))))
theorem z0r {a : Wa} (W : Wd K mg a) : zax P w K mg base CX0 1 a.f_48 a.fd_48 ["self","thing"] (spI ⟨K,cl a⟩ "In" ["self","thing"].length zr6) :=
 zm9 (k:=0) (N:=["self","thing"]) (cn:="In") W.F_48 z3b fun cdv A outer s H E hr=>(zjl (ziz W) (zl7 W) (pv 0) (dv 1) zm3)
theorem z71 {a : Wa} (W : Wd K mg a) : zax P w K mg base CX0 1 a.f_50 a.fd_50 ["self","bound","items"] (spI ⟨K,cl a⟩ "Least" ["self","bound","items"].length zug) :=
 zm9 (k:=0) (N:=["self","bound","items"]) (cn:="Least") W.F_50 z5v fun cdv A outer s H E hr=>(zjl (zgz W) (zqa W) (pv 0) (dv 1) (zjl (zgz W) (zo4 W) (pv 0) (DO.de (zg4 boot_list rfl W.z_list (dvC 2))) zm3))
theorem z69 {a : Wa} (W : Wd K mg a) : zax P w K mg base CX0 1 a.f_51 a.fd_51 ["self","bound","items"] (spI ⟨K,cl a⟩ "Most" ["self","bound","items"].length ztt) :=
 zm9 (k:=0) (N:=["self","bound","items"]) (cn:="Most") W.F_51 z1a fun cdv A outer s H E hr=>(zjl (zgv W) (znc W) (pv 0) (dv 1) (zjl (zgv W) (zo2 W) (pv 0) (DO.de (zg4 boot_list rfl W.z_list (dvC 2))) zm3))
theorem z1c {a : Wa} (W : Wd K mg a) : zax P w K mg base CX0 1 a.f_49 a.fd_49 ["self","thing"] (spI ⟨K,cl a⟩ "Out" ["self","thing"].length zsx) :=
 zm9 (k:=0) (N:=["self","thing"]) (cn:="Out") W.F_49 z0z fun cdv A outer s H E hr=>(zjl (zka W) (zoq W) (pv 0) (dv 1) zm3)
theorem z2l {a : Wa} (W : Wd K mg a) : zax P w K mg base CX0 3 a.f_39 a.fd_39 ["told"] (spD ⟨K,cl a⟩ ["told"].length zok) :=
 zbi (k:=2) (N:=["told","word"]) (F:=b_39) W.F_39 zqp fun cdv A outer s H E hr=>have hu:=hr.units; by
  unfold b_39
  exact (zal (zb3 1 zqp.nd (zah (dvC 0) zad))
  (zal (zbr (zbg (zby hu) zbx (DE.db (dv 1)) (DE.db zbk)) (zam (za1 (zmb "In" (zx9 W) (z0r W) (hr.mono (by decide)) rfl (z8h W) W.b_48 (zac (zah (dvC 0) zad) zag)))) zbs)
  (zal (zbr (zbg (zby hu) zbx (DE.db (dv 1)) (DE.db zbk)) (zam (za1 (zmb "Out" (zvt W) (z1c W) (hr.mono (by decide)) rfl (zyt W) W.b_49 (zac (zah (dvC 0) zad) zag)))) zbs)
  (zal (zbr (zbg (zby hu) zbx (DE.db (dv 1)) (DE.db zbk)) (zam (za1 (zmb "Least" (z8c W) (z71 W) (hr.mono (by decide)) rfl (z15 W) W.b_50 (zac (zah (dvC 0) zad) (zac (zah (dvC 0) zad) zag))))) zbs)
  (zam (za1 (zmb "Most" (z5w W) (z69 W) (hr.mono (by decide)) rfl (z3d W) W.b_51 (zac (zah (dvC 0) zad) (zac (zah (dvC 0) zad) zag)))))))))
theorem zq4 {a : Wa} (W : Wd K mg a) : zax P w K mg base CX0 4 a.f_25 a.fd_25 ["rule"] (spD ⟨K,cl a⟩ ["rule"].length zli) :=
 zbi (k:=3) (N:=["rule"]) (F:=b_25) W.F_25 zv6 fun cdv A outer s H E hr=>by
  unfold b_25
  exact (zam (zl5 (zcw 1 [] ["told"] rfl (DI.de (zb9 (zah (dvC 0) zad))) (fun _ _ _ _ _=>(dgc 0 1)) (fun _ _ _ _ _=>zdf) (fun _ _ _ _ _=>(za9 (z2l W) (hr.mono (by decide)) (glc rfl) W.g_39 W.F_39.kp W.b_39 (zac (dvc 0) zag))))))
theorem z51 {a : Wa} (W : Wd K mg a) : zax P w K mg base CX0 5 a.f_44 a.fd_44 ["rule","sheet","without"] (spD ⟨K,cl a⟩ ["rule","sheet","without"].length zpv) :=
 zbi (k:=4) (N:=["rule","sheet","without"]) (F:=b_44) W.F_44 zxv fun cdv A outer s H E hr=>by
  unfold b_44
  exact (zam (za1 (zci (zmt rfl) zmz rfl W.z_any boot_any (zbv (DE.db (DO.de (zcw 1 [1,2] ["part","sheet","without"] rfl (DI.de (zb9 (za9 (zq4 W) (hr.mono (by decide)) rfl W.g_25 W.F_25.kp W.b_25 (zac (dv 0) zag)))) (fun _ _ _ _ _=>(dgc 0 1)) (fun _ _ _ _ _=>zdf) (fun _ _ _ _ _=>(DE.orE (zgu "In" (dvc 0) (ziz W) (z4k W) (z5t W) (hr.mono (by decide)) W.b_13 (zac (dvc 1) (zac (dvc 2) zag))) (DE.orE (zgu "Out" (dvc 0) (zka W) (zz8 W) (z2q W) (hr.mono (by decide)) W.b_14 (zac (dvc 1) (zac (dvc 2) zag))) (DE.orE (zgu "Least" (dvc 0) (zgz W) (zvk W) (zys W) (hr.mono (by decide)) W.b_15 (zac (dvc 1) (zac (dvc 2) zag))) (zgu "Most" (dvc 0) (zgv W) (z49 W) (z6o W) (hr.mono (by decide)) W.b_16 (zac (dvc 1) (zac (dvc 2) zag)))))))))) zcc))))
theorem z2h {a : Wa} (W : Wd K mg a) : zax P w K mg base CX0 6 a.f_36 a.fd_36 ["rule","sheet","without"] (spD ⟨K,cl a⟩ ["rule","sheet","without"].length zor) :=
 zbi (k:=5) (N:=["rule","sheet","without","thing"]) (F:=b_36) W.F_36 zrz fun cdv A outer s H E hr=>by
  unfold b_36
  exact (zal (zb3 3 zrz.nd (zah (dvC 0) zad))
  (zam (za1 (zgp (zcf zhx zh6 (DE.db (dv 3)) (DE.db ze9)) (zgp (zah (dvC 2) (dv 3)) (zhu (zn7 (za9 (z51 W) (hr.mono (by decide)) rfl W.g_44 W.F_44.kp W.b_44 (zac (dv 0) (zac (dv 1) (zac (dv 2) zag)))))))))))
theorem z8q {a : Wa} (W : Wd K mg a) : zax P w K mg base CX0 7 a.f_37 a.fd_37 ["plain","sheet","things"] (spD ⟨K,cl a⟩ ["plain","sheet","things"].length zpl) :=
 zbi (k:=6) (N:=["plain","sheet","things","without"]) (F:=b_37) W.F_37 zsw fun cdv A outer s H E hr=>by
  unfold b_37
  exact (zal (zb3 3 zsw.nd (za9 (zr4 W) (hr.mono (by decide)) rfl W.g_8 W.F_8.kp W.b_8 (zac (zah (dvC 0) zad) (zac (dv 2) zag))))
  (zal (zbr (zdj (DE.db (zci (zmt rfl) zmz rfl W.z_any boot_any (zbv (DE.db (DO.de (zcw 1 [1,3] ["rule","sheet","without"] rfl (DI.de (zb9 (zah (dvC 0) zad))) (fun _ _ _ _ _=>(dgc 0 1)) (fun _ _ _ _ _=>zdf) (fun _ _ _ _ _=>(za9 (z2h W) (hr.mono (by decide)) (glc rfl) W.g_36 W.F_36.kp W.b_36 (zac (dvc 0) (zac (dvc 1) (zac (dvc 2) zag)))))))) zcc)))) (zam (za1 zcb)) zbs)
  (zam (za1 (za9 (zzd W) (hr.mono (by decide)) rfl W.g_47 W.F_47.kp W.b_47 (zac (dv 1) (zac (dv 2) zag)))))))
theorem zz1 {a : Wa} (W : Wd K mg a) : zax P w K mg base CX0 1 a.f_20 a.fd_20 ["self","sheet"] (spD ⟨K,cl a⟩ ["self","sheet"].length m_20) :=
 zbi (k:=0) (N:=["self","sheet"]) (F:=b_20) W.F_20 z5g fun cdv A outer s H E hr=>by
  unfold b_20
  exact (zam (za1 (zcf zfn zfg (DE.db (zah (dvC 1) (ze0 "In" (ziz W) (zl7 W) (dv 0)))) (DE.db zcb))))
theorem zv0 {a : Wa} (W : Wd K mg a) : zax P w K mg base CX0 2 a.f_22 a.fd_22 ["self","sheet"] (spD ⟨K,cl a⟩ ["self","sheet"].length m_22) :=
 zbi (k:=1) (N:=["self","sheet"]) (F:=b_22) W.F_22 zxa fun cdv A outer s H E hr=>by
  unfold b_22
  exact (zam (za1 (zcf zp3 zp8 (DE.db (za9 (zuu W) (hr.mono (by decide)) rfl W.g_24 W.F_24.kp W.b_24 (zac (ze0 "Least" (zgz W) (zo4 W) (dv 0)) (zac (dv 1) zag)))) (DE.db (ze0 "Least" (zgz W) (zqa W) (dv 0))))))
theorem z62 {a : Wa} (W : Wd K mg a) : zax P w K mg base CX0 2 a.f_23 a.fd_23 ["self","sheet"] (spD ⟨K,cl a⟩ ["self","sheet"].length m_23) :=
 zbi (k:=1) (N:=["self","sheet"]) (F:=b_23) W.F_23 zxm fun cdv A outer s H E hr=>by
  unfold b_23
  exact (zam (za1 (zcf zl2 zmy (DE.db (za9 (zsh W) (hr.mono (by decide)) rfl W.g_17 W.F_17.kp W.b_17 (zac (ze0 "Most" (zgv W) (zo2 W) (dv 0)) (zac (dv 1) zag)))) (DE.db (ze0 "Most" (zgv W) (znc W) (dv 0))))))
theorem zw3 {a : Wa} (W : Wd K mg a) : zax P w K mg base CX0 1 a.f_21 a.fd_21 ["self","sheet"] (spD ⟨K,cl a⟩ ["self","sheet"].length m_21) :=
 zbi (k:=0) (N:=["self","sheet"]) (F:=b_21) W.F_21 z0o fun cdv A outer s H E hr=>by
  unfold b_21
  exact (zam (za1 (zcf zfn zfg (DE.db (zah (dvC 1) (ze0 "Out" (zka W) (zoq W) (dv 0)))) (DE.db zcb))))
theorem z2b {a : Wa} (W : Wd K mg a) : zax P w K mg base CX0 5 a.f_43 a.fd_43 ["rule","sheet"] (spD ⟨K,cl a⟩ ["rule","sheet"].length zpw) :=
 zbi (k:=4) (N:=["rule","sheet"]) (F:=b_43) W.F_43 zwg fun cdv A outer s H E hr=>by
  unfold b_43
  exact (zam (za1 (zci (zmv rfl) zlq rfl W.z_all boot_all (zbv (DE.db (DO.de (zcw 1 [1] ["part","sheet"] rfl (DI.de (zb9 (za9 (zq4 W) (hr.mono (by decide)) rfl W.g_25 W.F_25.kp W.b_25 (zac (dv 0) zag)))) (fun _ _ _ _ _=>(dgc 0 1)) (fun _ _ _ _ _=>zdf) (fun _ _ _ _ _=>(DE.orE (zgu "In" (dvc 0) (ziz W) (z8g W) (zz1 W) (hr.mono (by decide)) W.b_20 (zac (dvc 1) zag)) (DE.orE (zgu "Out" (dvc 0) (zka W) (zzg W) (zw3 W) (hr.mono (by decide)) W.b_21 (zac (dvc 1) zag)) (DE.orE (zgu "Least" (dvc 0) (zgz W) (z2r W) (zv0 W) (hr.mono (by decide)) W.b_22 (zac (dvc 1) zag)) (zgu "Most" (dvc 0) (zgv W) (zv7 W) (z62 W) (hr.mono (by decide)) W.b_23 (zac (dvc 1) zag))))))))) zcc))))
theorem z1r {a : Wa} (W : Wd K mg a) : zax P w K mg base CX0 6 a.f_45 a.fd_45 ["rule","sheet"] (spD ⟨K,cl a⟩ ["rule","sheet"].length zqf) :=
 zbi (k:=5) (N:=["rule","sheet"]) (F:=b_45) W.F_45 z0x fun cdv A outer s H E hr=>have hu:=hr.units; by
  unfold b_45
  exact (zal (zbr (zbg (zby hu) zbx (DE.db (zah (dvC 0) zad)) (DE.db zbk)) (zam (za1 zcb)) zbs)
  (zal (zbr (DW.dt (zfo (zbg (zby hu) zbx (DE.db (zah (dvC 0) zad)) (DE.db zbk)) (zgs (zbg zhx zh6 (DE.db (zah (dvC 1) (zah (dvC 0) zad))) (DE.db zcb))))) (zam (za1 zcb)) zbs)
  (zam (za1 (za9 (z2b W) (hr.mono (by decide)) rfl W.g_43 W.F_43.kp W.b_43 (zac (dv 0) (zac (dv 1) zag)))))))
theorem zrp {a : Wa} (W : Wd K mg a) : zax P w K mg base CX0 8 a.f_12 a.fd_12 ["plain","worlds","bars","sheet","why"] (spD ⟨K,cl a⟩ ["plain","worlds","bars","sheet","why"].length zm7) :=
 zbi (k:=7) (N:=["plain","worlds","bars","sheet","why","number"]) (F:=b_12) W.F_12 zre fun cdv A outer s H E hr=>have hu:=hr.units; by
  unfold b_12
  exact (zal (zbr (zbg (zby hu) zbx (DE.db (zah (dvC 4) zad)) (DE.db zbk)) (zam (za1 (za9 (z8q W) (hr.mono (by decide)) rfl W.g_37 W.F_37.kp W.b_37 (zac (dv 0) (zac (dv 3) (zac (zah (dvC 4) zad) zag)))))) zbs)
  (zal (zb3 5 zre.nd (zah (dvC 4) zad))
  (zal (zbr (zbg (zby hu) zbx (DE.db (zah (dvC 4) zad)) (DE.db zbk)) (zam (za1 (zgp (za9 (zo7 W) (hr.mono (by decide)) rfl W.g_6 W.F_6.kp W.b_6 (zac (zah (dvC 0) zad) (zac (dv 5) zag))) (zhu (za9 (z1r W) (hr.mono (by decide)) rfl W.g_45 W.F_45.kp W.b_45 (zac (zah (DE.dc (zah (dvC 0) zad)) (dv 5)) (zac (dv 3) zag))))))) zbs)
  (zal (zbr (zbg (zby hu) zbx (DE.db (zah (dvC 4) zad)) (DE.db zbk)) (zam (za1 (zgp (za9 (zo7 W) (hr.mono (by decide)) rfl W.g_6 W.F_6.kp W.b_6 (zac (dv 2) (zac (dv 5) zag))) (zhu (za9 (zvp W) (hr.mono (by decide)) rfl W.g_46 W.F_46.kp W.b_46 (zac (dv 3) (zac (zah (dvC 2) (dv 5)) zag))))))) zbs)
  (zam (za1 (zgp (zcf (zby hu) zbx (DE.db (zah (dvC 4) zad)) (DE.db zbk)) (zgp (za9 (zo7 W) (hr.mono (by decide)) rfl W.g_6 W.F_6.kp W.b_6 (zac (dv 1) (zac (dv 5) zag))) (zhu (zcf (zby hu) zbx (DE.db (dv 3)) (DE.db (za9 (zr4 W) (hr.mono (by decide)) rfl W.g_8 W.F_8.kp W.b_8 (zac (zah (dvC 0) zad) (zac (zah (dvC 1) (dv 5)) zag))))))))))))))
theorem z4z {a : Wa} (W : Wd K mg a) : zax P w K mg base CX0 9 a.f_38 a.fd_38 ["plain","worlds","bars","sheet","step"] (spD ⟨K,cl a⟩ ["plain","worlds","bars","sheet","step"].length zqc) :=
 zbi (k:=8) (N:=["plain","worlds","bars","sheet","step","pair"]) (F:=b_38) W.F_38 zrs fun cdv A outer s H E hr=>by
  unfold b_38
  exact (zal (zb3 5 zrs.nd (zah (dvC 4) zad))
  (zal (zbr (zbg zfn zfg (DE.db (dv 5)) (DE.db ze9)) (zam (za1 (za9 (zrp W) (hr.mono (by decide)) rfl W.g_12 W.F_12.kp W.b_12 (zac (dv 0) (zac (dv 1) (zac (dv 2) (zac (dv 3) (zac (zah (dvC 4) zad) zag)))))))) zbs)
  (zal (zbr (zbg zhx zh6 (DE.db (zah (dvC 3) (zah (dvC 5) zad))) (DE.db ze9)) (zam (za1 zcb)) zbs)
  (zam (za1 (za9 (zrp W) (hr.mono (by decide)) rfl W.g_12 W.F_12.kp W.b_12 (zac (dv 0) (zac (dv 1) (zac (dv 2) (zac (za9 (zvj W) (hr.mono (by decide)) rfl W.g_35 W.F_35.kp W.b_35 (zac (dv 3) (zac (zah (dvC 5) zad) (zac (zn7 (zah (dvC 5) zad)) zag)))) (zac (zah (dvC 4) zad) zag)))))))))))
theorem zy0 {a : Wa} (W : Wd K mg a) : zax P w K mg base CX0 10 a.f_27 a.fd_27 ["plain","worlds","bars","sheet","steps"] (spD ⟨K,cl a⟩ ["plain","worlds","bars","sheet","steps"].length zpu) :=
 zbi (k:=9) (N:=["plain","worlds","bars","sheet","steps","after","place","step","ends"]) (F:=b_27) W.F_27 zkq fun cdv A outer s H E hr=>have hu:=hr.units; by
  unfold b_27
  exact (zal (zep 5 zkq.nd (zg4 boot_list rfl W.z_list (dvC 3)))
  (zal (zc5 PassesOwn.never rfl (zyj rfl W.z_enumerate (dv 4)) (zc1 rfl (zbp (zca 6 9 zkq.nd) (zbp (zca 7 9 zkq.nd) zc3))) (zal (zb3 8 zkq.nd (zcf zfn zfg (DE.db (zah (dvC 7) zad)) (DE.db ze9)))
  (zal (zbr (zbg (zhz hu) zhn (DE.db (dv 8)) (DE.db (zcf (zby hu) zbx (DE.db (dv 6)) (DE.db (zci zek zee rfl W.z_len PySem.boot_len (zbv (DE.db (dv 4)) zcc)))))) (zam (za1 zcb)) zbs)
  (zal (zbr (zfr (zdj (DE.db (zrq (z4z W) (hr.mono (by decide)) rfl W.g_38 W.F_38.kp W.b_38 (zbv (DE.db (dv 0)) (zbv (DE.db (dv 1)) (zbv (DE.db (dv 2)) (zbv (dvB 5) (zbv (DE.db (dv 7)) zcc))))))))) (zam (za1 zcb)) zbs)
  (zam (zbr (zfr (zdj (DE.db (dv 8)))) (zam (zm1 (pv 5) (zah (DE.dc (zah (dvC 7) zad)) zad) (zah (DE.dc (zah (dvC 7) zad)) zad))) zbs))))))
  (zam (za1 (zcf zkx zk0 (DE.db (zci zek zee rfl W.z_len PySem.boot_len (zbv (DE.db (dv 4)) zcc))) (DE.db zad))))))
theorem zzt {a : Wa} (W : Wd K mg a) : zax P w K mg base CX0 11 a.f_31 a.fd_31 ["plain","worlds","bars","line"] (spD ⟨K,cl a⟩ ["plain","worlds","bars","line"].length zqd) :=
 zbi (k:=10) (N:=["plain","worlds","bars","line","bar","things"]) (F:=b_31) W.F_31 znk fun cdv A outer s H E hr=>by
  unfold b_31
  exact (zal (zb3 4 znk.nd (zah (dvC 3) zad))
  (zal (zkb 5 2 [] ["thing","truth"] znk.nd rfl (DI.de (zb9 (dv 4))) (fun _ _ _ _ _=>(zc1 rfl (zbp (dgc 0 2) (zbp (dgc 1 2) zc3)))) (fun _ _ _ _ _=>zdf) (fun _ _ _ _ _=>(dvc 0)))
  (zal (zbr (zbg zlp zlb (DE.db (z8a rfl rfl W.z_len rfl W.z_set (dv 5))) (DE.db (zci zek zee rfl W.z_len PySem.boot_len (zbv (DE.db (dv 5)) zcc)))) (zam (za1 zcb)) zbs)
  (zam (za1 (za9 (zy0 W) (hr.mono (by decide)) rfl W.g_27 W.F_27.kp W.b_27 (zac (dv 0) (zac (dv 1) (zac (dv 2) (zac (za9 (zwc W) (hr.mono (by decide)) rfl W.g_26 W.F_26.kp W.b_26 (zac (zah (dvC 0) zad) (zac (dv 4) zag))) (zac (zah (dvC 3) zad) zag)))))))))))
theorem z1b {a : Wa} (W : Wd K mg a) : zax P w K mg base CX0 12 a.f_32 a.fd_32 ["plain","worlds","paper"] (spD ⟨K,cl a⟩ ["plain","worlds","paper"].length zpj) :=
 zbi (k:=11) (N:=["plain","worlds","paper","bars","line"]) (F:=b_32) W.F_32 znl fun cdv A outer s H E hr=>have hu:=hr.units; by
  unfold b_32
  exact (zal (zep 3 znl.nd (zbz zag))
  (zal (zc5 PassesOwn.never rfl (zb9 (dv 2)) (zca 4 5 znl.nd) (zal (zbr (zfr (zdj (DE.db (zrq (zzt W) (hr.mono (by decide)) rfl W.g_31 W.F_31.kp W.b_31 (zbv (DE.db (dv 0)) (zbv (DE.db (dv 1)) (zbv (dvB 3) (zbv (DE.db (dv 4)) zcc)))))))) (zam (za1 zcb)) zbs)
  (zam (zf2 (zfl (ze5 PySem.F.plainAttrs_list PySem.F.slot_list_append PySem.F.type_list_append zf0 (pv 3) (zdr (zah (dvC 4) zad) zdy)))))))
  (zam (zey 3 (za1 (zgp (zcf zkx zk0 (DE.db (zci zek zee rfl W.z_len PySem.boot_len (zbv (DE.db (dv 3)) zcc))) (DE.db zad)) (zhu (zcf (zby hu) zbx (DE.db (zci zek zee rfl W.z_len PySem.boot_len (zbv (DE.db (zah (dvC 3) (zos zad))) zcc))) (DE.db zad)))))))))
theorem zsm {a : Wa} (W : Wd K mg a) : zax P w K mg base CX0 13 a.f_10 a.fd_10 ["_law_many","_law_rules","_law_sets","_law_lines","_law_due"] (spD ⟨K,cl a⟩ ["_law_many","_law_rules","_law_sets","_law_lines","_law_due"].length zl1) :=
 zbi (k:=12) (N:=["_law_many","_law_rules","_law_sets","_law_lines","_law_due","_law_handed","_law_mine","_law_found"]) (F:=b_10) W.F_10 zm8 fun cdv A outer s H E hr=>have hu:=hr.units; by
  unfold b_10
  exact (zal (zb3 5 zm8.nd (DO.de (zbz (zac (zbw (zac (dv 0) (zac (za9 (zy9 W) (hr.mono (by decide)) rfl W.g_11 W.F_11.kp W.b_11 (zac (dv 1) zag)) zag))) (zac (DO.de (zcw 1 [] ["_law_one"] rfl (DI.de (zb9 (dv 2))) (fun _ _ _ _ _=>(dgc 0 1)) (fun _ _ _ _ _=>zdf) (fun _ _ _ _ _=>(DO.de (zg4 boot_list (glc rfl) W.z_list (zdo 0)))))) zag)))))
  (zal (zkb 6 2 [] ["_law_bar","_law_steps"] zm8.nd rfl (DI.de (zb9 (dv 3))) (fun _ _ _ _ _=>(zc1 rfl (zbp (dgc 0 2) (zbp (dgc 1 2) zc3)))) (fun _ _ _ _ _=>zdf) (fun _ _ _ _ _=>(zbw (zac (DO.de (zg4 boot_list (glc rfl) W.z_list (zdo 0))) (zac (za9 (z4x W) (hr.mono (by decide)) (glc rfl) W.g_29 W.F_29.kp W.b_29 (zac (dvc 1) zag)) zag)))))
  (zal (zb3 7 zm8.nd (za9 (z1b W) (hr.mono (by decide)) rfl W.g_32 W.F_32.kp W.b_32 (zac (zah (dvC 5) zad) (zac (zah (dvC 5) zad) (zac (dv 6) zag)))))
  (zal (zbr (DW.dt (zlk (zfr (zdj (DE.db (zyp (T:="bool") (zv9 W) rfl W.z_isinstance boot_bool rfl W.z_bool (DE.db (dv 7)))))) (zmr (zbg (zhz hu) zhn (DE.db (dv 7)) (DE.db (dv 4)))))) (zam (za1 zcb)) zbs)
  (zam (za1 (zgp (zcf (zby hu) zbx (DE.db (dv 5)) (DE.db (DO.de (zbz (zac (zbw (zac (dv 0) (zac (dv 1) zag))) (zac (dv 2) zag)))))) (zhu (zcf (zby hu) zbx (DE.db (dv 6)) (DE.db (dv 3)))))))))))
theorem z5a {a : Wa} (W : Wd K mg a) : zax P w K mg base CX0 14 a.f_0 a.fd_0 ["_law_script"] (spD ⟨K,cl a⟩ ["_law_script"].length m_0) :=
 zbi (k:=13) (N:=["_law_script","_law_hs","_law_many","_law_rules","_law_cell","_law_sets","_law_row","_law_cut","_law_lines","_law_some","_law_mine"]) (F:=b_0) W.F_0 zev fun cdv A outer s H E hr=>have hu:=hr.units; by
  unfold b_0
  exact (zal (zb3 1 zev.nd (za9 (znt W) (hr.mono (by decide)) rfl W.g_2 W.F_2.kp W.b_2 (zac (za9 (zoa W) (hr.mono (by decide)) rfl W.g_7 W.F_7.kp W.b_7 (zac (dv 0) (zac zad zag))) (zac zad zag))))
  (zal (zb3 2 zev.nd (zat zhw (zat zc4 (zat zb6 (zah (dvC 1) zad) zad) zad) zad))
  (zal (zep 3 zev.nd (zzm (zyx W) (hr.mono (by decide)) rfl W.g_18 W.F_18.kp W.b_18 (zac (zat zb6 (zah (dvC 1) zad) zad) (zac (dv 2) zag))))
  (zal (zc5 PassesOwn.never rfl (zb9 (DO.de (by refine zdl ?a ?b ?c; (case a=>exact (dv 0)); (case b=>exact (zc7 zad)); (case c=>exact (zc7 zad))))) (zca 4 11 zev.nd) (zam (zf2 (zfl (ze5 PySem.F.plainAttrs_list PySem.F.slot_list_append PySem.F.type_list_append zf0 (pv 3) (zdr (za9 (z4s W) (hr.mono (by decide)) rfl W.g_34 W.F_34.kp W.b_34 (zac (dv 4) (zac (dv 2) (zac (zcf (zby hu) zbx (DE.db (zat zb6 (zah (dvC 1) zad) zad)) (DE.db zad)) zag)))) zdy))))))
  (zal (zep 5 zev.nd (zbz zag))
  (zal (zc5 PassesOwn.never rfl (zb9 (za9 (znq W) (hr.mono (by decide)) rfl W.g_1 W.F_1.kp W.b_1 (zac (dv 2) zag))) (zca 6 11 zev.nd) (zam (zey 3 (zbr (DW.dt (zfo (zfr (zdj (DE.db (zci (zmt rfl) zmz rfl W.z_any boot_any (zbv (DE.db (DO.de (zcw 1 [6] ["_law_rule_here","_law_row"] rfl (z5c 3) (fun _ _ _ _ _=>(dgc 0 1)) (fun _ _ _ _ _=>zdf) (fun _ _ _ _ _=>(za9 (zsq W) (hr.mono (by decide)) (glc rfl) W.g_19 W.F_19.kp W.b_19 (zac (dvc 0) (zac (dvc 1) zag))))))) zcc))))) (zgs (zbg (zby hu) zbx (DE.db (za9 (zuw W) (hr.mono (by decide)) rfl W.g_3 W.F_3.kp W.b_3 (zac (dv 3) (zac (dv 6) zag)))) (DE.db (dv 6)))))) (zam (zf2 (zfl (ze5 PySem.F.plainAttrs_list PySem.F.slot_list_append PySem.F.type_list_append zf0 (pv 5) (zdr (za9 (zpy W) (hr.mono (by decide)) rfl W.g_5 W.F_5.kp W.b_5 (zac (dv 6) zag)) zdy))))) zbs))))
  (zal (zey 5 (zb3 7 zev.nd (zat zb6 (za9 (zoa W) (hr.mono (by decide)) rfl W.g_7 W.F_7.kp W.b_7 (zac (dv 0) (zac zad zag))) (zat zc4 (zci zek zee rfl W.z_len PySem.boot_len (zbv (DE.db (dv 5)) zcc)) zad))))
  (zal (zey 5 (zep 5 zev.nd (zfj (DO.de (by refine zdl ?a ?b ?c; (case a=>exact (dv 5)); (case b=>exact (zc7 (dv 7))); (case c=>exact zef))) (DO.de (by refine zdl ?a ?b ?c; (case a=>exact (dv 5)); (case b=>exact zef); (case c=>exact (zc7 (dv 7))))))))
  (zal (zey 5 (zey 3 (zb3 8 zev.nd (za9 (z65 W) (hr.mono (by decide)) rfl W.g_4 W.F_4.kp W.b_4 (zac (dv 2) (zac (dv 3) (zac (dv 5) zag)))))))
  (zal (zey 5 (zey 3 (zbr (zfr (zdj (DE.db (za9 (zsm W) (hr.mono (by decide)) rfl W.g_10 W.F_10.kp W.b_10 (zac (dv 2) (zac (dv 3) (zac (dv 5) (zac (dv 8) (zac zcb zag))))))))) (zam (za1 zcb)) zbs)))
  (zal (zc5 PassesOwn.never rfl (zb9 (DO.de (zfj (DO.de (zbz (zac (za9 (zoa W) (hr.mono (by decide)) rfl W.g_7 W.F_7.kp W.b_7 (zac (dv 0) (zac zad zag))) zag))) (DO.de (by refine zdl ?a ?b ?c; (case a=>exact (dv 0)); (case b=>exact (zc7 zad)); (case c=>exact (zc7 zad))))))) (zca 4 11 zev.nd) (zal (zey 5 (zqq (za9 (z35 W) (hr.mono (by decide)) rfl W.g_9 W.F_9.kp W.b_9 (zac (dv 2) (zac (dv 5) (zac (dv 8) (zac (dv 4) zag))))) (zc1 rfl (zbp (zca 9 11 zev.nd) (zbp (zca 10 11 zev.nd) zc3)))))
  (zam (zey 3 (zbr (zfr (zdj (DE.db (za9 (zsm W) (hr.mono (by decide)) rfl W.g_10 W.F_10.kp W.b_10 (zac (dv 2) (zac (dv 3) (zac (dv 9) (zac (dv 10) (zac zcb zag))))))))) (zam (za1 zcb)) zbs)))))
  (zam (za1 zcb)))))))))))))
end
local macro_rules | `(tactic| walk_at "evS")=>`(tactic| first | decide | omega | assumption | exact ⟨by decide,by decide⟩ | exact ⟨by omega,by omega⟩ | exact .inl ⟨by decide,by decide⟩ | exact .inr ⟨by decide,by decide⟩ | exact .inl ⟨by omega,by omega⟩ | exact .inr ⟨by omega,by omega⟩ | exact ⟨by decide,by decide,by decide⟩)
local macro_rules | `(tactic| walk_at "evO")=>`(tactic| first | with_reducible exact zgy | with_reducible exact zto | with_reducible exact zoy | with_reducible exact zk6 | with_reducible exact zqo | with_reducible exact z6f | with_reducible exact zjm _ _ | with_reducible exact z5q _ _ | ((with_reducible apply ze4); (focus walk_at "evS")) | ((with_reducible apply zo0); (focus walk_at "evS")) | ((with_reducible apply zwq); (focus walk_at "evS")) | ((with_reducible apply zsi); (focus first | assumption | exact .inl (by walk_at "evS") | exact .inr ⟨by omega,by omega⟩)) | ((with_reducible apply zvg); (focus walk_at "evS")) | ((with_reducible apply zyv); (focus walk_at "evS")) | with_reducible exact zs4 _ _ | with_reducible exact znz _ _ | with_reducible exact z5p _ _ | with_reducible exact zxq | exact zx7 _ _ | exact zrl _ _ | assumption | rfl)
local macro_rules | `(tactic| walk_at "ev")=>`(tactic| first
 | with_reducible assumption
 | ((with_reducible apply zaz); (focus walk_at "ev"); (focus walk_at "ev"); (focus walk_at "evO"))
 | ((with_reducible apply zcq); (focus walk_at "ev"))
 | ((with_reducible apply zes); (focus walk_at "ev"); (focus first | assumption | rfl))
 | ((with_reducible apply zhv); (focus walk_at "ev"); (focus walk_at "ev"))
 | ((with_reducible apply zwb); (focus walk_at "ev"); (focus walk_at "ev"))
 | ((with_reducible apply zfy); (focus walk_at "ev"))
 | ((with_reducible apply zhh); (focus walk_at "ev"); (focus walk_at "ev"))
 | ((with_reducible apply zqm); (focus walk_at "ev"); (focus walk_at "ev"))
 | ((with_reducible apply zmo); (focus walk_at "ev"))
 | ((with_reducible apply zae); (focus walk_at "ev"); (focus walk_at "ev"))
 | ((with_reducible apply zck); (focus walk_at "ev"))
 | ((with_reducible apply zbn); (focus walk_at "ev"))
 | ((with_reducible apply zav); (focus walk_at "ev"); (focus first | with_reducible assumption | with_reducible exact zeo _ _ | assumption | exact zeo _ _ | exact z7r _ _ | rfl))
 | ((with_reducible apply zo9); (focus walk_at "ev"); (focus assumption); (focus rfl))
 | ((with_reducible apply zaq); (focus walk_at "ev"); (focus walk_at "ev"); (focus first | assumption | rfl))
 | ((with_reducible apply zo8); (focus walk_at "ev"); (focus rfl); (focus rfl))
 | ((with_reducible apply zht); (focus walk_at "ev"); (focus rfl); (focus rfl))
 | ((with_reducible apply zdi); (focus walk_at "ev"); (focus rfl))
 | rfl)
local macro_rules | `(tactic| walk_at "nrm")=>`(tactic| simp only [zra,List.set_cons_succ,List.set_cons_zero])
local macro_rules | `(tactic| walk_at "set")=>`(tactic| (apply zap; (first | with_reducible apply zbu | with_reducible apply zeq); (focus walk_at "ev"); walk_at "nrm"))
local macro_rules | `(tactic| walk_at "if0")=>`(tactic| ((with_reducible first | apply zbt | apply zch); (focus walk_at "ev")))
theorem zr9 (ns : List Int) (i : Int) (h0 : 0 <= i) : ∃ v,m_7 [.kl (ns.map D.int),.int i] = some (.int v):=by
 by_cases h : i < ns.length
 ·obtain ⟨x,_,e⟩:=zce (f:=D.int) h0 h
  refine ⟨x,zb8 (zfs (zfh (congrArg some (decide_eq_true ?_)) (zcj e)))⟩
  rw [List.length_map]
  exact h
 ·refine ⟨0,zb8 (zcy (zc9 (congrArg some (decide_eq_false ?_)) rfl) rfl)⟩
  rw [List.length_map]
  exact h
theorem p60 : (0 : Int) < 10 ^ (60 : Int).toNat:=by decide
theorem zw2 : zhp 10 60:=⟨by decide,by decide,by decide⟩
noncomputable def Nm (x : Int) : Prop:=0 <= x /\ x < 2305843009213693951
theorem zoe (c n : Int) (n0 : 0 <= n) (n1 : n <= 124) : ∃ d,m_2 [.int c,.int n] = some d /\ ∃ xs : List Int,d = .lst (xs.map D.int) /\ (xs.length : Int) = n /\ ∀ x ∈ xs,Nm x:=by
 apply zf7
 unfold b_2
 show wp _ [.im (.int c),.im (.int n),.no,.no,.no] _
 have a0 : 0 <= c % 2305843009213693951:=Int.emod_nonneg _ (by decide)
 have a1 : c % 2305843009213693951 < 2305843009213693951:=Int.emod_lt_of_pos _ (by decide)
 walk_at "set"
 walk_at "set"
 apply zap
 refine zdg (List.range n.toNat) (fun (i : Nat)=>D.int i) (fun pre ρ=>∃ (xs : List Int) (y : Int) (v : Sl),ρ = [.im (.int c),.im (.int n),.own (xs.map D.int),.im (.int y),v] /\ 0 <= y /\ y < 2 ^ 100 /\ xs.length = pre.length /\ ∀ x ∈ xs,Nm x)
  (zft (by walk_at "ev") n0 (by omega)) ⟨[],_,.no,rfl,by omega,by omega,rfl,fun x hx=>nomatch hx⟩ ?_ ?_
 ·rintro pre i post ρ ex ⟨xs,y,v,rfl,y0,y1,hl,hx⟩
  have hpl : pre.length < n.toNat:=by
   have : pre.length < (List.range n.toNat).length:=by rw [ex]; simp
   simpa using this
  refine ⟨_,rfl,?_⟩
  walk_at "nrm"
  generalize hz : (y * (y + 69621) + 7 * (i : Int) + 1) % 2305843009213693951 = z
  have z0 : 0 <= z:=by rw [<- hz]; exact Int.emod_nonneg _ (by decide)
  have z1 : z < 2305843009213693951:=by rw [<- hz]; exact Int.emod_lt_of_pos _ (by decide)
  apply zap
  refine zbu (by walk_at "ev") ?_
  rw [hz]
  walk_at "nrm"
  refine zfv rfl rfl (by rw [List.length_map]; omega) ?_
  refine ⟨xs ++ [z],z,.im (.int i),by rw [List.map_append]; rfl,z0,by omega,by rw [List.length_append,List.length_append,hl]; rfl,fun x hx'=>?_⟩
  rcases List.mem_append.mp hx' with h | h
  ·exact hx x h
  ·have : x = z:=by simpa using h
   subst this
   exact ⟨z0,z1⟩
 ·rintro ρ ⟨xs,y,v,rfl,y0,y1,hl,hx⟩
  rw [List.length_range] at hl
  exact zgw rfl (zg1 ⟨xs,rfl,by omega,hx⟩)
theorem worth (x : Int) (hx : Nm x) : ∃ d,zkn [.int x] = some d /\ ∃ w : Int,d = .int w /\ 0 <= w:=by
 obtain ⟨x0,x1⟩:=hx
 apply zf7
 unfold b_33
 show wp _ [.im (.int x)] _
 have pw:=p60
 have hcp:=zw2
 have m1 : zf3 x x:=.inl (.inl ⟨by omega,by omega⟩)
 have m2 : zf3 (x * x) x:=.inl (.inr ⟨by omega,by omega⟩)
 have m3 : zf3 (x * x * x) x:=.inl (.inr ⟨by omega,by omega⟩)
 apply zap
 walk_at "if0"
 ·intro _
  walk_at "if0"
  exact zb0 ⟨_,rfl,Int.emod_nonneg _ (Int.ne_of_gt pw)⟩
 ·intro _
  apply zb4
  walk_at "nrm"
  obtain ⟨w,hw,ew⟩:=zce (f:=D.int) (xs:=[1,1,2,0,3,1,1,2]) (i:=x / 8 % 8) (Int.emod_nonneg _ (by decide)) (Int.emod_lt_of_pos _ (by decide))
  have w0 : ∀ x ∈ ([1,1,2,0,3,1,1,2] : List Int),0 <= x:=by decide
  walk_at "if0"
  exact zb0 ⟨w,rfl,w0 w (List.mem_of_getElem? hw)⟩
theorem zt4 {α β : Type} {k : Nat} {js : List Nat} {fi : List Sl -> Option (List D)} {g : D -> List Sl -> Option (List Sl)} {ft : List Sl -> Option Bool} {fe : List Sl -> Option D} {ρ : List Sl} (xs : List α) (f : α -> D) (q : β -> D) (P : β -> Prop)
  (hi : fi ρ = some (xs.map f)) (hz : xs.length <= 16777216) (hh : ∀ x ∈ xs,∃ z,P z /\ ze1 g ft fe (zdc k js ρ) (f x) = some (some (q z))) : ∃ zs : List β,zbl k js fi g ft fe ρ = some (zs.map q) /\ zs.length = xs.length /\ ∀ z ∈ zs,P z:=by
 have key : ∀ ys : List α,(∀ x ∈ ys,∃ z,P z /\ ze1 g ft fe (zdc k js ρ) (f x) = some (some (q z))) -> ∃ zs : List β,zen (ze1 g ft fe (zdc k js ρ)) (ys.map f) = some (zs.map q) /\ zs.length = ys.length /\ ∀ z ∈ zs,P z:=by
  intro ys
  induction ys with
  | nil=>intro _; exact ⟨[],rfl,rfl,fun z hz=>nomatch hz⟩
  | cons y ys ih =>
   intro h
   obtain ⟨z,pz,ez⟩:=h y List.mem_cons_self
   obtain ⟨zs,e,l,p⟩:=ih fun x hx=>h x (List.mem_cons_of_mem _ hx)
   refine ⟨z :: zs,?_,by rw [List.length_cons,List.length_cons,l],fun w hw=>?_⟩
   ·rw [List.map_cons]
    unfold zen
    rw [ez,e]
    rfl
   ·rcases List.mem_cons.mp hw with rfl | hw
    ·exact pz
    ·exact p w hw
 obtain ⟨zs,e,l,p⟩:=key xs hh
 refine ⟨zs,?_,l,p⟩
 unfold zbl
 rw [hi]
 show (if (xs.map f).length <= 16777216 then _ else none) = _
 rw [List.length_map,if_pos hz]
 exact e
noncomputable def nmP : Prt -> List Int
 | .inn t=>[t]
 | .out t=>[t]
 | .least _ its=>its.map (·.1)
 | .most _ its=>its.map (·.1)
theorem zzl {xs : List Int} {i : Nat} {x : Int} (h : ∀ x ∈ xs,Nm x) (e : xs[i]? = some x) : Nm x:=h x (List.mem_of_getElem? e)
theorem z7d {ys : List Int} {n : Int} (hy : ∀ y ∈ ys,Nm y) (n1 : 1 <= n) {t : Nat} (ht : 4 + 2 * t <= ys.length) (ht2 : t <= 100) {fi : List Sl -> Option (List D)} {ρ : List Sl} {js : List Nat} (hi : fi ρ = some ((List.range t).map fun (i : Nat)=>D.int i)) (hj : zdc 1 js ρ = [.no,.im (.int n),.im (.lst (ys.map D.int))]) :
  ∃ its : List (Int × Int),zbl 1 js fi (zar 0) (fun _=>some true) (zbe (zab (m2 zbj (mIx (zaf 2) (m2 zb7 (fun _=>some (.int 4)) (m2 zcn (fun _=>some (.int 2)) (zaa 0)))) (zaa 1)) (zab (zao zkn (zab (mIx (zaf 2) (m2 zb7 (fun _=>some (.int 5)) (m2 zcn (fun _=>some (.int 2)) (zaa 0)))) (fun _=>some []))) (fun _=>some [])))) ρ = some (its.map itD) /\ its.length = t /\ InN n.toNat its:=by
 obtain ⟨its,e,l,p⟩:=zt4 (k:=1) (js:=js) (fi:=fi) (g:=zar 0) (ft:=fun _=>some true) (fe:=(zbe (zab (m2 zbj (mIx (zaf 2) (m2 zb7 (fun _=>some (.int 4)) (m2 zcn (fun _=>some (.int 2)) (zaa 0)))) (zaa 1)) (zab (zao zkn (zab (mIx (zaf 2) (m2 zb7 (fun _=>some (.int 5)) (m2 zcn (fun _=>some (.int 2)) (zaa 0)))) (fun _=>some []))) (fun _=>some []))))) (ρ:=ρ) (List.range t) (fun (i : Nat)=>D.int i) itD (fun z=>0 <= z.1 /\ z.1 < (n.toNat : Int) /\ 0 <= z.2) hi (by rw [List.length_range]; omega) fun i hi'=>by
  have hi':=List.mem_range.mp hi'
  obtain ⟨a,_,ea⟩:=zce (f:=D.int) (xs:=ys) (i:=4 + 2 * (i : Int)) (by omega) (by omega)
  obtain ⟨b,hb,eb⟩:=zce (f:=D.int) (xs:=ys) (i:=5 + 2 * (i : Int)) (by omega) (by omega)
  obtain ⟨d,ew,w,rfl,w0⟩:=worth b (zzl hy hb)
  have q0:=Int.emod_nonneg a (show n ≠ 0 by omega)
  have q1:=Int.emod_lt_of_pos a (show 0 < n by omega)
  refine ⟨(a % n,w),⟨q0,by show a % n < _; omega,w0⟩,?_⟩
  rw [hj]
  exact zda (y:=.tup [.int (a % n),.int w]) rfl rfl (by walk_at "ev")
 exact ⟨its,e,by rw [l,List.length_range],p⟩
theorem z24 {its : List (Int × Int)} {fi : List Sl -> Option (List D)} {ρ : List Sl} (hi : fi ρ = some (its.map itD)) (hz : its.length <= 1000) : zao zdu (zab (zan (zbl 2 [] fi (zcm (zbc (zar 0) (zbc (zar 1) zcr))) (fun _=>some true) (zaa 1))) (fun _=>some [])) ρ = some (.int (its.map (·.2)).sum):=by
 refine zav (zae (zbn (zdn its itD (fun z=>D.int z.2) hi (by omega) fun z _=>zda rfl rfl rfl)) rfl) ?_
 rw [z4t]
 exact zuf
theorem z0k (ys : List Int) (n : Int) (hl : 10 <= ys.length) (hy : ∀ y ∈ ys,Nm y) (n1 : 1 <= n) (n60 : n <= 60) : ∃ d,zla [.lst (ys.map D.int),.int n] = some d /\ ∃ p : Prt,d = p.toD /\ p.Ok n.toNat /\ (nmP p).length <= 3:=by
 apply zf7
 unfold b_28
 show wp _ [.im (.lst (ys.map D.int)),.im (.int n),.no,.no,.no] _
 obtain ⟨a0,h0,e0⟩:=zce (f:=D.int) (xs:=ys) (i:=0) (by decide) (by omega)
 obtain ⟨a1,h1,e1⟩:=zce (f:=D.int) (xs:=ys) (i:=1) (by decide) (by omega)
 obtain ⟨a2,h2,e2⟩:=zce (f:=D.int) (xs:=ys) (i:=2) (by decide) (by omega)
 obtain ⟨a3,h3,e3⟩:=zce (f:=D.int) (xs:=ys) (i:=3) (by decide) (by omega)
 obtain ⟨wd,hwd,ew⟩:=zce (f:=D.str) (xs:=["in","out","in","least","most"]) (i:=a0 % 5) (Int.emod_nonneg _ (by decide)) (Int.emod_lt_of_pos _ (by decide))
 have hw2:=List.mem_of_getElem? hwd
 simp only [List.mem_cons,List.not_mem_nil,or_false] at hw2
 walk_at "set"
 apply zap
 walk_at "if0"
 ·intro hb
  have q0:=Int.emod_nonneg a1 (show n ≠ 0 by omega)
  have q1:=Int.emod_lt_of_pos a1 (show 0 < n by omega)
  walk_at "if0"
  apply zb0
  rcases hw2 with rfl | rfl | rfl | rfl | rfl
  ·exact ⟨.inn (a1 % n),rfl,⟨q0,by omega⟩,by show 1 <= 3; decide⟩
  ·exact ⟨.out (a1 % n),rfl,⟨q0,by omega⟩,by show 1 <= 3; decide⟩
  ·exact ⟨.inn (a1 % n),rfl,⟨q0,by omega⟩,by show 1 <= 3; decide⟩
  ·exact Bool.noConfusion (show false = true from hb)
  ·exact Bool.noConfusion (show false = true from hb)
 ·intro hb
  apply zb4
  walk_at "nrm"
  have t0 : 0 <= a2 % 4:=Int.emod_nonneg _ (by decide)
  have t1 : a2 % 4 < 4:=Int.emod_lt_of_pos _ (by decide)
  obtain ⟨its,ei,li,hin⟩:=z7d (ys:=ys) (n:=n) hy n1 (t:=(a2 % 4).toNat) (by omega) (by omega) (fi:=zdt (zab (m2 zbj (mIx (zaf 0) (fun _=>some (.int 2))) (fun _=>some (.int 4))) (fun _=>some []))) (ρ:=[.im (.lst (ys.map D.int)),.im (.int n),.im (.str wd),.no,.no]) (js:=[1,0]) (zft (by walk_at "ev") t0 (by omega)) rfl
  apply zap
  refine zbu (zbn ei) ?_
  walk_at "nrm"
  apply zap
  refine zbu (z24 (zdi (zbn (zht rfl rfl (hi:=some (a3 % 5)) (by unfold mPt; rw [show (m2 zbj (mIx (zaf 0) (fun _=>some (.int 3))) (fun _=>some (.int 5))) [.im (.lst (ys.map D.int)),.im (.int n),.im (.str wd),.im (.lst (its.map itD)),.no] = some (.int (a3 % 5)) by walk_at "ev"]; rfl))) rfl) (by rw [List.length_take,List.length_drop]; omega)) ?_
  walk_at "nrm"
  walk_at "if0"
  apply zb0
  have h3' : (its.map (·.1)).length <= 3:=by rw [List.length_map]; omega
  rcases hw2 with rfl | rfl | rfl | rfl | rfl
  ·exact Bool.noConfusion (show true = false from hb)
  ·exact Bool.noConfusion (show true = false from hb)
  ·exact Bool.noConfusion (show true = false from hb)
  ·exact ⟨.least _ its,rfl,⟨hin,by omega⟩,h3'⟩
  ·exact ⟨.most _ its,rfl,⟨hin,by omega⟩,h3'⟩
theorem zmq {f g : List Sl -> Option D} {ρ : List Sl} {a b : List D} (h : f ρ = some (.lst a)) (h' : g ρ = some (.lst b)) (hl : a.length + b.length <= 16777216) : zdd f g ρ = some (a ++ b):=by
 unfold zdd
 rw [h,h']
 show (if a.length + b.length <= 16777216 then some (a ++ b) else none) = _
 rw [if_pos hl]
theorem zvc {α : Type} {xs : List α} {a b : Nat} {x : α} (h : x ∈ (xs.drop a).take b) : x ∈ xs:=List.mem_of_mem_drop (List.mem_of_mem_take h)
theorem z6g (kind k on n : Int) (hk : 0 <= kind) (hk5 : kind < 5) (k0 : 0 <= k) (k1 : k < n) (o0 : 0 <= on) (o1 : on < n) : (atI [D.non,.tup [.str "in",.int k],.tup [.str "out",.int k],.tup [.str "least",.int 2,.lst [.tup [.int k,.int 2],.tup [.int on,.int 1]]],.tup [.str "most",.int 0,.lst [.tup [.int k,.int 1]]]] kind = some .non) \/ ∃ p : Prt,p.Ok n.toNat /\ atI [D.non,.tup [.str "in",.int k],.tup [.str "out",.int k],.tup [.str "least",.int 2,.lst [.tup [.int k,.int 2],.tup [.int on,.int 1]]],.tup [.str "most",.int 0,.lst [.tup [.int k,.int 1]]]] kind = some p.toD:=by
 have : kind = 0 \/ kind = 1 \/ kind = 2 \/ kind = 3 \/ kind = 4:=by omega
 rcases this with rfl | rfl | rfl | rfl | rfl
 ·exact .inl rfl
 ·exact .inr ⟨.inn k,⟨k0,by omega⟩,rfl⟩
 ·exact .inr ⟨.out k,⟨k0,by omega⟩,rfl⟩
 ·refine .inr ⟨.least 2 [(k,2),(on,1)],⟨fun z hz=>?_,by show 2 <= 100000; decide⟩,rfl⟩
  simp only [List.mem_cons,List.not_mem_nil,or_false] at hz
  rcases hz with rfl | rfl
  ·exact ⟨k0,by show k < _; omega,by show (0 : Int) <= 2; decide⟩
  ·exact ⟨o0,by show on < _; omega,by show (0 : Int) <= 1; decide⟩
 ·refine .inr ⟨.most 0 [(k,1)],⟨fun z hz=>?_,by show 1 <= 100000; decide⟩,rfl⟩
  have : z = (k,1):=by simpa using hz
  subst this
  exact ⟨k0,by show k < _; omega,by show (0 : Int) <= 1; decide⟩
theorem z2o (kind n : Int) (hk : 0 <= kind) (hk5 : kind < 5) (n0 : 0 <= n) (n60 : n <= 60) : ∃ rs : List Rul,znf [.int kind,.int n] = some (rs.map Rul.toD) /\ (∀ r ∈ rs,r.Ok n.toNat /\ r.ps.length <= 3) /\ rs.length <= 60:=by
 have h : wp b_18 (zei 6 [.int kind,.int n]) (fun o=>∃ rs : List Rul,o = .rtO (rs.map Rul.toD) /\ (∀ r ∈ rs,r.Ok n.toNat /\ r.ps.length <= 3) /\ rs.length <= 60):=by
  unfold b_18
  show wp _ [.im (.int kind),.im (.int n),.no,.no,.no,.no] _
  walk_at "set"
  apply zap
  refine zdg (List.range n.toNat) (fun (i : Nat)=>D.int i) (fun pre ρ=>∃ (rs : List Rul) (v3 v4 v5 : Sl),ρ = [.im (.int kind),.im (.int n),.own (rs.map Rul.toD),v3,v4,v5] /\ (∀ r ∈ rs,r.Ok n.toNat /\ r.ps.length <= 3) /\ rs.length <= pre.length)
   (zft (by walk_at "ev") n0 (by omega)) ⟨[],.no,.no,.no,rfl,(fun z hz=>nomatch hz),Nat.le_refl _⟩ ?_ ?_
  ·rintro pre i post ρ ex ⟨rs,v3,v4,v5,rfl,hrs,hl⟩
   have hi : i < n.toNat:=List.mem_range.mp (by rw [ex]; simp)
   have hpl : pre.length < n.toNat:=by
    have : pre.length < (List.range n.toNat).length:=by rw [ex]; simp
    simpa using this
   have hn : 0 < n:=by omega
   have q0:=Int.emod_nonneg ((i : Int) + 1) (show n ≠ 0 by omega)
   have q1:=Int.emod_lt_of_pos ((i : Int) + 1) hn
   refine ⟨_,rfl,?_⟩
   walk_at "nrm"
   walk_at "set"
   rcases z6g kind i (((i : Int) + 1) % n) n hk hk5 (by omega) (by omega) q0 q1 with e | ⟨p,hp,e⟩
   ·apply zap
    refine zbu (by walk_at "ev") ?_
    walk_at "nrm"
    refine zbt (b:=false) rfl (fun h=>by cases h) (fun _=>zb4 ?_)
    exact ⟨rs,_,_,_,rfl,hrs,by rw [List.length_append]; exact Nat.le_succ_of_le hl⟩
   ·apply zap
    refine zbu (by walk_at "ev") ?_
    walk_at "nrm"
    clear e
    have w0 : 0 <= (i : Int) * kind % 5 / 4:=Int.ediv_nonneg (Int.emod_nonneg _ (by decide)) (by decide)
    have w1 : (i : Int) * kind % 5 / 4 < 2:=by
     have:=Int.emod_lt_of_pos ((i : Int) * kind) (show (0 : Int) < 5 by decide)
     omega
    obtain ⟨w,hw,ew⟩:=zce (f:=fun w : Wrd=>D.str w.s) (xs:=[.make,.may]) (i:=(i : Int) * kind % 5 / 4) w0 w1
    refine zbt (b:=true) (zcq (zaz rfl rfl (by cases p <;> rfl))) (fun _=>?_) (fun h=>by cases h)
    refine zfv (zck (zae (zaq (by walk_at "ev") (by walk_at "ev") ew) (zae rfl (zae (zbn (zae rfl rfl)) rfl)))) rfl (by rw [List.length_map]; omega) ?_
    have hw2:=List.mem_of_getElem? hw
    simp only [List.mem_cons,List.not_mem_nil,or_false] at hw2
    refine ⟨rs ++ [⟨w,((i : Int) + 1) % n,[p]⟩],.im (.int i),.im (.int (((i : Int) + 1) % n)),.im p.toD,?_,fun r hr=>?_,by rw [List.length_append,List.length_append]; exact Nat.add_le_add_right hl 1⟩
    ·rw [List.map_append]
     rcases hw2 with rfl | rfl <;> rfl
    ·rcases List.mem_append.mp hr with h | h
     ·exact hrs r h
     ·have : r = ⟨w,((i : Int) + 1) % n,[p]⟩:=by simpa using h
      subst this
      refine ⟨⟨fun _=>⟨q0,by show ((i : Int) + 1) % n < _; omega⟩,fun q hq=>?_,by show 1 <= _; decide⟩,by show 1 <= 3; decide⟩
      have : q = p:=by simpa using hq
      subst this
      exact hp
  ·rintro ρ ⟨rs,v3,v4,v5,rfl,hrs,hl⟩
   rw [List.length_range] at hl
   exact zgw rfl ⟨rs,rfl,hrs,by omega⟩
 obtain ⟨o,e,rs,rfl,hrs,hl⟩:=h
 exact ⟨rs,z53 e,hrs,hl⟩
noncomputable def inS (xs : List Int) (i : Nat) : Bool:=xs.any fun x=>x == (i : Int)
theorem zwf (xs : List Int) (i : Nat) : dIn (.int i) (.lst (xs.map D.int)) = some (.bl (inS xs i)):=by
 unfold dIn inD
 show Option.map D.bl (if ((D.int i).scalar && (xs.map D.int).all D.scalar) = true then some ((xs.map D.int).any fun d=>eqX d (.int i)) else none) = _
 rw [if_pos (by rw [List.all_map]; exact (Bool.and_eq_true _ _).mpr ⟨rfl,List.all_eq_true.mpr fun _ _=>rfl⟩),List.any_map]
 rfl
theorem z5n (ks : List Key) (k j : Key) : zd5 (zeu ks k) j = (zd5 ks j || decide (k = j)):=by
 unfold zeu
 by_cases e : zd5 ks k = true
 ·rw [if_pos e]
  by_cases h : k = j
  ·subst h; rw [e]; rfl
  ·rw [decide_eq_false h,Bool.or_false]
 ·rw [if_neg e]
  unfold zd5
  rw [List.any_append]
  simp
theorem z59 (ks : List Key) (k : Key) : (zeu ks k).length <= ks.length + 1:=by
 unfold zeu
 split
 ·omega
 ·rw [List.length_append]; exact Nat.le_refl _
theorem z6p {i : Nat} {fk fv : List Sl -> Option D} {ρ : List Sl} {d x : D} {k : Key} {ks : List Key} {xs : List D} (h1 : fv ρ = some d) (h2 : fk ρ = some x) (h3 : zi3 x = some k) (h4 : ρ[i]? = some (.ownd ks xs)) (hl : ks.length < 16777216) :
  zhg i fk fv ρ = some (.nx (ρ.set i (.ownd (zeu ks k) (zff ks xs k d)))):=by
 unfold zhg
 rw [h1,Option.bind_some,h2,Option.bind_some,h3,Option.bind_some,h4]
 show (if ks.length < 16777216 then _ else none) = _
 rw [if_pos hl]
theorem zt9 (n : Int) (xs : List Int) (n0 : 0 <= n) (n1 : n <= 60) (hl : xs.length <= 63) : m_8 [.int n,.lst (xs.map D.int)] = some (.lst (((List.range n.toNat).map (inS xs)).map D.bl)):=by
 obtain ⟨ρ',e,ks,ds,s3,rfl,hk,hh⟩:=z6m (g:=zar 3) (F:=zhg 2 (zaa 3) (fun _=>some (.bl true))) (fi:=zbh (zaa 1)) (ρ:=[.im (.int n),.im (.lst (xs.map D.int)),.ownd [] [],.no]) xs D.int
  (fun pre ρ=>∃ (ks : List Key) (ds : List D) (s3 : Sl),ρ = [.im (.int n),.im (.lst (xs.map D.int)),.ownd ks ds,s3] /\ ks.length <= pre.length /\ ∀ k : Int,zd5 ks (.inl k) = pre.any fun x=>x == k)
  rfl ⟨[],[],.no,rfl,Nat.le_refl _,fun _=>rfl⟩ (by
   rintro pre x post ρ ex ⟨ks,ds,s3,rfl,hk,hh⟩
   have hp : pre.length < xs.length:=by rw [ex]; simp
   refine ⟨_,_,rfl,.inl (z6p (ks:=ks) (xs:=ds) (k:=.inl x) rfl rfl rfl rfl (by omega)),zeu ks (.inl x),_,_,rfl,?_,fun k=>?_⟩
   ·have:=z59 ks (.inl x)
    rw [List.length_append]
    show _ <= pre.length + 1
    omega
   ·rw [z5n,hh,List.any_append]
    congr 1
    rw [List.any_cons,List.any_nil,Bool.or_false]
    by_cases h : x = k
    ·subst h; simp
    ·rw [decide_eq_false (fun q=>h (Sum.inl.inj q))]
     exact (beq_eq_false_iff_ne.mpr h).symm)
 refine zns (zcy rfl (zcy e ?_))
 show Option.map Fl.rtO (zbl _ _ _ _ _ _ [.im (.int n),.im (.lst (xs.map D.int)),.im (.dic ks ds),s3]) = _
 rw [List.map_map]
 refine congrArg (Option.map Fl.rtO) (zdn (List.range n.toNat) (fun (i : Nat)=>D.int i) _ (zft rfl n0 (by omega)) (by rw [List.length_range]; omega) fun j hj=>?_)
 refine zda rfl rfl (zaz (x:=.int j) (y:=.dic ks ds) rfl rfl ?_)
 show some (D.bl (zd5 ks (.inl (j : Int)))) = _
 rw [hh]
 rfl
theorem z14 (p : Prt) : zok [p.toD] = some p.obj:=by
 cases p <;> rfl
theorem zup {es : List (Option Bool)} {its : List (Int × Int)} (h : InN es.length its) (hz : its.length <= 100000) : zmc [.lst (its.map itD),.lst (es.map shD)] = some (.int (ze8 (· == some true) es its)):=by
 refine zb8 (zcj (zav (zae (zbn (zgx its itD (fun z=>es.getD z.1.toNat none == some true) (fun z=>D.int z.2) rfl (by omega) fun z hz'=>?_)) rfl) (zk8 (fun t=>es.getD t.toNat none == some true) its)))
 exact zgf rfl (zcq (zaz (zaq rfl rfl (zd6 (h z hz').1 (h z hz').2.1)) rfl (zgb _ _))) fun _=>rfl
theorem zry {es : List (Option Bool)} {its : List (Int × Int)} (h : InN es.length its) (hz : its.length <= 100000) : zkd [.lst (its.map itD),.lst (es.map shD)] = some (.int (ze8 (fun e=>!(e == some false)) es its)):=by
 refine zb8 (zcj (zav (zae (zbn (zgx its itD (fun z=>!(es.getD z.1.toNat none == some false)) (fun z=>D.int z.2) rfl (by omega) fun z hz'=>?_)) rfl) (zk8 (fun t=>!(es.getD t.toNat none == some false)) its)))
 exact zgf rfl (zcq (zaz (zaq rfl rfl (zd6 (h z hz').1 (h z hz').2.1)) rfl (zle _ _))) fun _=>rfl
theorem z7k {es : List (Option Bool)} {ws : List Bool} {its : List (Int × Int)} (h : InN es.length its) (hw : ws.length = es.length) (hz : its.length <= 100000) :
  znb [.lst (its.map itD),.lst (ws.map D.bl)] = some (.lst ((its.filter fun z=>!(ws.getD z.1.toNat false)).map itD)):=by
 refine zns (congrArg (Option.map Fl.rtO) (zgx its itD (fun z=>!(ws.getD z.1.toNat false)) itD rfl (by omega) fun z hz'=>?_))
 have hb:=h z hz'
 exact zgf rfl (zfy (zes (zaq rfl rfl (zgm hb.1 (by rw [hw]; exact hb.2.1))) rfl)) fun _=>rfl
theorem z4f {es : List (Option Bool)} {ws : List Bool} {its : List (Int × Int)} (h : InN es.length its) (hz : its.length <= 100000) :
  zkd [.lst ((its.filter fun z=>!(ws.getD z.1.toNat false)).map itD),.lst (es.map shD)] = some (.int (zdx (fun t=>!(es.getD t.toNat none == some false) && !(ws.getD t.toNat false)) its)):=by
 have hl:=List.length_filter_le (fun z : Int × Int=>!(ws.getD z.1.toNat false)) its
 have hin : InN es.length (its.filter fun z=>!(ws.getD z.1.toNat false)):=fun z hz'=>h z (List.mem_filter.mp hz').1
 refine (zry hin (by omega)).trans ?_
 rw [zu5]
 exact congrArg (fun z=>some (D.int z)) (z1i (fun t=>!(es.getD t.toNat none == some false)) (fun t=>!(ws.getD t.toNat false)) its)
theorem zz0 {es : List (Option Bool)} {ws : List Bool} (p : Prt) (h : p.Ok es.length) (hw : ws.length = es.length) : ∀ m,m = (match p with | .inn _=>m_13 | .out _=>m_14 | .least _ _=>m_15 | .most _ _=>m_16) ->
  m [p.obj,.lst (es.map shD),.lst (ws.map D.bl)] = some (.bl (p.lost es ws)):=by
 intro m e
 subst e
 cases p with
 | inn t=>exact zb8 (zcj (zqm (zaz (zaq rfl rfl (zd6 h.1 h.2)) rfl (zgb _ _)) (zaq rfl rfl (zgm h.1 (by rw [hw]; exact h.2)))))
 | out t=>exact zb8 (zcj (zaz (zaq rfl rfl (zd6 h.1 h.2)) rfl (zgb _ _)))
 | least k its=>exact zb8 (zcj (zaz (zav (zae (zav rfl (z7k h.1 hw h.2)) (zae rfl rfl)) (z4f h.1 h.2)) rfl rfl))
 | most k its=>exact zb8 (zcj (zaz (zav rfl (zup h.1 h.2)) rfl rfl))
theorem z0b {es : List (Option Bool)} {ws : List Bool} {fo : List Sl -> Option D} {fa : List Sl -> Option (List D)} {ρ : List Sl} (p : Prt) (h : p.Ok es.length) (hw : ws.length = es.length) (ho : fo ρ = some p.obj) (ha : fa ρ = some [.lst (es.map shD),.lst (ws.map D.bl)]) :
  zdk (zc0 "In" "lost" m_13 fo fa) (zdk (zc0 "Out" "lost" m_14 fo fa) (zdk (zc0 "Least" "lost" m_15 fo fa) (zc0 "Most" "lost" m_16 fo fa))) ρ = some (.bl (p.lost es ws)):=by
 have hm:=zz0 (ws:=ws) p h hw _ rfl
 cases p with
 | inn t=>exact zjb ((zgr ho rfl ha).trans hm)
 | out t=>exact zfc (zfb ho (by decide)) (zjb ((zgr ho rfl ha).trans hm))
 | least k its=>exact zfc (zfb ho (by decide)) (zfc (zfb ho (by decide)) (zjb ((zgr ho rfl ha).trans hm)))
 | most k its=>exact zfc (zfb ho (by decide)) (zfc (zfb ho (by decide)) (zfc (zfb ho (by decide)) ((zgr ho rfl ha).trans hm)))
theorem z8f {es : List (Option Bool)} {fo : List Sl -> Option D} {fa : List Sl -> Option (List D)} {ρ : List Sl} (p : Prt) (h : p.Ok es.length) (ho : fo ρ = some p.obj) (ha : fa ρ = some [.lst (es.map shD)]) :
  zdk (zc0 "In" "sure" m_20 fo fa) (zdk (zc0 "Out" "sure" m_21 fo fa) (zdk (zc0 "Least" "sure" m_22 fo fa) (zc0 "Most" "sure" m_23 fo fa))) ρ = some (.bl (p.sure es)):=by
 cases p with
 | inn t=>exact zjb ((zgr ho rfl ha).trans (zb8 (zcj (zaz (zaq rfl rfl (zd6 h.1 h.2)) rfl (zgb _ _)))))
 | out t=>exact zfc (zfb ho (by decide)) (zjb ((zgr ho rfl ha).trans (zb8 (zcj (zaz (zaq rfl rfl (zd6 h.1 h.2)) rfl (zgb _ _))))))
 | least k its=>exact zfc (zfb ho (by decide)) (zfc (zfb ho (by decide)) (zjb ((zgr ho rfl ha).trans (zb8 (zcj (zaz (zav rfl (zup h.1 h.2)) rfl rfl))))))
 | most k its=>exact zfc (zfb ho (by decide)) (zfc (zfb ho (by decide)) (zfc (zfb ho (by decide)) ((zgr ho rfl ha).trans (zb8 (zcj (zaz (zav rfl (zry h.1 h.2)) rfl rfl))))))
theorem zvb {n : Nat} (r : Rul) (h : r.Ok n) : zli [r.toD] = some (.lst (r.ps.map Prt.obj)) :=
 zns (congrArg (Option.map Fl.rtO) (zdn r.ps Prt.toD Prt.obj rfl (by have:=h.len; omega) fun p _=>zda rfl rfl (zav rfl (z14 p))))
theorem z26 {es : List (Option Bool)} {ws : List Bool} (r : Rul) (h : r.Ok es.length) (hw : ws.length = es.length) : zpv [r.toD,.lst (es.map shD),.lst (ws.map D.bl)] = some (.bl (r.bodyLost es ws)):=by
 refine zb8 (zcj (zav (zae (zbn (zdn r.ps Prt.obj (fun p=>D.bl (p.lost es ws)) (zdi (zav rfl (zvb r h)) rfl) (by have:=h.len; omega) fun p hp=>?_)) rfl) (any_map _ _)))
 exact zda rfl rfl (z0b p (h.ps p hp) hw rfl rfl)
theorem z4u {es : List (Option Bool)} (r : Rul) (h : r.Ok es.length) : zpw [r.toD,.lst (es.map shD)] = some (.bl (r.bodySure es)):=by
 refine zb8 (zcj (zav (zae (zbn (zdn r.ps Prt.obj (fun p=>D.bl (p.sure es)) (zdi (zav rfl (zvb r h)) rfl) (by have:=h.len; omega) fun p hp=>?_)) rfl) (all_map _ _)))
 exact zda rfl rfl (z8f p (h.ps p hp) rfl rfl)
theorem z3r {es : List (Option Bool)} (r : Rul) (h : r.Ok es.length) : zqf [r.toD,.lst (es.map shD)] = some (.bl (r.surely es)):=by
 have hb:=z4u r h
 have hh:=h.hd
 obtain ⟨w,hd,ps⟩:=r
 cases w with
 | may=>exact zb8 (zfs (zfh rfl rfl))
 | never=>exact zb8 (zcy (zc9 rfl rfl) (zcy (zc9 (zmu rfl) rfl) (zcj (zav rfl hb))))
 | make =>
  obtain ⟨h0,h1⟩:=hh (fun z=>by cases z)
  have e : mB (m2 zel (mIx (zaf 1) (mIx (zaf 0) (fun _=>some (.int 1)))) (fun _=>some (.bl false))) [.im (Rul.toD ⟨.make,hd,ps⟩),.im (.lst (es.map shD))] = some (!(es.getD hd.toNat none == some false)) :=
   zcq (zaz (zaq rfl rfl (zd6 h0 h1)) rfl (zle _ _))
  cases hc : (es.getD hd.toNat none == some false) with
  | true =>
   rw [hc] at e
   refine (zb8 (zcy (zc9 rfl rfl) (zcy (zc9 (zjg rfl e) rfl) (zcj (zav rfl hb))))).trans ?_
   show _ = some (D.bl ((es.getD hd.toNat none == some false) && _))
   rw [hc]
   rfl
  | false =>
   rw [hc] at e
   refine (zb8 (zcy (zc9 rfl rfl) (zfs (zfh (zjg rfl e) rfl)))).trans ?_
   show _ = some (D.bl ((es.getD hd.toNat none == some false) && _))
   rw [hc]
   rfl
noncomputable def plD (n : Int) (rs : List Rul) : D:=.tup [.int n,.lst (rs.map Rul.toD)]
noncomputable def hup (es : List (Option Bool)) (wo : List Bool) (r : Rul) : Bool:=r.w != .never && (wo.getD r.hd.toNat false && !(r.bodyLost es wo))
theorem z4d {r : Rul} (h : r.w ≠ .never) : atI [.str r.w.s,r.hdD,.lst (r.ps.map Prt.toD)] 1 = some (.int r.hd):=by
 obtain ⟨w,hd,ps⟩:=r
 cases w <;> first | rfl | exact absurd rfl h
theorem zzj {r : Rul} (h : r.w = .never) : atI [.str r.w.s,r.hdD,.lst (r.ps.map Prt.toD)] 1 = some .non:=by
 obtain ⟨w,hd,ps⟩:=r
 cases h
 rfl
theorem z2s {r : Rul} (h : r.w ≠ .never) : (r.w != .never) = true:=by
 obtain ⟨w,hd,ps⟩:=r
 cases w <;> first | rfl | exact absurd rfl h
theorem z67 {es : List (Option Bool)} {wo : List Bool} (r : Rul) (h : r.Ok es.length) (hw : wo.length = es.length) : zor [r.toD,.lst (es.map shD),.lst (wo.map D.bl)] = some (.bl (hup es wo r)):=by
 have el:=z26 (ws:=wo) r h hw
 apply zd3
 unfold b_36
 show wp _ [.im r.toD,.im (.lst (es.map shD)),.im (.lst (wo.map D.bl)),.no] _
 by_cases hn : r.w = .never
 ·apply zap
  refine zbu (d:=.non) (zaq rfl rfl (zzj hn)) ?_
  walk_at "nrm"
  refine zch (d:=.bl false) (by unfold zec; rfl) (zb0 ?_)
  unfold hup
  rw [hn]
  rfl
 ·obtain ⟨h0,h1⟩:=h.hd hn
  apply zap
  refine zbu (d:=.int r.hd) (zaq rfl rfl (z4d hn)) ?_
  walk_at "nrm"
  refine zch (zhh (a:=true) rfl (zhh (zaq rfl rfl (zgm h0 (by omega))) (zmo (zav rfl el)))) (zb0 ?_)
  unfold hup
  rw [z2s hn]
noncomputable def ct (bs : List Bool) : Nat:=(bs.filter fun b=>b).length
theorem z20 (rs : List Rul) (hz : rs.length <= 1000) (hp : ∀ r ∈ rs,r.ps.length <= 1000) : zn8 [.lst (rs.map Rul.toD)] = some (.lst (rs.map Rul.toD)):=by
 apply zd3
 unfold b_11
 show wp _ [.im (.lst (rs.map Rul.toD)),.no,.no,.no,.no,.no,.no] _
 walk_at "set"
 apply zap
 refine zdg rs Rul.toD (fun pre ρ=>∃ v2 v3 v4 v5 v6,ρ = [.im (.lst (rs.map Rul.toD)),.own (pre.map Rul.toD),v2,v3,v4,v5,v6]) rfl ⟨_,_,_,_,_,rfl⟩ ?_ ?_
 ·rintro pre r post ρ ex ⟨v2,v3,v4,v5,v6,rfl⟩
  have hr : r ∈ rs:=by rw [ex]; simp
  have hpl : pre.length < rs.length:=by rw [ex]; simp
  have hp:=hp r hr
  refine ⟨_,rfl,?_⟩
  walk_at "nrm"
  apply zap
  refine zeq (d:=[]) rfl ?_
  walk_at "nrm"
  apply zap
  refine zdg r.ps Prt.toD (fun pr ρ=>∃ v6,ρ = [.im (.lst (rs.map Rul.toD)),.own (pre.map Rul.toD),.im (.str r.w.s),.im r.hdD,.im (.lst (r.ps.map Prt.toD)),.own (pr.map Prt.toD),v6]) rfl ⟨_,rfl⟩ ?_ ?_
  ·rintro pr p po ρ ex2 ⟨v6,rfl⟩
   have hpp : pr.length < r.ps.length:=by rw [ex2]; simp
   refine ⟨_,rfl,?_⟩
   walk_at "nrm"
   refine zt8 (fun ρ'=>ρ' = [.im (.lst (rs.map Rul.toD)),.own (pre.map Rul.toD),.im (.str r.w.s),.im r.hdD,.im (.lst (r.ps.map Prt.toD)),.own (pr.map Prt.toD),.im p.toD]) ?_ ?_
   ·cases p with
    | inn t=>exact zbt (b:=false) rfl (fun z=>by cases z) (fun _=>zb4 (k_J rfl))
    | out t=>exact zbt (b:=false) rfl (fun z=>by cases z) (fun _=>zb4 (k_J rfl))
    | least k its=>exact zbt (b:=true) rfl (fun _=>zbu (zck (zae (zaq rfl rfl rfl) (zae (zaq rfl rfl rfl) (zae (zbn (zdi (zaq rfl rfl rfl) rfl)) rfl)))) (k_J rfl)) (fun z=>by cases z)
    | most k its=>exact zbt (b:=true) rfl (fun _=>zbu (zck (zae (zaq rfl rfl rfl) (zae (zaq rfl rfl rfl) (zae (zbn (zdi (zaq rfl rfl rfl) rfl)) rfl)))) (k_J rfl)) (fun z=>by cases z)
   ·rintro ρ' rfl
    refine zfv rfl rfl (by rw [List.length_map]; omega) ?_
    exact ⟨.im p.toD,by rw [List.map_append]; rfl⟩
  ·rintro ρ ⟨v6,rfl⟩
   refine ze3 rfl ?_
   refine zfv (zck (zae rfl (zae rfl (zae rfl rfl)))) rfl (by rw [List.length_map]; omega) ?_
   exact ⟨.im (.str r.w.s),.im r.hdD,.im (.lst (r.ps.map Prt.toD)),.im (.lst (r.ps.map Prt.toD)),v6,by rw [List.map_append]; rfl⟩
 ·rintro ρ ⟨v2,v3,v4,v5,v6,rfl⟩
  exact zgw rfl (zg1 rfl)
theorem z7y {es : List (Option Bool)} (p : Prt) (h : p.Ok es.length) : zlr [p.toD,.lst (es.map shD)] = some (.bl (p.sure es)):=by
 cases p with
 | inn t=>exact zb8 (zfs (zfh rfl (zcj (zaz (zaq rfl (zaq rfl rfl rfl) (zd6 h.1 h.2)) rfl (zgb _ _)))))
 | out t=>exact zb8 (zcy (zc9 rfl rfl) (zfs (zfh rfl (zcj (zaz (zaq rfl (zaq rfl rfl rfl) (zd6 h.1 h.2)) rfl (zgb _ _))))))
 | least k its =>
  refine zb8 (zcy (zc9 rfl rfl) (zcy (zc9 rfl rfl) (zfs (zfh rfl (zcj (zaz (zav (zae (zbn (zgx its itD (fun z=>es.getD z.1.toNat none == some true) (fun z=>D.int z.2) (zdi (zaq rfl rfl rfl) rfl) (by have:=h.2; omega) fun z hz=>?_)) rfl) (zk8 (fun t=>es.getD t.toNat none == some true) its)) (zaq rfl rfl rfl) rfl))))))
  have hb:=h.1 z hz
  exact zgf rfl (zcq (zaz (zaq rfl rfl (zd6 hb.1 hb.2.1)) rfl (zgb _ _))) fun _=>rfl
 | most k its =>
  refine zb8 (zcy (zc9 rfl rfl) (zcy (zc9 rfl rfl) (zcy (zc9 rfl rfl) (zcj (zaz (zav (zae (zbn (zgx its itD (fun z=>!(es.getD z.1.toNat none == some false)) (fun z=>D.int z.2) (zdi (zaq rfl rfl rfl) rfl) (by have:=h.2; omega) fun z hz=>?_)) rfl) (zk8 (fun t=>!(es.getD t.toNat none == some false)) its)) (zaq rfl rfl rfl) rfl)))))
  have hb:=h.1 z hz
  exact zgf rfl (zcq (zaz (zaq rfl rfl (zd6 hb.1 hb.2.1)) rfl (zle _ _))) fun _=>rfl
theorem ztb {es : List (Option Bool)} (r : Rul) (h : r.Ok es.length) : zkv [r.toD,.lst (es.map shD)] = some (.bl (r.surely es)):=by
 have hb : ∀ ρ : List Sl,ρ = [.im r.toD,.im (.lst (es.map shD))] -> (zao zfq (zab (zan (zbl 1 [1] (zbh (mIx (zaf 0) (fun _=>some (.int 2)))) (zar 0) (fun _=>some true) (zao zlr (zab (zaa 0) (zab (zaa 1) (fun _=>some [])))))) (fun _=>some []))) ρ = some (.bl (r.bodySure es)):=fun ρ e=>by
  subst e
  exact zav (zae (zbn (zdn r.ps Prt.toD (fun p=>D.bl (p.sure es)) (zdi (zaq rfl rfl rfl) rfl) (by have:=h.len; omega) fun p hp=>zda rfl rfl (zav rfl (z7y p (h.ps p hp))))) rfl) (all_map _ _)
 have hh:=h.hd
 have hb:=hb _ rfl
 obtain ⟨w,hd,ps⟩:=r
 cases w with
 | may=>exact zb8 (zfs (zfh (zts rfl) rfl))
 | never=>exact zb8 (zcy (zc9 (zkk rfl (zmu rfl)) rfl) (zcj hb))
 | make =>
  obtain ⟨h0,h1⟩:=hh (fun z=>by cases z)
  have e : mB (m2 zel (mIx (zaf 1) (mIx (zaf 0) (fun _=>some (.int 1)))) (fun _=>some (.bl false))) [.im (Rul.toD ⟨.make,hd,ps⟩),.im (.lst (es.map shD))] = some (!(es.getD hd.toNat none == some false)) :=
   zcq (zaz (zaq rfl (zaq rfl rfl rfl) (zd6 h0 h1)) rfl (zle _ _))
  cases hc : (es.getD hd.toNat none == some false) with
  | true =>
   rw [hc] at e
   refine (zb8 (zcy (zc9 (zkk rfl (zjg rfl e)) rfl) (zcj hb))).trans ?_
   show _ = some (D.bl ((es.getD hd.toNat none == some false) && _))
   rw [hc]
   rfl
  | false =>
   rw [hc] at e
   refine (zb8 (zfs (zfh (zkk rfl (zjg rfl e)) rfl))).trans ?_
   show _ = some (D.bl ((es.getD hd.toNat none == some false) && _))
   rw [hc]
   rfl
theorem zrn {α : Type} (f : α -> Bool) (xs : List α) : zfq [.lst (xs.map fun x=>D.bl (f x))] = some (.bl (xs.all f)):=by
 have e : (xs.map fun x=>D.bl (f x)) = (xs.map f).map D.bl:=by rw [List.map_map]; rfl
 rw [e]
 show (zd4 ((xs.map f).map D.bl)).map (fun bs=>D.bl (bs.all id)) = _
 rw [zmn,Option.map_some,List.all_map]
 rfl
theorem zpb {α : Type} (f : α -> Bool) (xs : List α) : zf6 [.lst (xs.map fun x=>D.bl (f x))] = some (.bl (xs.any f)):=by
 have e : (xs.map fun x=>D.bl (f x)) = (xs.map f).map D.bl:=by rw [List.map_map]; rfl
 rw [e]
 show (zd4 ((xs.map f).map D.bl)).map (fun bs=>D.bl (bs.any id)) = _
 rw [zmn,Option.map_some,List.any_map]
 rfl
theorem zvw (e : Option Bool) (b : Bool) : dEq (shD e) (.bl b) = some (.bl (e == some b)):=by
 cases e with
 | none=>cases b <;> rfl
 | some c=>cases b <;> cases c <;> rfl
theorem zx6 (e : Option Bool) : zel (shD e) .non = some (.bl e.isSome):=by cases e <;> rfl
noncomputable def brD (z : Int × Bool) : D:=.tup [.int z.1,.bl z.2]
noncomputable def zhi (n : Nat) (zs : List (Int × Bool)) : Prop:=(∀ z ∈ zs,0 <= z.1 /\ z.1 < (n : Int)) /\ zs.length <= 60
noncomputable def zfe (n : Nat) (xs : List Int) : Prop:=(∀ x ∈ xs,0 <= x /\ x < (n : Int)) /\ xs.length <= 63
noncomputable def ztl (es : List (Option Bool)) (zs : List (Int × Bool)) : Bool:=zs.all fun z=>es.getD z.1.toNat none == some z.2
theorem z7c {es : List (Option Bool)} {zs : List (Int × Bool)} (h : zhi es.length zs) : zpi [.lst (es.map shD),.lst (zs.map brD)] = some (.bl (ztl es zs)) :=
 zb8 (zcj (zav (zae (zbn (zdn zs brD (fun z=>D.bl (es.getD z.1.toNat none == some z.2)) rfl (by have:=h.2; omega) fun z hz=>zda rfl rfl (zaz (zaq rfl rfl (zd6 (h.1 z hz).1 (h.1 z hz).2)) rfl (zvw _ _)))) rfl) (zrn _ _)))
theorem z38 {es : List (Option Bool)} {wo : List Bool} {r : Rul} (h : hup es wo r = true) : r.w ≠ .never /\ wo.getD r.hd.toNat false = true:=by
 unfold hup at h
 have h' : r.w ≠ .never /\ wo.getD r.hd.toNat false = true /\ r.bodyLost es wo = false:=by simpa using h
 exact ⟨h'.1,h'.2.1⟩
theorem z08 (cm : Bool) (c n : Int) (n0 : 0 <= n) (n60 : n <= 60) : ∃ d,zph [.int c,.int n,.bl cm] = some d /\ ∃ r : Rul,d = r.toD /\ r.Ok n.toNat /\ r.ps.length <= 3:=by
 apply zf7
 unfold b_34
 show wp _ [.im (.int c),.im (.int n),.im (.bl cm),.no,.no] _
 obtain ⟨d,em,xs,rfl,hl,hx⟩:=zoe c 33 (by decide) (by decide)
 have hl' : xs.length = 33:=by omega
 obtain ⟨a0,h0,e0⟩:=zce (f:=D.int) (xs:=xs) (i:=0) (by decide) (by omega)
 obtain ⟨a1,h1,e1⟩:=zce (f:=D.int) (xs:=xs) (i:=1) (by decide) (by omega)
 obtain ⟨a2,h2,e2⟩:=zce (f:=D.int) (xs:=xs) (i:=2) (by decide) (by omega)
 walk_at "set"
 apply zap
 walk_at "if0"
 ·intro hb
  have hn : n = 0:=by simpa using hb
  subst hn
  obtain ⟨wd,hwd,ew⟩:=zce (f:=D.str) (xs:=["least","most"]) (i:=a0 % 2) (Int.emod_nonneg _ (by decide)) (Int.emod_lt_of_pos _ (by decide))
  have hw2:=List.mem_of_getElem? hwd
  simp only [List.mem_cons,List.not_mem_nil,or_false] at hw2
  obtain ⟨p,ep,hp⟩ : ∃ p : Prt,p.toD = .tup [.str wd,.int (a1 % 3 - 1),.lst []] /\ p.Ok 0:=by
   rcases hw2 with rfl | rfl
   ·exact ⟨.least (a1 % 3 - 1) [],rfl,⟨(fun z hz=>nomatch hz),by decide⟩⟩
   ·exact ⟨.most (a1 % 3 - 1) [],rfl,⟨(fun z hz=>nomatch hz),by decide⟩⟩
  have es : mSl (zan (zab (zbe (zab (mIx (zab (fun _=>some (.str "least")) (zab (fun _=>some (.str "most")) (fun _=>some []))) (m2 zbj (mIx (zaf 3) (fun _=>some (.int 0))) (fun _=>some (.int 2)))) (zab (m2 zf4 (m2 zbj (mIx (zaf 3) (fun _=>some (.int 1))) (fun _=>some (.int 3))) (fun _=>some (.int 1))) (zab (zan (fun _=>some [])) (fun _=>some []))))) (fun _=>some []))) (fun _=>some none) (mPt (m2 zbj (mIx (zaf 3) (fun _=>some (.int 2))) (fun _=>some (.int 6)))) [.im (.int c),.im (.int 0),.im (.bl cm),.im (.lst (xs.map D.int)),.no] = some ((([p].drop (HT.sIx [p].length 0 none)).take (HT.sIx [p].length [p].length (some (a2 % 6)) - HT.sIx [p].length 0 none)).map Prt.toD):=by
   refine zht (xs:=[p]) (g:=Prt.toD) ?_ rfl ?_
   ·rw [List.map_cons,List.map_nil,ep]
    walk_at "ev"
   ·unfold mPt
    rw [show (m2 zbj (mIx (zaf 3) (fun _=>some (.int 2))) (fun _=>some (.int 6))) [.im (.int c),.im (.int 0),.im (.bl cm),.im (.lst (xs.map D.int)),.no] = some (.int (a2 % 6)) by walk_at "ev"]
    rfl
  refine zch (zck (zae rfl (zae rfl (zae (zbn es) rfl)))) (zb0 ⟨⟨.never,0,_⟩,rfl,⟨fun h=>absurd rfl h,fun q hq=>?_,?_⟩,?_⟩)
  ·have : q = p:=by simpa using zvc hq
   rw [this]
   exact hp
  ·show (List.take _ (List.drop _ [p])).length <= _
   rw [List.length_take,List.length_drop]
   show min _ (1 - _) <= _
   omega
  ·show (List.take _ (List.drop _ [p])).length <= _
   rw [List.length_take,List.length_drop]
   show min _ (1 - _) <= _
   omega
 ·intro hb
  have hn : n ≠ 0:=by simpa using hb
  have n1 : 1 <= n:=by omega
  apply zb4
  walk_at "nrm"
  obtain ⟨t,ht,et⟩:=zce (f:=D.int) (xs:=[1,1,2,2,3,0]) (i:=a0 % 6) (Int.emod_nonneg _ (by decide)) (Int.emod_lt_of_pos _ (by decide))
  have t3 : 0 <= t /\ t <= 3:=by
   have : ∀ x ∈ ([1,1,2,2,3,0] : List Int),0 <= x /\ x <= 3:=by decide
   exact this t (List.mem_of_getElem? ht)
  obtain ⟨ps,ep,lp,hp⟩:=zt4 (k:=1) (js:=[1,3]) (fi:=(zdt (zab (mIx (zab (fun _=>some (.int 1)) (zab (fun _=>some (.int 1)) (zab (fun _=>some (.int 2)) (zab (fun _=>some (.int 2)) (zab (fun _=>some (.int 3)) (zab (fun _=>some (.int 0)) (fun _=>some []))))))) (m2 zbj (mIx (zaf 3) (fun _=>some (.int 0))) (fun _=>some (.int 6)))) (fun _=>some [])))) (g:=zar 0) (ft:=fun _=>some true) (fe:=(zao zla (zab (zan (mSl (zaa 2) (mPt (m2 zb7 (fun _=>some (.int 3)) (m2 zcn (fun _=>some (.int 10)) (zaa 0)))) (mPt (m2 zb7 (fun _=>some (.int 13)) (m2 zcn (fun _=>some (.int 10)) (zaa 0)))))) (zab (zaa 1) (fun _=>some []))))) (ρ:=[.im (.int c),.im (.int n),.im (.bl cm),.im (.lst (xs.map D.int)),.no]) (List.range t.toNat) (fun (i : Nat)=>D.int i) Prt.toD (fun p=>p.Ok n.toNat) (zft (by walk_at "ev") t3.1 (by omega)) (by rw [List.length_range]; omega) fun i hi=>by
   have hi:=List.mem_range.mp hi
   have es : mSl (zaa 2) (mPt (m2 zb7 (fun _=>some (.int 3)) (m2 zcn (fun _=>some (.int 10)) (zaa 0)))) (mPt (m2 zb7 (fun _=>some (.int 13)) (m2 zcn (fun _=>some (.int 10)) (zaa 0)))) [.im (.int i),.im (.int n),.im (.lst (xs.map D.int))] = some ((((xs.drop (HT.sIx xs.length 0 (some (3 + 10 * (i : Int)))))).take (HT.sIx xs.length xs.length (some (13 + 10 * (i : Int))) - HT.sIx xs.length 0 (some (3 + 10 * (i : Int))))).map D.int):=by
    refine zht rfl ?_ ?_
    ·unfold mPt
     rw [show (m2 zb7 (fun _=>some (.int 3)) (m2 zcn (fun _=>some (.int 10)) (zaa 0))) [.im (.int i),.im (.int n),.im (.lst (xs.map D.int))] = some (.int (3 + 10 * (i : Int))) by walk_at "ev"]
     rfl
    ·unfold mPt
     rw [show (m2 zb7 (fun _=>some (.int 13)) (m2 zcn (fun _=>some (.int 10)) (zaa 0))) [.im (.int i),.im (.int n),.im (.lst (xs.map D.int))] = some (.int (13 + 10 * (i : Int))) by walk_at "ev"]
     rfl
   obtain ⟨d,ed,p,rfl,hp,_⟩:=z0k ((xs.drop (HT.sIx xs.length 0 (some (3 + 10 * (i : Int))))).take (HT.sIx xs.length xs.length (some (13 + 10 * (i : Int))) - HT.sIx xs.length 0 (some (3 + 10 * (i : Int))))) n (by
    rw [List.length_take,List.length_drop,show (3 + 10 * (i : Int)) = ((3 + 10 * i : Nat) : Int) by omega,show (13 + 10 * (i : Int)) = ((13 + 10 * i : Nat) : Int) by omega,HT.sIx_nat,HT.sIx_nat]
    omega) (fun y hy=>hx y (zvc hy)) n1 n60
   exact ⟨p,hp,zda rfl rfl (zav (zae (zbn es) (zae rfl rfl)) ed)⟩
  rw [List.length_range] at lp
  apply zap
  refine zbu (zbn ep) ?_
  walk_at "nrm"
  have eN : (m2 dNe (zaa 4) (zan (fun _=>some []))) [.im (.int c),.im (.int n),.im (.bl cm),.im (.lst (xs.map D.int)),.im (.lst (ps.map Prt.toD))] = some (.bl (!ps.isEmpty)):=zaz rfl rfl (zrl _ _)
  apply zap
  walk_at "if0"
  ·intro _
   walk_at "if0"
   exact zb0 ⟨⟨.never,0,ps⟩,rfl,⟨fun h=>absurd rfl h,hp,by show ps.length <= _; omega⟩,by show ps.length <= 3; omega⟩
  ·intro _
   apply zb4
   walk_at "nrm"
   obtain ⟨w,hw,ew⟩:=zce (f:=fun w : Wrd=>D.str w.s) (xs:=[.make,.may]) (i:=a1 / 8 % 2) (Int.emod_nonneg _ (by decide)) (Int.emod_lt_of_pos _ (by decide))
   have q0:=Int.emod_nonneg (a2 / 4) (show n ≠ 0 by omega)
   have q1:=Int.emod_lt_of_pos (a2 / 4) (show 0 < n by omega)
   walk_at "if0"
   refine zb0 ⟨⟨w,a2 / 4 % n,ps⟩,?_,⟨fun _=>⟨q0,by show a2 / 4 % n < _; omega⟩,hp,by show ps.length <= _; omega⟩,by show ps.length <= 3; omega⟩
   have hw2:=List.mem_of_getElem? hw
   simp only [List.mem_cons,List.not_mem_nil,or_false] at hw2
   rcases hw2 with rfl | rfl <;> rfl
noncomputable def zgj : Rul:=⟨.never,0,[]⟩
inductive Wy where
 | rul (k : Int)
 | bar (k : Int)
 | wld (k : Int)
 | grp (xs : List Int)
noncomputable def Wy.toD : Wy -> D
 | .rul k=>.tup [.str "rule",.int k]
 | .bar k=>.tup [.str "bar",.int k]
 | .wld k=>.tup [.str "world",.int k]
 | .grp xs=>.tup [.str "group",.lst (xs.map D.int)]
noncomputable def Wy.Ok (n : Nat) : Wy -> Prop
 | .rul k=>0 <= k
 | .bar k=>0 <= k
 | .wld k=>0 <= k
 | .grp xs=>zfe n xs
noncomputable def seD (xs : List Int) : D:=.lst (xs.map D.int)
noncomputable def baD (zs : List (Int × Bool)) : D:=.lst (zs.map brD)
noncomputable def wiS (n : Nat) (xs : List Int) : List Bool:=(List.range n).map (inS xs)
theorem zql (n : Nat) (xs : List Int) : (wiS n xs).length = n:=by unfold wiS; rw [List.length_map,List.length_range]
noncomputable def rgt (rs : List Rul) (ss : List (List Int)) (bs : List (List (Int × Bool))) (es : List (Option Bool)) : Wy -> Bool
 | .rul k=>decide (k < (rs.length : Int)) && (rs.getD k.toNat zgj).surely es
 | .bar k=>decide (k < (bs.length : Int)) && ztl es (bs.getD k.toNat [])
 | .wld k=>decide (k < (ss.length : Int)) && (es == (wiS es.length (ss.getD k.toNat [])).map some)
 | .grp xs=>(xs.any fun x=>es.getD x.toNat none == some true) && !(rs.any fun r=>hup es (wiS es.length xs) r)
theorem zrg : ∀ (es : List (Option Bool)) (bs : List Bool),es.length = bs.length -> zb5 (deq 19) (es.map shD) (bs.map D.bl) = some (es == bs.map some)
 | [],[],_=>rfl
 | [],_ :: _,h=>by cases h
 | _ :: _,[],h=>by cases h
 | e :: es,b :: bs,h=>by
  have ih:=zrg es bs (by simpa using h)
  have e1 : deq 19 (shD e) (.bl b) = some (e == some b):=by
   cases e with
   | none=>cases b <;> rfl
   | some c=>cases b <;> cases c <;> rfl
  show ((deq 19 (shD e) (.bl b)).bind fun x=>(zb5 (deq 19) (es.map shD) (bs.map D.bl)).map fun r=>x && r) = _
  rw [e1,ih]
  rfl
theorem z57 (es : List (Option Bool)) (bs : List Bool) (h : es.length = bs.length) : dEq (.lst (es.map shD)) (.lst (bs.map D.bl)) = some (.bl (es == bs.map some)):=by
 show ((if (es.map shD).length = (bs.map D.bl).length then zb5 (deq 19) (es.map shD) (bs.map D.bl) else some false) : Option Bool).map D.bl = _
 rw [if_pos (by rw [List.length_map,List.length_map]; exact h),zrg es bs h]
 rfl
theorem zp9 {p : Prop} [Decidable p] {f g : List Sl -> Option D} {ρ : List Sl} {b : Bool} (h : f ρ = some (.bl (decide p))) (h' : p -> g ρ = some (.bl b)) : zec f g ρ = some (.bl (decide p && b)):=by
 by_cases q : p
 ·exact zhh h (h' q)
 ·unfold zec
  rw [zcq h,decide_eq_false q]
  rfl
theorem zpm {α : Type} (f : α -> D) (xs : List α) (k : Int) (k0 : 0 <= k) : m_6 [.lst (xs.map f),.int k] = some (.bl (decide (k < (xs.length : Int)))):=by
 have : zia dLe dLt (fun _=>some (.int 0)) (zaa 1) (zao zcz (zab (zaa 0) (fun _=>some []))) [.im (.lst (xs.map f)),.im (.int k)] = some (.bl (decide (0 <= k) && decide (k < (xs.length : Int)))):=zwe rfl rfl zqo (zav rfl (zeo _ _)) zoy
 rw [decide_eq_true k0] at this
 exact zb8 (zcj this)
section
variable {rs : List Rul} {ss : List (List Int)} {bs : List (List (Int × Bool))} {es : List (Option Bool)}
theorem z1n (hok : ∀ r ∈ rs,r.Ok es.length) (hz : rs.length <= 1000) (n60 : es.length <= 60) (xs : List Int) (hw : zfe es.length xs) :
  zpl [plD es.length rs,.lst (es.map shD),.lst (xs.map D.int)] = some (.bl (rgt rs ss bs es (.grp xs))):=by
 have hw2:=hw.2
 have em : m_8 [.int (es.length : Int),.lst (xs.map D.int)] = some (.lst ((wiS es.length xs).map D.bl)):=zt9 (es.length : Int) xs (by omega) (by omega) hw.2
 have eh : zng [.lst (es.map shD),.lst (xs.map D.int)] = some (.bl (xs.any fun x=>es.getD x.toNat none == some true)) :=
  zb8 (zcj (zav (zae (zbn (zdn xs D.int (fun x=>D.bl (es.getD x.toNat none == some true)) rfl (by omega) fun x hx=>zda rfl rfl (zaz (zaq rfl rfl (zd6 (hw.1 x hx).1 (hw.1 x hx).2)) rfl (zgb _ _)))) rfl) (zpb _ _)))
 apply zd3
 unfold b_37
 show wp _ [.im (plD es.length rs),.im (.lst (es.map shD)),.im (.lst (xs.map D.int)),.no] _
 apply zap
 refine zbu (zav (zae (zaq rfl rfl rfl) (zae rfl rfl)) em) ?_
 walk_at "nrm"
 apply zap
 refine zbt (zes (zav (zae (zbn (zdn rs Rul.toD (fun r=>D.bl (hup es (wiS es.length xs) r)) (zdi (zaq rfl rfl rfl) rfl) (by omega) fun r hr=>zda rfl rfl (zav rfl (z67 r (hok r hr) (zql _ _))))) rfl) (zpb _ _)) rfl) (fun z=>zch rfl (zb0 ?_)) (fun z=>zb4 ?_)
 ·show _ = D.bl (_ && !(rs.any fun r=>hup es (wiS es.length xs) r))
  rw [z,Bool.not_true,Bool.and_false]
 ·walk_at "nrm"
  refine zch (zav rfl eh) (zb0 ?_)
  show _ = D.bl (_ && !(rs.any fun r=>hup es (wiS es.length xs) r))
  rw [z,Bool.not_false,Bool.and_true]
theorem z3n (hok : ∀ r ∈ rs,r.Ok es.length) (hz : rs.length <= 1000) (hs : ∀ s ∈ ss,zfe es.length s) (hb : ∀ b ∈ bs,zhi es.length b) (n60 : es.length <= 60) (w : Wy) (hw : w.Ok es.length) :
  zm7 [plD es.length rs,.lst (ss.map seD),.lst (bs.map baD),.lst (es.map shD),w.toD] = some (.bl (rgt rs ss bs es w)):=by
 apply zd3
 unfold b_12
 show wp _ [.im (plD es.length rs),.im (.lst (ss.map seD)),.im (.lst (bs.map baD)),.im (.lst (es.map shD)),.im w.toD,.no] _
 cases w with
 | rul k =>
  apply zap
  refine zbt (b:=false) rfl (fun z=>by cases z) (fun _=>zb4 ?_)
  walk_at "nrm"
  apply zap
  refine zbu (d:=.int k) (zaq rfl rfl rfl) ?_
  walk_at "nrm"
  apply zap
  refine zbt (b:=true) rfl (fun _=>zch (zp9 (p:=k < (rs.length : Int)) (zav (zae (zaq rfl rfl rfl) (zae rfl rfl)) (zpm Rul.toD rs k hw)) fun q=>?_) (zb0 rfl)) (fun z=>by cases z)
  obtain ⟨r,hr,er⟩:=zce (f:=Rul.toD) (xs:=rs) (i:=k) hw q
  have : rs.getD k.toNat zgj = r:=by rw [List.getD_eq_getElem?_getD,hr]; rfl
  rw [this]
  exact zav (zae (zaq (zdi (zaq rfl rfl rfl) rfl) rfl er) (zae rfl rfl)) (z3r r (hok r (List.mem_of_getElem? hr)))
 | bar k =>
  apply zap
  refine zbt (b:=false) rfl (fun z=>by cases z) (fun _=>zb4 ?_)
  walk_at "nrm"
  apply zap
  refine zbu (d:=.int k) (zaq rfl rfl rfl) ?_
  walk_at "nrm"
  apply zap
  refine zbt (b:=false) rfl (fun z=>by cases z) (fun _=>zb4 ?_)
  walk_at "nrm"
  apply zap
  refine zbt (b:=true) rfl (fun _=>zch (zp9 (p:=k < (bs.length : Int)) (zav rfl (zpm baD bs k hw)) fun q=>?_) (zb0 rfl)) (fun z=>by cases z)
  obtain ⟨r,hr,er⟩:=zce (f:=baD) (xs:=bs) (i:=k) hw q
  have : bs.getD k.toNat [] = r:=by rw [List.getD_eq_getElem?_getD,hr]; rfl
  rw [this]
  exact zav (zae rfl (zae (zaq rfl rfl er) rfl)) (z7c (hb r (List.mem_of_getElem? hr)))
 | wld k =>
  apply zap
  refine zbt (b:=false) rfl (fun z=>by cases z) (fun _=>zb4 ?_)
  walk_at "nrm"
  apply zap
  refine zbu (d:=.int k) (zaq rfl rfl rfl) ?_
  walk_at "nrm"
  apply zap
  refine zbt (b:=false) rfl (fun z=>by cases z) (fun _=>zb4 ?_)
  walk_at "nrm"
  apply zap
  refine zbt (b:=false) rfl (fun z=>by cases z) (fun _=>zb4 ?_)
  walk_at "nrm"
  refine zch (zhh (a:=true) (zaz (zaq rfl rfl rfl) rfl (zs4 _ _)) (zp9 (p:=k < (ss.length : Int)) (zav rfl (zpm seD ss k hw)) fun q=>?_)) (zb0 rfl)
  obtain ⟨r,hr,er⟩:=zce (f:=seD) (xs:=ss) (i:=k) hw q
  have : ss.getD k.toNat [] = r:=by rw [List.getD_eq_getElem?_getD,hr]; rfl
  rw [this]
  have em : m_8 [.int (es.length : Int),.lst (r.map D.int)] = some (.lst ((wiS es.length r).map D.bl)):=zt9 (es.length : Int) r (by omega) (by omega) (hs r (List.mem_of_getElem? hr)).2
  exact zaz rfl (zav (zae (zaq rfl rfl rfl) (zae (zaq rfl rfl er) rfl)) em) (z57 es _ (zql _ _).symm)
 | grp xs =>
  apply zap
  exact zbt (b:=true) rfl (fun _=>zch (zav (zae rfl (zae rfl (zae (zaq rfl rfl rfl) rfl))) (z1n (ss:=ss) (bs:=bs) hok hz n60 xs hw)) (zb0 rfl)) (fun z=>by cases z)
end
section
variable {rs : List Rul} {ss : List (List Int)} {bs : List (List (Int × Bool))} {es : List (Option Bool)}
theorem zwm (zs : List (Int × Bool)) : zcp 3 (baD zs):=fun x hx=>by
 obtain ⟨z,_,rfl⟩:=List.mem_map.mp hx
 intro y hy
 simp only [List.mem_cons,List.not_mem_nil,or_false] at hy
 rcases hy with rfl | rfl <;> exact rfl
theorem z5f (b : Bool) : dNe (.bl b) (.bl b) = some (.bl false):=by cases b <;> rfl
end
theorem z70 {es : List (Option Bool)} {t : Int} (b : Bool) (t0 : 0 <= t) (t1 : t < (es.length : Int)) : zoc [.lst (es.map shD),.int t,.bl b] = some (.lst ((es.set t.toNat (some b)).map shD)):=by
 apply zd3
 unfold b_35
 show wp _ [.im (.lst (es.map shD)),.im (.int t),.im (.bl b),.no] _
 apply zap
 refine zeq (d:=es.map shD) rfl ?_
 walk_at "nrm"
 apply zap
 refine zlu (k:=t) (xs:=es.map shD) (d:=shD (some b)) rfl rfl rfl t0 (by rw [List.length_map]; omega) ?_
 walk_at "nrm"
 refine zgw (d:=(es.map shD).set t.toNat (shD (some b))) rfl (zg1 ?_)
 rw [List.map_set]
noncomputable def opD : Option (Int × Bool) -> D
 | none=>.non
 | some z=>brD z
noncomputable def trl (es : List (Option Bool)) : Option (Int × Bool) -> List (Option Bool)
 | none=>es
 | some z=>es.set z.1.toNat (some (!z.2))
noncomputable def zfd (es : List (Option Bool)) : Option (Int × Bool) -> Bool
 | none=>true
 | some z=>es.getD z.1.toNat none == none
noncomputable def zs0 (n : Nat) (o : Option (Int × Bool)) : Prop:=∀ z,o = some z -> 0 <= z.1 /\ z.1 < (n : Int)
theorem zj7 (es : List (Option Bool)) (o : Option (Int × Bool)) : (trl es o).length = es.length:=by
 cases o with
 | none=>rfl
 | some z=>exact List.length_set
section
variable {rs : List Rul} {ss : List (List Int)} {bs : List (List (Int × Bool))} {es : List (Option Bool)}
theorem zzv (hok : ∀ r ∈ rs,r.Ok es.length) (hz : rs.length <= 1000) (hs : ∀ s ∈ ss,zfe es.length s) (hb : ∀ b ∈ bs,zhi es.length b) (n60 : es.length <= 60) (o : Option (Int × Bool)) (ho : zs0 es.length o) (w : Wy) (hw : w.Ok es.length) :
  zqc [plD es.length rs,.lst (ss.map seD),.lst (bs.map baD),.lst (es.map shD),.tup [opD o,w.toD]] = some (.bl (rgt rs ss bs (trl es o) w && zfd es o)):=by
 have ew:=z3n (rs:=rs) (ss:=ss) (bs:=bs) (es:=trl es o) (by rw [zj7]; exact hok) hz (by rw [zj7]; exact hs) (by rw [zj7]; exact hb) (by rw [zj7]; exact n60) w (by rw [zj7]; exact hw)
 rw [zj7] at ew
 apply zd3
 unfold b_38
 show wp _ [.im (plD es.length rs),.im (.lst (ss.map seD)),.im (.lst (bs.map baD)),.im (.lst (es.map shD)),.im (.tup [opD o,w.toD]),.no] _
 apply zap
 refine zbu (d:=opD o) (zaq rfl rfl rfl) ?_
 walk_at "nrm"
 apply zap
 cases o with
 | none =>
  refine zbt (b:=true) rfl (fun _=>zch (zav (zae rfl (zae rfl (zae rfl (zae rfl (zae (zaq rfl rfl rfl) rfl))))) ew) (zb0 ?_)) (fun z=>by cases z)
  show _ = D.bl (_ && true)
  rw [Bool.and_true]
 | some z =>
  obtain ⟨z0,z1⟩:=ho z rfl
  refine zbt (b:=false) rfl (fun q=>by cases q) (fun _=>zb4 ?_)
  walk_at "nrm"
  apply zap
  refine zbt (zcq (zaz (zaq rfl (zaq rfl rfl rfl) (zd6 z0 z1)) rfl (zx6 _))) (fun q=>zch rfl (zb0 ?_)) (fun q=>zb4 ?_)
  ·show _ = D.bl (_ && (es.getD z.1.toNat none == none))
   cases hq : es.getD z.1.toNat none with
   | none=>rw [hq] at q; cases q
   | some b=>exact congrArg D.bl (Bool.and_false _).symm
  ·walk_at "nrm"
   refine zch (zav (zae rfl (zae rfl (zae rfl (zae (zav (zae rfl (zae (zaq rfl rfl rfl) (zae (zmo (zaq rfl rfl rfl)) rfl))) (z70 (!z.2) z0 z1)) (zae (zaq rfl rfl rfl) rfl))))) ew) (zb0 ?_)
   show _ = D.bl (_ && (es.getD z.1.toNat none == none))
   cases hq : es.getD z.1.toNat none with
   | none=>exact congrArg D.bl (Bool.and_true _).symm
   | some b=>rw [hq] at q; cases q
end
noncomputable def beg (n : Nat) (zs : List (Int × Bool)) : List (Option Bool):=zs.foldl (fun es z=>es.set z.1.toNat (some z.2)) (List.replicate n none)
theorem z8o (n : Nat) (zs : List (Int × Bool)) (z : Int × Bool) : beg n (zs ++ [z]) = (beg n zs).set z.1.toNat (some z.2):=by
 unfold beg
 rw [List.foldl_append]
 rfl
theorem ztw (n : Nat) : ∀ zs : List (Int × Bool),(beg n zs).length = n:=by
 intro zs
 unfold beg
 have : ∀ (zs : List (Int × Bool)) (es : List (Option Bool)),(zs.foldl (fun es z=>es.set z.1.toNat (some z.2)) es).length = es.length:=by
  intro zs
  induction zs with
  | nil=>intro es; rfl
  | cons z zs ih=>intro es; rw [List.foldl_cons,ih,List.length_set]
 rw [this,List.length_replicate]
theorem zzq (n : Nat) : (List.range n).map (fun (_ : Nat)=>D.non) = (List.replicate n (none : Option Bool)).map shD:=by
 rw [List.map_const',List.length_range,List.map_replicate]
 rfl
theorem z2j (n : Int) (n0 : 0 <= n) (n60 : n <= 60) (zs : List (Int × Bool)) (hz : ∀ z ∈ zs,0 <= z.1 /\ z.1 < (n.toNat : Int)) : zna [.int n,.lst (zs.map brD)] = some (.lst ((beg n.toNat zs).map shD)):=by
 apply zd3
 unfold b_26
 show wp _ [.im (.int n),.im (.lst (zs.map brD)),.no,.no,.no] _
 apply zap
 refine zeq (d:=(List.replicate n.toNat none).map shD) ?_ ?_
 ·rw [<- zzq]
  exact zdn (List.range n.toNat) (fun (i : Nat)=>D.int i) (fun _=>D.non) (zft rfl n0 (by omega)) (by rw [List.length_range]; omega) fun i _=>zda rfl rfl rfl
 walk_at "nrm"
 apply zap
 refine zdg zs brD (fun pre ρ=>∃ v2 v4,ρ = [.im (.int n),.im (.lst (zs.map brD)),v2,.own ((beg n.toNat pre).map shD),v4]) rfl ⟨_,_,rfl⟩ ?_ ?_
 ·rintro pre z post ρ ex ⟨v2,v4,rfl⟩
  obtain ⟨z0,z1⟩:=hz z (by rw [ex]; simp)
  refine ⟨_,rfl,?_⟩
  walk_at "nrm"
  refine zlu (k:=z.1) (xs:=(beg n.toNat pre).map shD) (d:=shD (some z.2)) rfl rfl rfl z0 (by rw [List.length_map,ztw]; omega) ?_
  exact ⟨_,_,by rw [z8o,List.map_set]; rfl⟩
 ·rintro ρ ⟨v2,v4,rfl⟩
  exact zgw rfl (zg1 rfl)
noncomputable abbrev Stp:=Option (Int × Bool) × Wy
noncomputable def stD (z : Stp) : D:=.tup [opD z.1,z.2.toD]
noncomputable def za0 (n : Nat) (z : Stp) : Prop:=zs0 n z.1 /\ z.2.Ok n
noncomputable def aft (es : List (Option Bool)) : Option (Int × Bool) -> List (Option Bool)
 | none=>es
 | some z=>es.set z.1.toNat (some z.2)
noncomputable def rst (rs : List Rul) (ss : List (List Int)) (bs : List (List (Int × Bool))) : List (Option Bool) -> List Stp -> Bool
 | _,[]=>false
 | es,[z]=>z.1.isNone && (rgt rs ss bs (trl es z.1) z.2 && zfd es z.1)
 | es,z :: y :: r=>z.1.isSome && ((rgt rs ss bs (trl es z.1) z.2 && zfd es z.1) && rst rs ss bs (aft es z.1) (y :: r))
theorem z3l (o : Option (Int × Bool)) : dIs (opD o) .non = some (.bl o.isNone):=by cases o <;> rfl
section
variable {rs : List Rul} {ss : List (List Int)} {bs : List (List (Int × Bool))}
theorem zyq (n : Nat) (n60 : n <= 60) (hok : ∀ r ∈ rs,r.Ok n) (hz : rs.length <= 1000) (hs : ∀ s ∈ ss,zfe n s) (hb : ∀ b ∈ bs,zhi n b) (es : List (Option Bool)) (hes : es.length = n) (zs : List Stp) (hzs : ∀ z ∈ zs,za0 n z) (hl : zs.length <= 1000) :
  zpu [plD n rs,.lst (ss.map seD),.lst (bs.map baD),.lst (es.map shD),.lst (zs.map stD)] = some (.bl (rst rs ss bs es zs)):=by
 apply zd3
 unfold b_27
 show wp _ [.im (plD n rs),.im (.lst (ss.map seD)),.im (.lst (bs.map baD)),.im (.lst (es.map shD)),.im (.lst (zs.map stD)),.no,.no,.no,.no] _
 apply zap
 refine zeq (d:=es.map shD) rfl ?_
 walk_at "nrm"
 apply zap
 refine zdg (List.range zs.length) (fun i=>D.tup [.int ((i + 1 : Nat) : Int),stD (zs.getD i (none,.rul 0))]) (fun pre ρ=>∃ (es' : List (Option Bool)) (v6 v7 v8 : Sl),ρ = [.im (plD n rs),.im (.lst (ss.map seD)),.im (.lst (bs.map baD)),.im (.lst (es.map shD)),.im (.lst (zs.map stD)),.own (es'.map shD),v6,v7,v8] /\ es'.length = n /\ (pre.length < zs.length -> rst rs ss bs es zs = rst rs ss bs es' (zs.drop pre.length)) /\ (pre.length = zs.length -> 0 < zs.length -> rst rs ss bs es zs = true)) (z8v _ rfl) ⟨es,.no,.no,.no,rfl,hes,fun _=>rfl,fun h h'=>by rw [<- h] at h'; cases h'⟩ ?_ ?_
 ·rintro pre i post ρ ex ⟨es',v6,v7,v8,rfl,hes',hgo,_⟩
  have hi : i < zs.length:=List.mem_range.mp (by rw [ex]; simp)
  have hpi : pre.length = i:=by
   have h1 : (List.range zs.length)[pre.length]? = some i:=by rw [ex]; simp
   have hp : pre.length < zs.length:=by
    have : pre.length < (List.range zs.length).length:=by rw [ex]; simp
    simpa using this
   rw [List.getElem?_range hp] at h1
   exact Option.some.inj h1
  have hd : zs.drop i = zs[i] :: zs.drop (i + 1):=List.drop_eq_getElem_cons hi
  have eg : zs.getD i (none,.rul 0) = zs[i]:=by rw [List.getD_eq_getElem?_getD,List.getElem?_eq_getElem hi]; rfl
  have hgo:=hgo (by omega)
  rw [hpi,hd] at hgo
  rw [eg]
  obtain ⟨hpo,hwo⟩:=hzs zs[i] (List.getElem_mem hi)
  generalize zs[i] = z at hgo hpo hwo
  obtain ⟨o,w⟩:=z
  have est:=zzv (rs:=rs) (ss:=ss) (bs:=bs) (es:=es') (by rw [hes']; exact hok) hz (by rw [hes']; exact hs) (by rw [hes']; exact hb) (by omega) o (by rw [hes']; exact hpo) w (by rw [hes']; exact hwo)
  rw [hes'] at est
  refine ⟨_,rfl,?_⟩
  walk_at "nrm"
  apply zap
  refine zbu (zaz (zaq rfl rfl rfl) rfl (z3l o)) ?_
  walk_at "nrm"
  have ee : (((i + 1 : Nat) : Int) == ((zs.length : Nat) : Int)) = decide (i + 1 = zs.length):=by
   by_cases q : i + 1 = zs.length
   ·rw [q,decide_eq_true rfl]; simp
   ·rw [decide_eq_false q]; simp; omega
  apply zap
  refine zbt (zcq (zaz rfl (zaz rfl (zav rfl (zeo _ _)) (zjm _ _)) (zw4 _ _))) (fun q=>zch rfl (zb0 ?_)) (fun q=>zb4 ?_)
  ·rw [hgo]
   rw [ee] at q
   by_cases hq : i + 1 = zs.length
   ·rw [List.drop_of_length_le (by omega)]
    rw [decide_eq_true hq] at q
    cases o with
    | none=>cases q
    | some z=>rfl
   ·rw [List.drop_eq_getElem_cons (show i + 1 < zs.length by omega)]
    rw [decide_eq_false hq] at q
    cases o with
    | none=>rfl
    | some z=>cases q
  ·rw [ee] at q
   walk_at "nrm"
   apply zap
   refine zbt (zfy (zes (zo9 (zae rfl (zae rfl (zae rfl (zae rfl (zae rfl rfl))))) est rfl) rfl)) (fun b=>zch rfl (zb0 ?_)) (fun b=>zb4 ?_)
   ·have b : (rgt rs ss bs (trl es' o) w && zfd es' o) = false:=by
     cases hb' : (rgt rs ss bs (trl es' o) w && zfd es' o) with
     | false=>rfl
     | true=>rw [hb'] at b; cases b
    rw [hgo]
    by_cases hq : i + 1 = zs.length
    ·rw [List.drop_of_length_le (by omega)]
     show _ = D.bl (_ && (rgt rs ss bs (trl es' o) w && zfd es' o))
     rw [b,Bool.and_false]
    ·rw [List.drop_eq_getElem_cons (show i + 1 < zs.length by omega)]
     show _ = D.bl (_ && ((rgt rs ss bs (trl es' o) w && zfd es' o) && _))
     rw [b,Bool.false_and,Bool.and_false]
   ·have b : (rgt rs ss bs (trl es' o) w && zfd es' o) = true:=by
     cases hb' : (rgt rs ss bs (trl es' o) w && zfd es' o) with
     | true=>rfl
     | false=>rw [hb'] at b; cases b
    walk_at "nrm"
    cases o with
    | none =>
     have hq : i + 1 = zs.length:=by
      by_cases hq : i + 1 = zs.length
      ·exact hq
      ·rw [decide_eq_false hq] at q; cases q
     refine zbt (b:=false) rfl (fun c=>by cases c) (fun _=>zb4 ?_)
     refine ⟨es',_,_,_,rfl,hes',fun h=>?_,fun _ _=>?_⟩
     ·rw [List.length_append] at h
      exact absurd (show i + 1 < zs.length by rw [<- hpi]; exact h) (by omega)
     ·rw [hgo,List.drop_of_length_le (by omega)]
      show (true && (rgt rs ss bs (trl es' none) w && zfd es' none)) = true
      rw [b]
      rfl
    | some z =>
     have hq : i + 1 ≠ zs.length:=fun hq=>by rw [decide_eq_true hq] at q; cases q
     obtain ⟨z0,z1⟩:=hpo z rfl
     refine zbt (b:=true) rfl (fun _=>?_) (fun c=>by cases c)
     refine zlu (k:=z.1) (xs:=es'.map shD) (d:=shD (some z.2)) (zaq (zdi (zaq rfl rfl rfl) rfl) rfl rfl) (zaq (zdi (zaq rfl rfl rfl) rfl) rfl rfl) rfl z0 (by rw [List.length_map]; omega) ?_
     refine ⟨es'.set z.1.toNat (some z.2),_,_,_,by rw [List.map_set]; rfl,by rw [List.length_set]; exact hes',fun h=>?_,fun h _=>?_⟩
     ·rw [List.length_append]
      show _ = rst rs ss bs _ (zs.drop (pre.length + 1))
      rw [hgo,hpi,List.drop_eq_getElem_cons (show i + 1 < zs.length by omega)]
      show (true && ((rgt rs ss bs (trl es' (some z)) w && zfd es' (some z)) && _)) = _
      rw [b]
      rfl
     ·rw [List.length_append] at h
      exact absurd (show i + 1 = zs.length by rw [<- hpi]; exact h) hq
 ·rintro ρ ⟨es',v6,v7,v8,rfl,hes',_,hend⟩
  rw [List.length_range] at hend
  refine zch (zaz (zav rfl (zeo _ _)) rfl zk6) (zb0 ?_)
  cases zs with
  | nil=>rfl
  | cons z zs =>
   rw [hend rfl (by rw [List.length_cons]; omega)]
   show D.bl (decide _) = _
   rw [decide_eq_true (by rw [List.length_cons]; omega)]
end
theorem z0y (ns : List Int) : (zc2 ns).length <= ns.length:=by
 rw [ztc]
 exact firstMet_length_le _ _
noncomputable def zu1 (n : Nat) (zs : List (Int × Bool)) (sts : List Stp) : Prop:=zhi n zs /\ (∀ z ∈ sts,za0 n z) /\ sts.length <= 1000
noncomputable def lnD (zs : List (Int × Bool)) (sts : List Stp) : D:=.tup [baD zs,.lst (sts.map stD)]
noncomputable def rln (rs : List Rul) (ss : List (List Int)) (bs : List (List (Int × Bool))) (n : Nat) (zs : List (Int × Bool)) (sts : List Stp) : Bool :=
 !(decide ((zc2 (zs.map (·.1))).length < zs.length)) && rst rs ss bs (beg n zs) sts
section
variable {rs : List Rul} {ss : List (List Int)} {bs : List (List (Int × Bool))}
theorem z68 (n : Nat) (n60 : n <= 60) (hok : ∀ r ∈ rs,r.Ok n) (hz : rs.length <= 1000) (hs : ∀ s ∈ ss,zfe n s) (hb : ∀ b ∈ bs,zhi n b) (zs : List (Int × Bool)) (sts : List Stp) (hl : zu1 n zs sts) :
  zqd [plD n rs,.lst (ss.map seD),.lst (bs.map baD),lnD zs sts] = some (.bl (rln rs ss bs n zs sts)):=by
 obtain ⟨⟨hz1,hz2⟩,hst,hsl⟩:=hl
 have eb : zna [.int (n : Int),.lst (zs.map brD)] = some (.lst ((beg n zs).map shD)):=z2j (n : Int) (by omega) (by omega) zs hz1
 have est:=zyq (rs:=rs) (ss:=ss) (bs:=bs) n n60 hok hz hs hb (beg n zs) (ztw n zs) sts hst hsl
 apply zd3
 unfold b_31
 show wp _ [.im (plD n rs),.im (.lst (ss.map seD)),.im (.lst (bs.map baD)),.im (lnD zs sts),.no,.no] _
 apply zap
 refine zbu (d:=baD zs) (zaq rfl rfl rfl) ?_
 walk_at "nrm"
 apply zap
 refine zbu (d:=.lst ((zs.map (·.1)).map D.int)) (zbn ?_) ?_
 ·rw [List.map_map]
  exact zdn zs brD (fun z=>D.int z.1) rfl (by omega) fun z _=>zda rfl rfl rfl
 walk_at "nrm"
 apply zap
 refine zbt (zcq (zaz (z7a rfl (by rw [List.length_map]; omega)) (zav rfl (zeo _ _)) zoy)) (fun q=>zch rfl (zb0 ?_)) (fun q=>zb4 ?_)
 ·rw [List.length_map] at q
  have q : (zc2 (zs.map (·.1))).length < zs.length:=by have:=of_decide_eq_true q; omega
  unfold rln
  rw [decide_eq_true q]
  rfl
 ·rw [List.length_map] at q
  have q : ¬ (zc2 (zs.map (·.1))).length < zs.length:=by have:=of_decide_eq_false q; omega
  walk_at "nrm"
  refine zch (zav (zae rfl (zae rfl (zae rfl (zae (zav (zae (zaq rfl rfl rfl) (zae rfl rfl)) eb) (zae (zaq rfl rfl rfl) rfl))))) est) (zb0 ?_)
  unfold rln
  rw [decide_eq_false q]
  rfl
end
theorem z1d (sts : List Stp) (hl : sts.length <= 1000) : znd [.lst (sts.map stD)] = some (.lst (sts.map stD)):=by
 apply zd3
 unfold b_29
 show wp _ [.im (.lst (sts.map stD)),.no,.no,.no] _
 apply zap
 refine zeq (d:=[]) rfl ?_
 walk_at "nrm"
 apply zap
 refine zdg sts stD (fun pre ρ=>∃ v2 v3,ρ = [.im (.lst (sts.map stD)),.own (pre.map stD),v2,v3]) rfl ⟨_,_,rfl⟩ ?_ ?_
 ·rintro pre ⟨o,w⟩ post ρ ex ⟨v2,v3,rfl⟩
  have hpl : pre.length < sts.length:=by rw [ex]; simp
  refine ⟨_,rfl,?_⟩
  walk_at "nrm"
  refine zt8 (fun ρ'=>ρ' = [.im (.lst (sts.map stD)),.own (pre.map stD),.im (opD o),.im w.toD]) ?_ ?_
  ·cases w with
   | grp xs=>exact zbt (b:=true) rfl (fun _=>zbu (zck (zae (zaq rfl rfl rfl) (zae (zbn (zdi (zaq rfl rfl rfl) rfl)) rfl))) (k_J rfl)) (fun z=>by cases z)
   | rul k=>exact zbt (b:=false) rfl (fun z=>by cases z) (fun _=>zb4 (k_J rfl))
   | bar k=>exact zbt (b:=false) rfl (fun z=>by cases z) (fun _=>zb4 (k_J rfl))
   | wld k=>exact zbt (b:=false) rfl (fun z=>by cases z) (fun _=>zb4 (k_J rfl))
  ·rintro ρ' rfl
   refine zfv (d:=stD (o,w)) (zck (zae rfl (zae rfl rfl))) rfl (by rw [List.length_map]; omega) ?_
   exact ⟨_,_,by rw [List.map_append]; rfl⟩
 ·rintro ρ ⟨v2,v3,rfl⟩
  exact zgw rfl (zg1 rfl)
theorem z7e (o : Option (Int × Bool)) : zcp 3 (opD o):=by
 cases o with
 | none=>exact rfl
 | some z =>
  intro y hy
  simp only [List.mem_cons,List.not_mem_nil,or_false] at hy
  rcases hy with rfl | rfl <;> exact rfl
theorem z3g (w : Wy) : zcp 3 w.toD:=by
 cases w with
 | grp xs =>
  intro x hx
  simp only [List.mem_cons,List.not_mem_nil,or_false] at hx
  rcases hx with rfl | rfl
  ·exact rfl
  ·exact zq1 xs
 | _ k =>
  intro x hx
  simp only [List.mem_cons,List.not_mem_nil,or_false] at hx
  rcases hx with rfl | rfl <;> exact rfl
theorem z5b (zs : List (Int × Bool)) (sts : List Stp) : zcp 7 (lnD zs sts):=fun x hx=>by
  simp only [List.mem_cons,List.not_mem_nil,or_false] at hx
  rcases hx with rfl | rfl
  ·exact (zwm zs).le (by decide)
  ·intro y hy
   obtain ⟨⟨o,w⟩,_,rfl⟩:=List.mem_map.mp hy
   intro x hx
   simp only [List.mem_cons,List.not_mem_nil,or_false] at hx
   rcases hx with rfl | rfl
   ·exact (z7e o).le (by decide)
   ·exact (z3g w).le (by decide)
theorem zvr (xs : List D) (d : D) : atI (xs ++ [d]) (-1) = some d:=by
 unfold atI
 have hl : (xs ++ [d]).length = xs.length + 1:=by simp
 have e : ixN (xs ++ [d]).length (-1) = some xs.length:=by
  rw [hl]
  unfold ixN
  rw [if_neg (by decide),if_pos (by omega)]
  congr 1
  omega
 rw [e]
 show (xs ++ [d])[xs.length]? = some d
 simp
theorem z3j {ns : List Int} (nd : ns.Nodup) : (zc2 ns).length = ns.length :=
 (zlt ns (zc2 ns) nd (fun x hx=>(zpc x ns).mpr hx) (z0y ns)).length_eq
noncomputable abbrev Ln:=List (Int × Bool) × List Stp
noncomputable def lD (l : Ln) : D:=lnD l.1 l.2
noncomputable def LnM (n : Nat) (l : Ln) : Prop:=zu1 n l.1 l.2 /\ (l.1.map (·.1)).Nodup
theorem z4e {rs : List Rul} {ss : List (List Int)} {bs : List (List (Int × Bool))} {n : Nat} {zs : List (Int × Bool)} {sts : List Stp} (nd : (zs.map (·.1)).Nodup) : rln rs ss bs n zs sts = rst rs ss bs (beg n zs) sts:=by
 unfold rln
 rw [z3j nd,List.length_map,decide_eq_false (Nat.lt_irrefl _)]
 rfl
noncomputable def pgo (rs : List Rul) (ss : List (List Int)) (n : Nat) : List (List (Int × Bool)) -> List Ln -> Bool
 | _,[]=>true
 | bs,l :: r=>rst rs ss bs (beg n l.1) l.2 && pgo rs ss n (bs ++ [l.1]) r
noncomputable def zd2 (rs : List Rul) (ss : List (List Int)) (n : Nat) (ls : List Ln) : Bool:=pgo rs ss n [] ls && (match ls.getLast? with
 | none=>false
 | some l=>l.1.isEmpty)
section
variable {rs : List Rul} {ss : List (List Int)}
theorem zwj (n : Nat) (n60 : n <= 60) (hok : ∀ r ∈ rs,r.Ok n) (hz : rs.length <= 1000) (hs : ∀ s ∈ ss,zfe n s) (ls : List Ln) (hl : ∀ l ∈ ls,LnM n l) (hll : ls.length <= 3000) :
  zpj [plD n rs,.lst (ss.map seD),.lst (ls.map lD)] = some (.bl (zd2 rs ss n ls)):=by
 apply zd3
 unfold b_32
 show wp _ [.im (plD n rs),.im (.lst (ss.map seD)),.im (.lst (ls.map lD)),.no,.no] _
 apply zap
 refine zeq rfl ?_
 walk_at "nrm"
 apply zap
 refine zdg ls lD (fun pre ρ=>∃ v4 : Sl,ρ = [.im (plD n rs),.im (.lst (ss.map seD)),.im (.lst (ls.map lD)),.own ((pre.map (·.1)).map baD),v4] /\ ∀ post,ls = pre ++ post -> pgo rs ss n [] ls = pgo rs ss n (pre.map (·.1)) post) rfl ⟨_,rfl,fun post e=>by rw [e]; rfl⟩ ?_ ?_
 ·rintro pre l post ρ ex ⟨v4,rfl,hgo⟩
  have hgo:=hgo (l :: post) ex
  have hln:=hl l (by rw [ex]; simp)
  have hpl : pre.length < ls.length:=by rw [ex]; simp
  have er:=z68 (rs:=rs) (ss:=ss) (bs:=pre.map (·.1)) n n60 hok hz hs (fun b hb=>by
   obtain ⟨q,hq,rfl⟩:=List.mem_map.mp hb
   exact (hl q (by rw [ex]; exact List.mem_append_left _ hq)).1.1) l.1 l.2 hln.1
  rw [z4e hln.2] at er
  refine ⟨_,rfl,?_⟩
  walk_at "nrm"
  apply zap
  refine zbt (zfy (zes (zo9 (zae rfl (zae rfl (zae rfl (zae rfl rfl)))) er rfl) rfl)) (fun q=>zch rfl (zb0 ?_)) (fun q=>zb4 ?_)
  ·unfold zd2
   rw [hgo]
   show _ = D.bl ((rst rs ss (pre.map (·.1)) (beg n l.1) l.2 && _) && _)
   cases h : rst rs ss (pre.map (·.1)) (beg n l.1) l.2 with
   | true=>rw [h] at q; cases q
   | false=>rfl
  ·walk_at "nrm"
   refine zfv (d:=baD l.1) (zaq rfl rfl rfl) rfl (by rw [List.length_map,List.length_map]; omega) ?_
   refine ⟨_,by rw [List.map_append,List.map_append]; rfl,fun post' e=>?_⟩
   rw [List.append_assoc] at e
   have : post' = post:=by
    have:=ex.symm.trans e
    exact (List.cons.inj (List.append_cancel_left this)).2.symm
   subst this
   rw [hgo,List.map_append]
   show (rst rs ss (pre.map (·.1)) (beg n l.1) l.2 && pgo rs ss n (pre.map (·.1) ++ [l.1]) post') = _
   cases h : rst rs ss (pre.map (·.1)) (beg n l.1) l.2 with
   | true=>rfl
   | false=>rw [h] at q; cases q
 ·rintro ρ ⟨v4,rfl,hgo⟩
  walk_at "nrm"
  have hgo:=hgo [] (List.append_nil _).symm
  refine ze3 rfl ?_
  refine zch (d:=.bl (zd2 rs ss n ls)) ?_ (zb0 rfl)
  unfold zd2
  rw [hgo]
  rcases List.eq_nil_or_concat ls with rfl | ⟨ini,l,rfl⟩
  ·rfl
  ·rw [List.concat_eq_append] at *
   have eL : atI (((ini ++ [l]).map (·.1)).map baD) (-1) = some (baD l.1):=by rw [List.map_append,List.map_append]; exact zvr _ _
   have e1 : decide ((((((ini ++ [l]).map (·.1)).length : Nat) : Int)) > 0) = true:=decide_eq_true (by rw [List.length_map,List.length_append]; show ((_ + 1 : Nat) : Int) > 0; omega)
   have e2 : (match (ini ++ [l]).getLast? with | none=>false | some l=>l.1.isEmpty) = l.1.isEmpty:=by rw [List.getLast?_concat]
   show _ = some (D.bl (true && (match (ini ++ [l]).getLast? with | none=>false | some l=>l.1.isEmpty)))
   rw [e2]
   refine zhh (a:=true) (zaz (zav rfl (zeo _ _)) rfl (by rw [<- e1]; exact zk6)) (zaz (zav (zae (zaq rfl rfl eL) rfl) (zeo _ _)) rfl ?_)
   rw [zjm]
   cases l.1 <;> rfl
end
section
variable {rs : List Rul} {ss : List (List Int)} {ws : List Bool}
end
theorem zps {p q : Int -> Bool} {its : List (Int × Int)} (h : ∀ z ∈ its,p z.1 = q z.1) : zdx p its = zdx q its:=by
 unfold zdx
 rw [List.filter_congr h]
theorem zrb {l : List Bool} {its : List (Int × Int)} (h : InN l.length its) : ze8 (· == some true) (bs l) its = zdx (fun t=>l.getD t.toNat false) its:=by
 rw [zu5]
 refine zps fun z hz=>?_
 have:=h z hz
 rw [zku (by omega)]
 cases l.getD z.1.toNat false <;> rfl
theorem zrh {l : List Bool} {its : List (Int × Int)} {js : List Nat} {fi : List Sl -> Option (List D)} {ρ : List Sl} (h : InN l.length its) (hz : its.length <= 100000) (hi : fi ρ = some (its.map itD)) (hj : zdc 2 js ρ = [.no,.no,.im (.lst (l.map D.bl))]) :
  zao zdu (zab (zan (zbl 2 js fi (zcm (zbc (zar 0) (zbc (zar 1) zcr))) (zcu (mIx (zaf 2) (zaa 0))) (zaa 1))) (fun _=>some [])) ρ = some (.int (ze8 (· == some true) (bs l) its)):=by
 rw [zrb h]
 refine zav (zae (zbn (zgx its itD (fun z=>l.getD z.1.toNat false) (fun z=>D.int z.2) hi (by omega) fun z hz'=>?_)) rfl) (zk8 (fun t=>l.getD t.toNat false) its)
 rw [hj]
 exact zgf rfl (zes (zaq rfl rfl (zgm (h z hz').1 (h z hz').2.1)) rfl) fun _=>rfl
theorem zxj {rs ws : List Bool} (p : Prt) (h : p.Ok rs.length) (hw : ws.length = rs.length) : zl3 [p.toD,.lst (rs.map D.bl),.lst (ws.map D.bl)] = some (.bl (p.holds rs ws)):=by
 cases p with
 | inn t=>exact zb8 (zfs (zfh rfl (zcj (zaq rfl rfl (zgm h.1 h.2)))))
 | out t=>exact zb8 (zcy (zc9 rfl rfl) (zfs (zfh rfl (zcj (zmo (zaq rfl rfl (zgm h.1 (by rw [hw]; exact h.2))))))))
 | least k its=>exact zb8 (zcy (zc9 rfl rfl) (zcy (zc9 rfl rfl) (zfs (zfh rfl (zcj (zaz (zrh h.1 h.2 rfl rfl) rfl rfl))))))
 | most k its=>exact zb8 (zcy (zc9 rfl rfl) (zcy (zc9 rfl rfl) (zcy (zc9 rfl rfl) (zcj (zaz (zrh (by rw [hw]; exact h.1) h.2 rfl rfl) rfl rfl)))))
noncomputable def za5 : Nat -> List (List Bool)
 | 0=>[[]]
 | n + 1=>(za5 n).flatMap fun r=>[r ++ [true],r ++ [false]]
theorem zs6 (l : List (List Bool)) : (l.flatMap fun r=>[r ++ [true],r ++ [false]]).length = 2 * l.length:=by
 induction l with
 | nil=>rfl
 | cons a l ih =>
  rw [List.flatMap_cons,List.length_append,ih]
  show 2 + 2 * l.length = 2 * (l.length + 1)
  omega
theorem zgq : ∀ n,(za5 n).length = 2 ^ n
 | 0=>rfl
 | n + 1=>by
  show ((za5 n).flatMap _).length = _
  rw [zs6,zgq n,Nat.pow_succ]
  omega
theorem zew : ∀ (n : Nat),∀ r ∈ za5 n,r.length = n
 | 0,r,h=>by rw [List.mem_singleton.mp h]; rfl
 | n + 1,r,h=>by
  obtain ⟨q,hq,hr⟩:=List.mem_flatMap.mp h
  have:=zew n q hq
  simp only [List.mem_cons,List.not_mem_nil,or_false] at hr
  rcases hr with rfl | rfl <;> rw [List.length_append,this] <;> rfl
noncomputable def roD (r : List Bool) : D:=.lst (r.map D.bl)
theorem zy5 {i : Nat} {f : List Sl -> Option D} {ρ : List Sl} {xs ds : List D} (h : f ρ = some (.lst ds)) (h' : ρ[i]? = some (.own xs)) (hl : xs.length + ds.length <= 16777216) : zij i (ziw f) ρ = some (.nx (ρ.set i (.own (xs ++ ds)))):=by
 unfold zij ziw
 rw [h]
 show ((match ρ[i]? with | some (.own xs)=>_ | _=>_) : Option Fl) = _
 rw [h']
 exact if_pos hl
theorem z23 {i : Nat} {f : List Sl -> Option D} {ρ : List Sl} {xs ds : List D} {K : Fl -> Prop} (h : f ρ = some (.lst ds)) (h' : ρ[i]? = some (.own xs)) (hl : xs.length + ds.length <= 16777216) (k : K (.nx (ρ.set i (.own (xs ++ ds))))) : wp (zij i (ziw f)) ρ K:=⟨_,zy5 h h' hl,k⟩
theorem zjz {n : Nat} (h : n <= 4) : 2 ^ n <= 16:=Nat.pow_le_pow_right (by decide) h
theorem zpz (n : Nat) (n4 : n <= 4) : m_1 [.int n] = some (.lst ((za5 n).map roD)):=by
 apply zd3
 unfold b_1
 show wp _ [.im (.int n),.no,.no,.no,.no] _
 apply zap
 refine zbu (d:=.lst ((za5 0).map roD)) rfl ?_
 walk_at "nrm"
 apply zap
 refine zdg (List.range n) (fun (i : Nat)=>D.int i) (fun pre ρ=>∃ v2 v3 v4 : Sl,ρ = [.im (.int n),.im (.lst ((za5 pre.length).map roD)),v2,v3,v4]) (by have:=zft (f:=zab (zaa 0) (fun _=>some [])) (ρ:=[.im (.int n),.im (.lst ((za5 0).map roD)),.no,.no,.no]) (n:=(n : Int)) rfl (by omega) (by omega); rw [this,Int.toNat_natCast]) ⟨_,_,_,rfl⟩ ?_ ?_
 ·rintro pre i post ρ ex ⟨v2,v3,v4,rfl⟩
  have hpl : pre.length < n:=by
   have : pre.length < (List.range n).length:=by rw [ex]; simp
   simpa using this
  have h16:=zjz (n:=pre.length) (by omega)
  have hl:=zgq pre.length
  refine ⟨_,rfl,?_⟩
  walk_at "nrm"
  apply zap
  refine zeq (d:=[]) rfl ?_
  walk_at "nrm"
  apply zap
  refine zdg (za5 pre.length) roD (fun pr ρ=>∃ v4 : Sl,ρ = [.im (.int n),.im (.lst ((za5 pre.length).map roD)),.im (.int i),.own ((pr.flatMap fun r=>[r ++ [true],r ++ [false]]).map roD),v4]) rfl ⟨_,rfl⟩ ?_ ?_
  ·rintro pr r po ρ ex2 ⟨v4,rfl⟩
   have hprl : pr.length < (za5 pre.length).length:=by rw [ex2]; simp
   have hrl:=zew pre.length r (by rw [ex2]; simp)
   refine ⟨_,rfl,?_⟩
   walk_at "nrm"
   have ca : ∀ (b : Bool) (v : Sl),zan (zdd (zaa 4) (zan (zab (fun _=>some (.bl b)) (fun _=>some [])))) [.im (.int n),.im (.lst ((za5 pre.length).map roD)),.im (.int i),v,.im (roD r)] = some (roD (r ++ [b])):=fun b v=>by
    have:=zmq (f:=zaa 4) (g:=zan (zab (fun _=>some (.bl b)) (fun _=>some []))) (ρ:=[.im (.int n),.im (.lst ((za5 pre.length).map roD)),.im (.int i),v,.im (roD r)]) (a:=r.map D.bl) (b:=[.bl b]) rfl rfl (by rw [List.length_map,hrl]; show _ + 1 <= _; omega)
    rw [zbn this]
    unfold roD
    rw [List.map_append]
    rfl
   refine z23 (ds:=[roD (r ++ [true]),roD (r ++ [false])]) (zbn (zae (ca true _) (zae (ca false _) rfl))) rfl (by rw [List.length_map,zs6]; show _ + 2 <= _; omega) ?_
   refine ⟨.im (roD r),?_⟩
   rw [List.flatMap_append,List.map_append]
   rfl
  ·rintro ρ ⟨v4,rfl⟩
   refine ze3 rfl ?_
   refine zbu rfl ?_
   refine ⟨.im (.int i),.im (.lst (((za5 pre.length).flatMap fun r=>[r ++ [true],r ++ [false]]).map roD)),v4,?_⟩
   rw [List.length_append]
   rfl
 ·rintro ρ ⟨v2,v3,v4,rfl⟩
  refine z5d rfl (zb0 ?_)
  rw [List.length_range]
noncomputable def zbo (ws : List Bool) : List Int:=((List.range ws.length).filter fun i=>ws.getD i false).map fun (i : Nat)=>(i : Int)
theorem zqi (ws : List Bool) (h : ws.length <= 60) : m_5 [roD ws] = some (seD (zbo ws)):=by
 have e : (zbo ws).map D.int = ((List.range ws.length).filter fun i=>ws.getD i false).map fun (i : Nat)=>D.int i:=by
  unfold zbo
  rw [List.map_map]
  rfl
 unfold seD
 rw [e]
 apply zd3
 unfold b_5
 show wp _ [.im (.lst (ws.map D.bl))] _
 refine zz4 (zgx (List.range ws.length) (fun i=>D.tup [.int (i : Nat),.bl (ws.getD i false)]) (fun i=>ws.getD i false) (fun (i : Nat)=>D.int i) (zme false (zae rfl rfl)) (by rw [List.length_range]; omega) fun i _=>zgf rfl rfl fun _=>rfl) (zg1 rfl)
noncomputable def cf (bs : List Bool) : Nat:=(bs.filter fun b=>!b).length
theorem zpn : ∀ (bs : List Bool) (k : Nat),k < bs.length -> bs.getD k false = false -> cf (bs.set k true) + 1 = cf bs
 | b :: bs,0,_,h=>by
  have h : b = false:=h
  subst h
  rfl
 | b :: bs,k + 1,hk,h=>by
  have ih:=zpn bs k (by simpa using hk) (by simpa using h)
  cases b with
  | true=>exact ih
  | false =>
   show (cf (bs.set k true) + 1) + 1 = cf bs + 1
   rw [ih]
theorem zyb {bs : List Bool} (h : cf bs = 0) : ∀ k,k < bs.length -> bs.getD k false = true:=fun k hk=>by
 cases q : bs.getD k false with
 | true=>rfl
 | false =>
  have:=zpn bs k hk q
  omega
theorem z25 {bs : List Bool} {k : Nat} (h : bs.getD k false = false) : bs.set k false = bs:=by
 refine List.ext_getElem? fun i=>?_
 rw [List.getElem?_set]
 by_cases e : k = i
 ·subst e
  rw [if_pos rfl]
  by_cases hl : k < bs.length
  ·rw [if_pos hl,List.getElem?_eq_getElem hl]
   rw [List.getD_eq_getElem?_getD,List.getElem?_eq_getElem hl] at h
   rw [show bs[k] = false from h]
  ·rw [if_neg hl,List.getElem?_eq_none (by omega)]
 ·rw [if_neg e]
theorem z8i (bs : List Bool) (k : Nat) (b : Bool) : (bs.map D.bl).set k (.bl b) = (bs.set k b).map D.bl:=by rw [List.map_set]
theorem z8n (U : List Bool) (k i : Nat) (b : Bool) (hk : k < U.length) : (U.set k b).getD i false = if k = i then b else U.getD i false:=by
 rw [List.getD_eq_getElem?_getD,List.getElem?_set,List.getD_eq_getElem?_getD]
 by_cases e : k = i
 ·subst e
  rw [if_pos rfl,if_pos hk,if_pos rfl]
  rfl
 ·rw [if_neg e,if_neg e]
noncomputable def ClR (rs : List Rul) (ws ri : List Bool) : Prop:=∀ r ∈ rs,r.w ≠ .never -> ws.getD r.hd.toNat false = true -> ri.getD r.hd.toNat false = false -> r.bodyHolds ri ws = false
structure zlv (rs : List Rul) (n : Nat) (ws ri : List Bool) : Prop where
 len : ri.length = n
 sub : ∀ i : Nat,ri.getD i false = true -> ws.getD i false = true
theorem z4a {n : Nat} (rs : List Rul) (hok : ∀ r ∈ rs,r.Ok n) (hz : rs.length <= 1000) (ws : List Bool) (hw : ws.length = n) (n60 : n <= 60) : ∃ d,m_3 [.lst (rs.map Rul.toD),roD ws] = some d /\ ∃ ri : List Bool,d = roD ri /\ zlv rs n ws ri /\ ClR rs ws ri:=by
 apply zf7
 unfold b_3
 show wp _ [.im (.lst (rs.map Rul.toD)),.im (.lst (ws.map D.bl)),.no,.no,.no,.no,.no] _
 apply zap
 refine zeq (d:=(ws.map fun _=>false).map D.bl) ?_ ?_
 ·rw [List.map_map]
  exact zdn ws D.bl (fun _=>D.bl false) rfl (by omega) fun x _=>zda rfl rfl rfl
 walk_at "nrm"
 have f0 : ∀ i : Nat,(ws.map fun _=>false).getD i false = false:=fun i=>by
  rw [List.getD_eq_getElem?_getD,List.getElem?_map]
  cases ws[i]? <;> rfl
 have cfl : ∀ bs : List Bool,cf bs <= bs.length:=fun bs=>List.length_filter_le _ _
 apply zap
 refine zdg (List.range n) (fun (i : Nat)=>D.int i) (fun pre ρ=>∃ (ri : List Bool) (v3 v4 v5 v6 : Sl),ρ = [.im (.lst (rs.map Rul.toD)),.im (.lst (ws.map D.bl)),.own (ri.map D.bl),v3,v4,v5,v6] /\ zlv rs n ws ri /\ (ClR rs ws ri \/ cf ri + pre.length <= n)) ?_ ⟨ws.map fun _=>false,_,_,_,_,rfl,⟨by rw [List.length_map]; exact hw,fun i h=>by rw [f0] at h; cases h⟩,.inr (by have:=cfl (ws.map fun _=>false); rw [List.length_map] at this; show _ + 0 <= _; omega)⟩ ?_ ?_
 ·have:=zft (f:=zab (zao zcz (zab (zaa 1) (fun _=>some []))) (fun _=>some [])) (ρ:=[.im (.lst (rs.map Rul.toD)),.im (.lst (ws.map D.bl)),.own ((ws.map fun _=>false).map D.bl),.no,.no,.no,.no]) (n:=(ws.length : Int)) (zae (zav rfl (zeo _ _)) rfl) (by omega) (by omega)
  rw [this,Int.toNat_natCast,hw]
 ·rintro pre i post ρ ex ⟨ri,v3,v4,v5,v6,rfl,hri,hor⟩
  refine ⟨_,rfl,?_⟩
  walk_at "nrm"
  refine zdg rs Rul.toD (fun pr ρ=>∃ (ri' : List Bool) (v4 v5 v6 : Sl),ρ = [.im (.lst (rs.map Rul.toD)),.im (.lst (ws.map D.bl)),.own (ri'.map D.bl),.im (.int i),v4,v5,v6] /\ zlv rs n ws ri' /\ ((ri' = ri /\ ∀ r ∈ pr,r.w ≠ .never -> ws.getD r.hd.toNat false = true -> ri.getD r.hd.toNat false = false -> r.bodyHolds ri ws = false) \/ (cf ri' < cf ri /\ ¬ ClR rs ws ri))) rfl ⟨ri,_,_,_,rfl,hri,.inl ⟨rfl,fun r hr=>(List.not_mem_nil hr).elim⟩⟩ ?_ ?_
  ·rintro pr r po ρ ex2 ⟨ri',v4,v5,v6,rfl,hri',hc⟩
   have hr : r ∈ rs:=by rw [ex2]; simp
   have hokr:=hok r hr
   refine ⟨_,rfl,?_⟩
   walk_at "nrm"
   by_cases hwn : r.w = .never
   ·have e0 : (r.w.s : Str) = "never":=by rw [hwn]; rfl
    refine zbt (b:=false) (zmu (zcq (zaz rfl rfl (by rw [znz,e0]; rfl)))) (fun z=>by cases z) (fun _=>zb4 ⟨ri',_,_,_,rfl,hri',?_⟩)
    rcases hc with ⟨e,h⟩ | h
    ·refine .inl ⟨e,fun q hq=>?_⟩
     rcases List.mem_append.mp hq with y | y
     ·exact h q y
     ·rw [List.mem_singleton.mp y]
      exact fun z=>absurd hwn z
    ·exact .inr h
   ·obtain ⟨h0,h1⟩:=hokr.hd hwn
    have ehd : r.hdD = .int r.hd:=by
     unfold Rul.hdD
     cases q : r.w with
     | never=>exact absurd q hwn
     | _=>rfl
    have e0 : (r.w.s == ("never" : Str)) = false:=by
     cases q : r.w with
     | never=>exact absurd q hwn
     | _=>rfl
    have ea:=zgm (es:=ws) (i:=r.hd) h0 (by omega)
    have eb:=zgm (es:=ri') (i:=r.hd) h0 (by have:=hri'.len; omega)
    rw [ehd]
    refine zbt (b:=ws.getD r.hd.toNat false && !(ri'.getD r.hd.toNat false)) (zjg (zcq (zaz rfl rfl (by rw [znz,e0]; rfl))) (zhv (zes (zaq rfl rfl ea) rfl) (zfy (zes (zaq rfl rfl eb) rfl)))) (fun hb=>?_) (fun hb=>zb4 ⟨ri',_,_,_,rfl,hri',?_⟩)
    ·have hb' : ws.getD r.hd.toNat false = true /\ ri'.getD r.hd.toNat false = false:=by simpa using hb
     have eall : zao zfq (zab (zan (zbl 1 [2,1] (zbh (zaa 6)) (zar 0) (fun _=>some true) (zj2 zl3 (zab (zaa 0) (zab (zgi 1) (zab (zaa 2) (fun _=>some []))))))) (fun _=>some [])) [.im (.lst (rs.map Rul.toD)),.im (.lst (ws.map D.bl)),.own (ri'.map D.bl),.im (.int i),.im (.str r.w.s),.im (.int r.hd),.im (.lst (r.ps.map Prt.toD))] = some (.bl (r.bodyHolds ri' ws)):=by
      refine zav (zae (zbn (zdn r.ps Prt.toD (fun p=>D.bl (p.holds ri' ws)) rfl (by have:=hokr.len; omega) fun p hp=>?_)) rfl) (zrn _ _)
      exact zda rfl rfl (z8s (zae rfl (zae rfl (zae rfl rfl))) (zxj p (by rw [hri'.len]; exact hokr.ps p hp) (by rw [hri'.len,hw])) rfl)
     refine zlu (k:=r.hd) (xs:=ri'.map D.bl) eall rfl rfl h0 (by rw [List.length_map,hri'.len]; exact h1) ?_
     have e9 : (ri'.map D.bl).set r.hd.toNat (.bl (r.bodyHolds ri' ws)) = (ri'.set r.hd.toNat (r.bodyHolds ri' ws)).map D.bl:=z8i _ _ _
     cases hbd : r.bodyHolds ri' ws with
     | false =>
      rw [hbd,z25 hb'.2] at e9
      refine ⟨ri',.im (.str r.w.s),.im (.int r.hd),.im (.lst (r.ps.map Prt.toD)),?_,hri',?_⟩
      ·show [_,_,Sl.own ((ri'.map D.bl).set r.hd.toNat (.bl false)),_,_,_,_] = _
       rw [e9]
      ·rcases hc with ⟨e,h⟩ | h
       ·refine .inl ⟨e,fun q hq=>?_⟩
        rcases List.mem_append.mp hq with y | y
        ·exact h q y
        ·rw [List.mem_singleton.mp y]
         intro _ _ _
         rw [<- e]
         exact hbd
       ·exact .inr h
     | true =>
      rw [hbd] at e9
      have hlt : r.hd.toNat < ri'.length:=by have:=hri'.len; omega
      have hcf:=zpn ri' r.hd.toNat hlt hb'.2
      refine ⟨ri'.set r.hd.toNat true,.im (.str r.w.s),.im (.int r.hd),.im (.lst (r.ps.map Prt.toD)),?_,⟨by rw [List.length_set]; exact hri'.len,fun j hj=>?_⟩,.inr ?_⟩
      ·show [_,_,Sl.own ((ri'.map D.bl).set r.hd.toNat (.bl true)),_,_,_,_] = _
       rw [e9]
      ·rw [z8n _ _ _ _ hlt] at hj
       split at hj
       ·rename_i ej
        rw [<- ej]
        exact hb'.1
       ·exact hri'.sub j hj
      ·rcases hc with ⟨e,_⟩ | h
       ·subst e
        refine ⟨by omega,fun cl=>?_⟩
        rw [cl r hr hwn hb'.1 hb'.2] at hbd
        cases hbd
       ·exact ⟨by omega,h.2⟩
    ·rcases hc with ⟨e,h⟩ | h
     ·refine .inl ⟨e,fun q hq=>?_⟩
      rcases List.mem_append.mp hq with y | y
      ·exact h q y
      ·rw [List.mem_singleton.mp y]
       intro _ z1 z2
       rw [e,z1,z2] at hb
       cases hb
     ·exact .inr h
  ·rintro ρ ⟨ri',v4,v5,v6,rfl,hri',hc⟩
   refine ⟨ri',_,_,_,_,rfl,hri',?_⟩
   rcases hc with ⟨e,h⟩ | ⟨h1,h2⟩
   ·subst e
    exact .inl h
   ·rcases hor with y | y
    ·exact absurd y h2
    ·refine .inr ?_
     rw [List.length_append]
     show _ + (_ + 1) <= _
     omega
 ·rintro ρ ⟨ri,v3,v4,v5,v6,rfl,hri,hor⟩
  refine zgw rfl (zg1 ⟨ri,rfl,hri,?_⟩)
  rcases hor with h | h
  ·exact h
  ·rw [List.length_range] at h
   have z:=zyb (bs:=ri) (by omega)
   intro r hr hwn _ hf
   obtain ⟨h0,h1⟩:=(hok r hr).hd hwn
   rw [z _ (by have:=hri.len; omega)] at hf
   cases hf
theorem zsl (k : Nat) : ∀ (xs ys : List Bool),xs.length = ys.length -> zb5 (deq (k + 1)) (xs.map D.bl) (ys.map D.bl) = some (xs == ys)
 | [],[],_=>rfl
 | [],_ :: _,h=>by cases h
 | _ :: _,[],h=>by cases h
 | e :: es,b :: bs,h=>by
  have ih:=zsl k es bs (by simpa using h)
  show ((deq (k + 1) (.bl e) (.bl b)).bind fun x=>(zb5 (deq (k + 1)) (es.map D.bl) (bs.map D.bl)).map fun r=>x && r) = _
  rw [show deq (k + 1) (.bl e) (.bl b) = some (e == b) from rfl,ih]
  rfl
theorem ztn (xs ys : List Bool) : deq 20 (roD xs) (roD ys) = some (xs == ys):=by
 show ((if (xs.map D.bl).length = (ys.map D.bl).length then zb5 (deq 19) (xs.map D.bl) (ys.map D.bl) else some false) : Option Bool) = _
 rw [List.length_map,List.length_map]
 by_cases h : xs.length = ys.length
 ·rw [if_pos h,zsl 18 xs ys h]
 ·rw [if_neg h]
  cases q : xs == ys with
  | false=>rfl
  | true=>exact absurd (by rw [beq_iff_eq.mp q]) h
theorem z2m (xs ys : List Bool) : dEq (roD xs) (roD ys) = some (.bl (xs == ys)):=by
 unfold dEq
 rw [ztn]
 rfl
theorem zyy (xs ys : List Bool) : dNe (roD xs) (roD ys) = some (.bl (!(xs == ys))):=by
 unfold dNe
 rw [ztn]
 rfl
theorem zse (k : Nat) : ∀ (xs ys : List Int),xs.length = ys.length -> zb5 (deq (k + 1)) (xs.map D.int) (ys.map D.int) = some (xs == ys)
 | [],[],_=>rfl
 | [],_ :: _,h=>by cases h
 | _ :: _,[],h=>by cases h
 | e :: es,b :: bs,h=>by
  have ih:=zse k es bs (by simpa using h)
  show ((deq (k + 1) (.int e) (.int b)).bind fun x=>(zb5 (deq (k + 1)) (es.map D.int) (bs.map D.int)).map fun r=>x && r) = _
  rw [show deq (k + 1) (.int e) (.int b) = some (e == b) from rfl,ih]
  rfl
theorem ztf (xs ys : List Int) : deq 19 (seD xs) (seD ys) = some (xs == ys):=by
 show ((if (xs.map D.int).length = (ys.map D.int).length then zb5 (deq 18) (xs.map D.int) (ys.map D.int) else some false) : Option Bool) = _
 rw [List.length_map,List.length_map]
 by_cases h : xs.length = ys.length
 ·rw [if_pos h,zse 17 xs ys h]
 ·rw [if_neg h]
  cases q : xs == ys with
  | false=>rfl
  | true=>exact absurd (by rw [beq_iff_eq.mp q]) h
theorem zqs (s : List Int) : ∀ ss : List (List Int),zfm (seD s) (ss.map seD) = some (ss.any (· == s))
 | []=>rfl
 | t :: ss=>by
  have ih:=zqs s ss
  show ((deq 19 (seD t) (seD s)).bind fun b=>(zfm (seD s) (ss.map seD)).map fun r=>b || r) = _
  rw [ztf,ih]
  rfl
theorem z3x (s : List Int) (ss : List (List Int)) (h : s ∈ ss) : zix (.lst (ss.map seD)) (seD s) = some (.int ((ss.findIdx (· == s) : Nat) : Int)):=by
 show (if zfm (seD s) (ss.map seD) = some true then some (D.int (((ss.map seD).findIdx (isE (seD s)) : Nat) : Int)) else none) = _
 rw [zqs,List.any_eq_true.mpr ⟨s,h,by simp⟩,if_pos rfl,List.findIdx_map]
 congr 4
 funext t
 show (deq 19 (seD t) (seD s) == some true) = (t == s)
 rw [ztf]
 cases t == s <;> rfl
theorem zrr (ws : List Bool) : ws.map D.bl = (L2.bs ws).map shD:=by
 unfold L2.bs
 rw [List.map_map]
 rfl
theorem zmk (ws : List Bool) : (L2.bs ws).length = ws.length:=by unfold L2.bs; rw [List.length_map]
noncomputable def ris (rs : List Rul) (ws : List Bool) : List Bool:=match m_3 [.lst (rs.map Rul.toD),roD ws] with
 | some (.lst ds)=>ds.map fun d=>match d with
  | .bl b=>b
  | _=>false
 | _=>[]
theorem zly {n : Nat} (rs : List Rul) (hok : ∀ r ∈ rs,r.Ok n) (hz : rs.length <= 1000) (ws : List Bool) (hw : ws.length = n) (n60 : n <= 60) : m_3 [.lst (rs.map Rul.toD),roD ws] = some (roD (ris rs ws)) /\ zlv rs n ws (ris rs ws) /\ ClR rs ws (ris rs ws):=by
 obtain ⟨d,e,ri,rfl,h1,h2⟩:=z4a rs hok hz ws hw n60
 have : ris rs ws = ri:=by
  unfold ris
  rw [e]
  show (ri.map D.bl).map _ = ri
  rw [List.map_map]
  exact List.map_id' ri
 rw [this]
 exact ⟨e,h1,h2⟩
noncomputable def zgl (ws ri : List Bool) : List Bool:=(List.range ws.length).map fun i=>ws.getD i false && !(ri.getD i false)
theorem zof (ws ri : List Bool) (i : Nat) : (zgl ws ri).getD i false = (ws.getD i false && !(ri.getD i false)):=by
 unfold zgl
 rw [List.getD_eq_getElem?_getD,List.getElem?_map]
 by_cases hi : i < ws.length
 ·rw [List.getElem?_range hi]
  rfl
 ·rw [List.getElem?_eq_none (by rw [List.length_range]; omega)]
  have : ws.getD i false = false:=by rw [List.getD_eq_getElem?_getD,List.getElem?_eq_none (by omega)]; rfl
  rw [this]
  rfl
theorem zwt {ws ri : List Bool} {p : Prt} (h : p.Ok ws.length) (hl : ri.length = ws.length) (hs : ∀ i : Nat,ri.getD i false = true -> ws.getD i false = true) (q : p.holds ri ws = false) : p.lost (L2.bs ws) (zgl ws ri) = true:=by
 cases p with
 | inn t =>
  have q : ri.getD t.toNat false = false:=q
  have h : 0 <= t /\ t < (ws.length : Int):=h
  show ((L2.bs ws).getD t.toNat none == some false || (zgl ws ri).getD t.toNat false) = true
  rw [zof,q,zku (by omega)]
  cases ws.getD t.toNat false <;> rfl
 | out t =>
  have h : 0 <= t /\ t < (ws.length : Int):=h
  have q : (!(ws.getD t.toNat false)) = false:=q
  show ((L2.bs ws).getD t.toNat none == some true) = true
  rw [zku (by omega)]
  cases e : ws.getD t.toNat false with
  | true=>rfl
  | false=>rw [e] at q; cases q
 | least k its =>
  have q : ¬ (k <= ze8 (· == some true) (L2.bs ri) its):=of_decide_eq_false q
  refine decide_eq_true ?_
  rw [zrb (by rw [hl]; exact h.1)] at q
  rw [show zdx (fun t=>!((L2.bs ws).getD t.toNat none == some false) && !((zgl ws ri).getD t.toNat false)) its = zdx (fun t=>ri.getD t.toNat false) its from zps fun z hz=>?_]
  ·omega
  ·have:=h.1 z hz
   rw [zof,zku (by omega)]
   have hh:=hs z.1.toNat
   cases e1 : ws.getD z.1.toNat false <;> cases e2 : ri.getD z.1.toNat false <;> first | rfl | (rw [e1,e2] at hh; exact absurd (hh rfl) (by decide))
 | most k its =>
  have q : ¬ (ze8 (· == some true) (L2.bs ws) its <= k):=of_decide_eq_false q
  exact decide_eq_true (by omega)
noncomputable def zgg (ws ri : List Bool) : List Int:=((List.range ws.length).filter fun i=>ws.getD i false && !(ri.getD i false)).map fun (i : Nat)=>(i : Int)
theorem z6i (ws ri : List Bool) {i : Nat} (hi : i < ws.length) : inS (zgg ws ri) i = (ws.getD i false && !(ri.getD i false)):=by
 refine Bool.eq_iff_iff.mpr ⟨fun z=>?_,fun z=>?_⟩
 ·obtain ⟨x,hx,e⟩:=List.any_eq_true.mp z
  obtain ⟨j,hj,rfl⟩:=List.mem_map.mp hx
  have e : (j : Int) = (i : Int):=by simpa using e
  have : j = i:=by omega
  rw [<- this]
  exact (List.mem_filter.mp hj).2
 ·exact List.any_eq_true.mpr ⟨(i : Int),List.mem_map.mpr ⟨i,List.mem_filter.mpr ⟨List.mem_range.mpr hi,z⟩,rfl⟩,by simp⟩
theorem z54 (ws ri : List Bool) : wiS ws.length (zgg ws ri) = zgl ws ri:=by
 unfold wiS zgl
 refine List.map_congr_left fun i hi=>?_
 exact z6i ws ri (List.mem_range.mp hi)
theorem zke (ws : List Bool) : wiS ws.length (zbo ws) = ws:=by
 unfold wiS
 refine List.ext_getElem (by rw [List.length_map,List.length_range]) fun i h1 h2=>?_
 rw [List.getElem_map,List.getElem_range]
 have e : ws[i] = ws.getD i false:=by rw [List.getD_eq_getElem?_getD,List.getElem?_eq_getElem h2]; rfl
 rw [e]
 refine Bool.eq_iff_iff.mpr ⟨fun z=>?_,fun z=>?_⟩
 ·obtain ⟨x,hx,ex⟩:=List.any_eq_true.mp z
  obtain ⟨j,hj,rfl⟩:=List.mem_map.mp hx
  have ex : (j : Int) = (i : Int):=by simpa using ex
  have : j = i:=by omega
  rw [<- this]
  exact (List.mem_filter.mp hj).2
 ·exact List.any_eq_true.mpr ⟨(i : Int),List.mem_map.mpr ⟨i,List.mem_filter.mpr ⟨List.mem_range.mpr h2,z⟩,rfl⟩,by simp⟩
theorem ztp (n m : Nat) (h : m <= n) (h60 : n <= 60) (p : Nat -> Bool) : zfe n (((List.range m).filter p).map fun (i : Nat)=>(i : Int)):=by
 refine ⟨fun x hx=>?_,?_⟩
 ·obtain ⟨i,hi,rfl⟩:=List.mem_map.mp hx
  have:=List.mem_range.mp (List.mem_filter.mp hi).1
  exact ⟨by omega,by omega⟩
 ·rw [List.length_map]
  have:=List.length_filter_le p (List.range m)
  rw [List.length_range] at this
  omega
noncomputable def Unb (rs : List Rul) (ws : List Bool) : Prop:=∀ r ∈ rs,r.surely (L2.bs ws) = false
theorem zwy {n : Nat} (n60 : n <= 60) (rs : List Rul) (hok : ∀ r ∈ rs,r.Ok n) (hz : rs.length <= 1000) (ss : List (List Int)) (ws : List Bool) (hw : ws.length = n) (hss : Unb rs ws -> ris rs ws = ws -> zbo ws ∈ ss) :
  ∃ d,zpa [.lst (rs.map Rul.toD),.lst (ss.map seD),roD ws] = some d /\ ∃ w : Wy,d = w.toD /\ w.Ok n /\ (∀ bs,rgt rs ss bs (L2.bs ws) w = true) /\ (Unb rs ws -> ris rs ws = ws -> w = .wld ((ss.findIdx (· == zbo ws) : Nat) : Int)):=by
 obtain ⟨er,hri,hcl⟩:=zly rs hok hz ws hw n60
 have hbl : (L2.bs ws).length = n:=by rw [zmk,hw]
 apply zf7
 unfold b_30
 show wp _ [.im (.lst (rs.map Rul.toD)),.im (.lst (ss.map seD)),.im (roD ws),.no,.no,.no] _
 apply zap
 refine zdg (List.range rs.length) (fun i=>D.tup [.int (i : Nat),(rs.getD i zgj).toD]) (fun pre ρ=>∃ v3 v4,ρ = [.im (.lst (rs.map Rul.toD)),.im (.lst (ss.map seD)),.im (roD ws),v3,v4,.no] /\ ∀ i ∈ pre,(rs.getD i zgj).surely (L2.bs ws) = false) (zme zgj (zae rfl rfl)) ⟨.no,.no,rfl,fun i hi=>(List.not_mem_nil hi).elim⟩ ?_ ?_
 ·rintro pre i post ρ ex ⟨v3,v4,rfl,hp⟩
  have hi : i < rs.length:=List.mem_range.mp (by rw [ex]; simp)
  have hm : rs.getD i zgj ∈ rs:=by
   rw [List.getD_eq_getElem?_getD,List.getElem?_eq_getElem hi]
   exact List.getElem_mem hi
  have eb:=ztb (es:=L2.bs ws) (rs.getD i zgj) (by rw [hbl]; exact hok _ hm)
  rw [<- zrr] at eb
  refine ⟨_,rfl,?_⟩
  walk_at "nrm"
  refine zbt (b:=(rs.getD i zgj).surely (L2.bs ws)) (zes (zav (zae rfl (zae rfl rfl)) eb) rfl) (fun hb=>?_) (fun hb=>zb4 ⟨_,_,rfl,fun j hj=>?_⟩)
  ·refine zch (d:=Wy.toD (.rul i)) rfl (zb0 ⟨.rul i,rfl,Int.natCast_nonneg i,fun bs=>?_,fun u=>?_⟩)
   ·show (decide ((i : Int) < (rs.length : Int)) && (rs.getD (i : Int).toNat zgj).surely (L2.bs ws)) = true
    rw [decide_eq_true (by omega),Int.toNat_natCast,hb]
    rfl
   ·rw [u _ hm] at hb
    cases hb
  ·rcases List.mem_append.mp hj with y | y
   ·exact hp j y
   ·rw [List.mem_singleton.mp y]
    exact hb
 ·rintro ρ ⟨v3,v4,rfl,hp⟩
  have unb : Unb rs ws:=fun r hr=>by
   obtain ⟨i,hi,e⟩:=List.getElem_of_mem hr
   have:=hp i (List.mem_range.mpr hi)
   rw [List.getD_eq_getElem?_getD,List.getElem?_eq_getElem hi] at this
   rw [<- e]
   exact this
  walk_at "nrm"
  apply zap
  refine zbu (zav (zae rfl (zae rfl rfl)) er) ?_
  walk_at "nrm"
  apply zap
  refine zbt (b:=!(ris rs ws == ws)) (zcq (zaz rfl rfl (zyy _ _))) (fun hb=>?_) (fun hb=>zb4 ?_)
  ·have hne : ris rs ws ≠ ws:=by simpa using hb
   have hgo:=ztp n ws.length (by omega) n60 (fun i=>ws.getD i false && !((ris rs ws).getD i false))
   refine zch (d:=Wy.toD (.grp (zgg ws (ris rs ws)))) (zck (zae rfl (zae (zbn ?_) rfl))) (zb0 ⟨.grp (zgg ws (ris rs ws)),rfl,hgo,fun bs=>?_,fun _ z=>absurd z hne⟩)
   ·have e : (zgg ws (ris rs ws)).map D.int = ((List.range ws.length).filter fun i=>ws.getD i false && !((ris rs ws).getD i false)).map fun (i : Nat)=>D.int i:=by
     unfold zgg
     rw [List.map_map]
     rfl
    rw [e]
    refine zgx (List.range ws.length) (fun i=>D.tup [.int (i : Nat),.bl (ws.getD i false)]) (fun i=>ws.getD i false && !((ris rs ws).getD i false)) (fun (i : Nat)=>D.int i) (zme false (zae rfl rfl)) (by rw [List.length_range]; omega) fun i hi=>?_
    have hi:=List.mem_range.mp hi
    exact zgf rfl (zhv rfl (zfy (zes (zaq rfl rfl (zgm (es:=ris rs ws) (i:=(i : Int)) (by omega) (by have:=hri.len; omega))) rfl))) fun _=>rfl
   ·show (((zgg ws (ris rs ws)).any fun x=>(L2.bs ws).getD x.toNat none == some true) && !(rs.any fun r=>hup (L2.bs ws) (wiS (L2.bs ws).length (zgg ws (ris rs ws))) r)) = true
    rw [zmk,z54]
    have h1 : ((zgg ws (ris rs ws)).any fun x=>(L2.bs ws).getD x.toNat none == some true) = true:=by
     obtain ⟨i,hi,e⟩ : ∃ i,i < ws.length /\ (ws.getD i false = true /\ (ris rs ws).getD i false = false):=by
      refine Classical.byContradiction fun hno=>hne ?_
      refine List.ext_getElem (by rw [hri.len,hw]) fun i h1 h2=>?_
      have e1 : (ris rs ws)[i] = (ris rs ws).getD i false:=by rw [List.getD_eq_getElem?_getD,List.getElem?_eq_getElem h1]; rfl
      have e2 : ws[i] = ws.getD i false:=by rw [List.getD_eq_getElem?_getD,List.getElem?_eq_getElem h2]; rfl
      rw [e1,e2]
      refine Bool.eq_iff_iff.mpr ⟨hri.sub i,fun z=>?_⟩
      cases q : (ris rs ws).getD i false with
      | true=>rfl
      | false=>exact absurd ⟨i,h2,z,q⟩ hno
     refine List.any_eq_true.mpr ⟨(i : Int),List.mem_map.mpr ⟨i,List.mem_filter.mpr ⟨List.mem_range.mpr hi,by rw [e.1,e.2]; rfl⟩,rfl⟩,?_⟩
     rw [Int.toNat_natCast,zku hi,e.1]
     rfl
    have h2 : (rs.any fun r=>hup (L2.bs ws) (zgl ws (ris rs ws)) r) = false:=by
     refine List.any_eq_false.mpr fun r hr z=>?_
     obtain ⟨wn,wg⟩:=z38 z
     rw [zof] at wg
     have wg : ws.getD r.hd.toNat false = true /\ (ris rs ws).getD r.hd.toNat false = false:=by simpa using wg
     have hb:=hcl r hr wn wg.1 wg.2
     obtain ⟨p,hp',hpf⟩:=List.all_eq_false.mp hb
     have hpf : p.holds (ris rs ws) ws = false:=by simpa using hpf
     have hl:=zwt (p:=p) (by rw [hw]; exact (hok r hr).ps p hp') (by rw [hri.len,hw]) hri.sub hpf
     have : r.bodyLost (L2.bs ws) (zgl ws (ris rs ws)) = true:=List.any_eq_true.mpr ⟨p,hp',hl⟩
     unfold hup at z
     rw [this] at z
     simp at z
    rw [h1,h2]
    rfl
  ·have heq : ris rs ws = ws:=by simpa using hb
   have hin:=hss unb heq
   walk_at "nrm"
   refine zch (d:=Wy.toD (.wld ((ss.findIdx (· == zbo ws) : Nat) : Int))) (zck (zae rfl (zae (zaz rfl (zav (zae rfl rfl) (zqi ws (by omega))) (z3x _ _ hin)) rfl))) (zb0 ⟨.wld ((ss.findIdx (· == zbo ws) : Nat) : Int),rfl,Int.natCast_nonneg _,fun bs=>?_,fun _ _=>rfl⟩)
   have hlt : ss.findIdx (· == zbo ws) < ss.length:=List.findIdx_lt_length_of_exists ⟨zbo ws,hin,by simp⟩
   show (decide (((ss.findIdx (· == zbo ws) : Nat) : Int) < (ss.length : Int)) && (L2.bs ws == (wiS (L2.bs ws).length (ss.getD ((ss.findIdx (· == zbo ws) : Nat) : Int).toNat [])).map some)) = true
   rw [decide_eq_true (by omega),Int.toNat_natCast,List.getD_eq_getElem?_getD,List.getElem?_eq_getElem hlt]
   have:=List.findIdx_getElem (w:=hlt)
   have e : ss[ss.findIdx (· == zbo ws)] = zbo ws:=by simpa using this
   show (true && (L2.bs ws == (wiS (L2.bs ws).length (ss[ss.findIdx (· == zbo ws)])).map some)) = true
   rw [e,zmk,zke]
   show (true && (L2.bs ws == L2.bs ws)) = true
   simp
noncomputable def zds (row : List Bool) : List (Int × Bool):=(List.range row.length).map fun (i : Nat)=>((i : Int),row.getD i false)
theorem zso {f : List Sl -> Option D} {ρ : List Sl} {row : List Bool} (h : f ρ = some (roD row)) : zan (zgt f) ρ = some (baD (zds row)):=by
 refine zbn ((z3h h).trans ?_)
 congr 1
 unfold zg2 zds
 rw [List.length_map,List.map_map]
 refine List.map_congr_left fun i hi=>?_
 have hi:=List.mem_range.mp hi
 show D.tup [.int i,(row.map D.bl).getD i .non] = brD ((i : Int),row.getD i false)
 rw [List.getD_eq_getElem?_getD,List.getElem?_map,List.getD_eq_getElem?_getD,List.getElem?_eq_getElem hi]
 rfl
noncomputable def tl (z : List Bool × Wy) : Ln:=(zds z.1,[(none,z.2)])
noncomputable def zcs (m first k : Nat) : Ln:=(zds ((za5 m).getD k []),[(some ((m : Int),false),.bar ((first : Int) + 2 * (k : Int))),(none,.bar ((first : Int) + 2 * (k : Int) + 1))])
noncomputable def zez (m first : Nat) : List Ln:=(List.range (za5 m).length).map (zcs m first)
noncomputable def zbb : Nat -> Nat -> Nat -> List Ln
 | 0,_,_=>[]
 | m + 1,first,s0=>zez m first ++ zbb m s0 (s0 + 2 ^ m)
theorem zsa (m first : Nat) : (zez m first).length = 2 ^ m:=by
 unfold zez
 rw [List.length_map,List.length_range,zgq]
theorem zsj {n i : Nat} {pre post : List Nat} (h : List.range n = pre ++ i :: post) : i = pre.length:=by
 have h1 : (List.range n)[pre.length]? = some i:=by rw [h]; simp
 have hl : pre.length < n:=by
  have : pre.length < (List.range n).length:=by rw [h]; simp
  simpa using this
 rw [List.getElem?_range hl] at h1
 exact (Option.some.inj h1).symm
noncomputable def PW (rs : List Rul) (ss : List (List Int)) (n : Nat) (z : List Bool × Wy) : Prop:=z.2.Ok n /\ (∀ bs,rgt rs ss bs (L2.bs z.1) z.2 = true) /\ (Unb rs z.1 -> ris rs z.1 = z.1 -> z.2 = .wld ((ss.findIdx (· == zbo z.1) : Nat) : Int))
theorem zv3 {n : Nat} (n4 : n <= 4) (rs : List Rul) (hok : ∀ r ∈ rs,r.Ok n) (hz : rs.length <= 1000) (ss : List (List Int)) (hss : ∀ ws ∈ za5 n,Unb rs ws -> ris rs ws = ws -> zbo ws ∈ ss) :
  ∃ d,m_4 [.int n,.lst (rs.map Rul.toD),.lst (ss.map seD)] = some d /\ ∃ zs : List (List Bool × Wy),zs.map (·.1) = za5 n /\ (∀ z ∈ zs,PW rs ss n z) /\ d = .lst ((zs.map tl ++ zbb n 0 (2 ^ n)).map lD):=by
 have h16:=zjz n4
 have hrl:=zgq n
 apply zf7
 unfold b_4
 show wp _ [.im (.int n),.im (.lst (rs.map Rul.toD)),.im (.lst (ss.map seD)),.no,.no,.no,.no,.no,.no,.no,.no,.no] _
 apply zap
 refine zeq (d:=[]) rfl ?_
 walk_at "nrm"
 apply zap
 refine zdg (za5 n) roD (fun pre ρ=>∃ (zs : List (List Bool × Wy)) (v4 : Sl),ρ = [.im (.int n),.im (.lst (rs.map Rul.toD)),.im (.lst (ss.map seD)),.own ((zs.map tl).map lD),v4,.no,.no,.no,.no,.no,.no,.no] /\ zs.map (·.1) = pre /\ ∀ z ∈ zs,PW rs ss n z) (zdi (zav (zae rfl rfl) (zpz n n4)) rfl) ⟨[],_,rfl,rfl,fun z hz=>(List.not_mem_nil hz).elim⟩ ?_ ?_
 ·rintro pre row post ρ ex ⟨zs,v4,rfl,hm,hp⟩
  have hrow:=zew n row (by rw [ex]; simp)
  have hpl : pre.length < (za5 n).length:=by rw [ex]; simp
  have hzl : zs.length = pre.length:=by rw [<- hm,List.length_map]
  obtain ⟨d,ed,w,rfl,hw⟩:=zwy (by omega) rs hok hz ss row hrow (hss row (by rw [ex]; simp))
  refine ⟨_,rfl,?_⟩
  walk_at "nrm"
  refine zfv (d:=lD (tl (row,w))) (zck (zae (zso rfl) (zae (zbn (zae (zck (zae rfl (zae (zav (zae rfl (zae rfl (zae rfl rfl))) ed) rfl))) rfl)) rfl))) rfl (by rw [List.length_map,List.length_map]; omega) ?_
  refine ⟨zs ++ [(row,w)],.im (roD row),by rw [List.map_append,List.map_append]; rfl,by rw [List.map_append,hm]; rfl,fun z hz'=>?_⟩
  rcases List.mem_append.mp hz' with y | y
  ·exact hp z y
  ·rw [List.mem_singleton.mp y]
   exact hw
 ·rintro ρ ⟨zs,v4,rfl,hm,hp⟩
  have hzl : zs.length = 2 ^ n:=by rw [<- hrl,<- hm,List.length_map]
  walk_at "nrm"
  apply zap
  refine zbu (d:=.int ((0 : Nat) : Int)) rfl ?_
  walk_at "nrm"
  apply zap
  refine zdg (List.range n) (fun (i : Nat)=>D.int i) (fun pre ρ=>∃ (L : List Ln) (first : Nat) (v4 v6 v7 v8 v9 v10 v11 : Sl),ρ = [.im (.int n),.im (.lst (rs.map Rul.toD)),.im (.lst (ss.map seD)),.own ((zs.map tl ++ L).map lD),v4,.im (.int first),v6,v7,v8,v9,v10,v11] /\ first <= 64 /\ L.length <= 16 * pre.length /\ L ++ zbb (n - pre.length) first (zs.length + L.length) = zbb n 0 (2 ^ n)) (by have:=zft (f:=zab (zaa 0) (fun _=>some [])) (ρ:=[.im (.int n),.im (.lst (rs.map Rul.toD)),.im (.lst (ss.map seD)),.own ((zs.map tl).map lD),v4,.im (.int ((0 : Nat) : Int)),.no,.no,.no,.no,.no,.no]) (n:=(n : Int)) rfl (by omega) (by omega); rw [this,Int.toNat_natCast]) ⟨[],0,_,_,_,_,_,_,_,by rw [List.append_nil],Nat.zero_le _,Nat.zero_le _,by rw [hzl]; rfl⟩ ?_ ?_
  ·rintro pre i post ρ ex ⟨L,first,v4,v6,v7,v8,v9,v10,v11,rfl,hfs,hLl,hL⟩
   have hi:=zsj ex
   have hpl : pre.length < n:=by
    have : pre.length < (List.range n).length:=by rw [ex]; simp
    simpa using this
   obtain ⟨m,hm'⟩ : ∃ m,n - pre.length = m + 1:=⟨n - pre.length - 1,by omega⟩
   have hm16:=zjz (n:=m) (by omega)
   have hml:=zgq m
   rw [hm'] at hL
   refine ⟨_,rfl,?_⟩
   walk_at "nrm"
   apply zap
   refine zbu (d:=.int m) ?_ ?_
   ·have : m2 zf4 (m2 zf4 (zaa 0) (fun _=>some (.int 1))) (zaa 6) [.im (.int n),.im (.lst (rs.map Rul.toD)),.im (.lst (ss.map seD)),.own ((zs.map tl ++ L).map lD),v4,.im (.int first),.im (.int i),v7,v8,v9,v10,v11] = some (.int ((n : Int) - 1 - (i : Int))):=rfl
    rw [this]
    congr 2
    omega
   walk_at "nrm"
   apply zap
   refine zbu (zav (zae rfl rfl) (zpz m (by omega))) ?_
   walk_at "nrm"
   apply zap
   refine zbu (d:=.int ((zs.length + L.length : Nat) : Int)) (zav (zae rfl rfl) ?_) ?_
   ·have:=zeo (zs.map tl ++ L) lD
    rw [List.length_append,List.length_map] at this
    exact this
   walk_at "nrm"
   apply zap
   refine zdg (List.range (za5 m).length) (fun k=>D.tup [.int (k : Nat),roD ((za5 m).getD k [])]) (fun pr ρ=>∃ v4 v10 v11 : Sl,ρ = [.im (.int n),.im (.lst (rs.map Rul.toD)),.im (.lst (ss.map seD)),.own ((zs.map tl ++ (L ++ pr.map (zcs m first))).map lD),v4,.im (.int first),.im (.int i),.im (.int m),.im (.lst ((za5 m).map roD)),.im (.int ((zs.length + L.length : Nat) : Int)),v10,v11]) (zme ([] : List Bool) (zae rfl rfl)) ⟨_,_,_,by rw [List.map_nil,List.append_nil]⟩ ?_ ?_
   ·rintro pr k po ρ ex2 ⟨v4,v10,v11,rfl⟩
    have hk:=zsj ex2
    have hkl : pr.length < (za5 m).length:=by
     have : pr.length < (List.range (za5 m).length).length:=by rw [ex2]; simp
     simpa using this
    refine ⟨_,rfl,?_⟩
    walk_at "nrm"
    have em : ∀ ρ : List Sl,ρ[10]? = some (.im (.int k)) -> m2 zcn (fun _=>some (.int 2)) (zaa 10) ρ = some (.int (2 * (k : Int))):=fun ρ h=>by
     refine zaz rfl ?_ (zsi (.inl (.inl ⟨by decide,by decide⟩)))
     unfold zaa
     rw [h]
    apply zap
    refine zbu (d:=.lst ((zcs m first k).2.map stD)) (zbn (zae (zck (zae (zck (zae rfl (zae rfl rfl))) (zae (zck (zae rfl (zae (zaz rfl (em _ rfl) zgy) rfl))) rfl))) (zae (zck (zae rfl (zae (zck (zae rfl (zae (zaz (zaz rfl (em _ rfl) zgy) rfl zgy) rfl))) rfl))) rfl))) ?_
    walk_at "nrm"
    refine zfv (d:=lD (zcs m first k)) (zck (zae (zso rfl) (zae rfl rfl))) rfl (by rw [List.length_map,List.length_append,List.length_append,List.length_map,List.length_map]; omega) ?_
    refine ⟨.im (roD ((za5 m).getD k [])),.im (.int k),.im (.lst ((zcs m first k).2.map stD)),?_⟩
    have e : (zs.map tl ++ (L ++ (pr ++ [k]).map (zcs m first))).map lD = (zs.map tl ++ (L ++ pr.map (zcs m first))).map lD ++ [lD (zcs m first k)]:=by simp
    rw [e]
    rfl
   ·rintro ρ ⟨v4,v10,v11,rfl⟩
    walk_at "nrm"
    refine zbu rfl ?_
    refine ⟨L ++ zez m first,zs.length + L.length,_,_,_,_,_,_,_,rfl,by omega,by rw [List.length_append,zsa,List.length_append,List.length_singleton]; omega,?_⟩
    rw [show n - (pre ++ [i]).length = m by rw [List.length_append,List.length_singleton]; omega,List.length_append,zsa,List.append_assoc,<- Nat.add_assoc]
    exact hL
  ·rintro ρ ⟨L,first,v4,v6,v7,v8,v9,v10,v11,rfl,hfs,hLl,hL⟩
   rw [List.length_range,Nat.sub_self] at hL
   have hL : L ++ [] = zbb n 0 (2 ^ n):=hL
   rw [List.append_nil] at hL
   refine zgw rfl (zg1 ⟨zs,hm,hp,?_⟩)
   rw [hL]
theorem znu (rs : List Rul) (ss : List (List Int)) (n : Nat) : ∀ (a b : List Ln) (bs : List (List (Int × Bool))),pgo rs ss n bs (a ++ b) = (pgo rs ss n bs a && pgo rs ss n (bs ++ a.map (·.1)) b)
 | [],b,bs=>by rw [List.map_nil,List.append_nil]; rfl
 | l :: a,b,bs=>by
  show (rst rs ss bs (beg n l.1) l.2 && pgo rs ss n (bs ++ [l.1]) (a ++ b)) = ((rst rs ss bs (beg n l.1) l.2 && pgo rs ss n (bs ++ [l.1]) a) && _)
  rw [znu rs ss n a b (bs ++ [l.1]),Bool.and_assoc,List.map_cons,List.append_assoc]
  rfl
theorem zw0 {rs : List Rul} {ss : List (List Int)} {n : Nat} {a b : List Ln} {l : Ln} {bs : List (List (Int × Bool))} (h : rst rs ss (bs ++ a.map (·.1)) (beg n l.1) l.2 = false) : pgo rs ss n bs (a ++ l :: b) = false:=by
 rw [znu]
 show (_ && (rst rs ss (bs ++ a.map (·.1)) (beg n l.1) l.2 && _)) = false
 rw [h,Bool.false_and,Bool.and_false]
theorem zlm {rs : List Rul} {ss : List (List Int)} {n : Nat} {a b : List Ln} {l : Ln} (h : rst rs ss (a.map (·.1)) (beg n l.1) l.2 = false) : zd2 rs ss n (a ++ l :: b) = false:=by
 unfold zd2
 rw [zw0 (bs:=[]) (by rw [List.nil_append]; exact h),Bool.false_and]
noncomputable def zmm (z : Stp) : Prop:=∃ k,z.2 = .bar k
theorem znp (rs : List Rul) (ss : List (List Int)) (bs : List (List (Int × Bool))) : ∀ (zs : List Stp) (es : List (Option Bool)),(∀ z ∈ zs,zmm z) -> rst rs ss bs es zs = rst [] [] bs es zs
 | [],_,_=>rfl
 | [z],es,h=>by
  obtain ⟨o,w⟩:=z
  obtain ⟨k,e⟩:=h _ List.mem_cons_self
  have e : w = .bar k:=e
  subst e
  rfl
 | z :: y :: r,es,h=>by
  have ih:=znp rs ss bs (y :: r) (aft es z.1) fun q hq=>h q (List.mem_cons_of_mem _ hq)
  obtain ⟨o,w⟩:=z
  obtain ⟨k,e⟩:=h _ List.mem_cons_self
  have e : w = .bar k:=e
  subst e
  show (o.isSome && ((rgt rs ss bs (trl es o) (.bar k) && zfd es o) && rst rs ss bs (aft es o) (y :: r))) = _
  rw [ih]
  rfl
theorem zu0 (rs : List Rul) (ss : List (List Int)) (n : Nat) : ∀ (ls : List Ln) (bs : List (List (Int × Bool))),(∀ l ∈ ls,∀ z ∈ l.2,zmm z) -> pgo rs ss n bs ls = pgo [] [] n bs ls
 | [],_,_=>rfl
 | l :: ls,bs,h=>by
  show (rst rs ss bs (beg n l.1) l.2 && pgo rs ss n (bs ++ [l.1]) ls) = _
  rw [znp rs ss bs l.2 _ (h l List.mem_cons_self),zu0 rs ss n ls _ fun q hq=>h q (List.mem_cons_of_mem _ hq)]
  rfl
theorem zu3 (m first k : Nat) : ∀ z ∈ (zcs m first k).2,zmm z:=fun z hz=>by
 simp only [zcs,List.mem_cons,List.not_mem_nil,or_false] at hz
 rcases hz with rfl | rfl
 ·exact ⟨_,rfl⟩
 ·exact ⟨_,rfl⟩
theorem zoj : ∀ (m first s0 : Nat) (l : Ln),l ∈ zbb m first s0 -> ∃ m' f k,m' < m /\ k < (za5 m').length /\ l = zcs m' f k
 | 0,_,_,_,h=>(List.not_mem_nil h).elim
 | m + 1,first,s0,l,h=>by
  rcases List.mem_append.mp h with h | h
  ·obtain ⟨k,hk,rfl⟩:=List.mem_map.mp h
   exact ⟨m,first,k,Nat.lt_succ_self _,List.mem_range.mp hk,rfl⟩
  ·obtain ⟨m',f,k,h1,h2,h3⟩:=zoj m _ _ l h
   exact ⟨m',f,k,Nat.lt_succ_of_lt h1,h2,h3⟩
theorem z2k (m first s0 : Nat) : ∀ l ∈ zbb m first s0,∀ z ∈ l.2,zmm z:=fun l hl=>by
 obtain ⟨m',f,k,_,_,rfl⟩:=zoj m first s0 l hl
 exact zu3 m' f k
noncomputable def zgk (n : Nat) : List (List (Int × Bool)):=(za5 n).map zds ++ (zbb n 0 (2 ^ n)).map (·.1)
theorem zr7 : ∀ n,n < 5 -> ∀ row ∈ za5 n,beg n (zds row) = row.map some:=by decide +kernel
theorem zzi : ∀ n,n < 5 -> pgo [] [] n ((za5 n).map zds) (zbb n 0 (2 ^ n)) = true:=by decide +kernel
theorem z39 : ∀ n,n < 5 -> (zgk n).getLast? = some []:=by decide +kernel
theorem z1f : ∀ n,n < 5 -> (zgk n).dropLast.getLast? ≠ some []:=by decide +kernel
theorem zpx : ∀ n,n < 5 -> (zgk n).length + 1 = 2 * 2 ^ n:=by decide +kernel
theorem z0s : ∀ n,n < 5 -> n ≠ 0 -> (zbb n 0 (2 ^ n)).dropLast ++ [zcs 0 (2 * 2 ^ n - 4) 0] = zbb n 0 (2 ^ n):=fun n h h0=>by
 match n,h,h0 with
 | 0,_,h0=>exact absurd rfl h0
 | 1,_,_=>rfl
 | 2,_,_=>rfl
 | 3,_,_=>rfl
 | 4,_,_=>rfl
noncomputable def zjf (ls : List Ln) : Bool:=match ls.getLast? with
 | none=>false
 | some l=>l.1.isEmpty
theorem zrk (ls : List Ln) : zjf ls = match (ls.map (·.1)).getLast? with
  | none=>false
  | some b=>b.isEmpty:=by
 unfold zjf
 rw [List.getLast?_map]
 cases ls.getLast? <;> rfl
theorem zs8 {n : Nat} (n4 : n <= 4) {rs : List Rul} {ss : List (List Int)} : ∀ (zs : List (List Bool × Wy)) (bs : List (List (Int × Bool))),(∀ z ∈ zs,z.1 ∈ za5 n) -> (∀ z ∈ zs,PW rs ss n z) -> pgo rs ss n bs (zs.map tl) = true
 | [],_,_,_=>rfl
 | z :: zs,bs,h1,h2=>by
  show (rst rs ss bs (beg n (zds z.1)) [(none,z.2)] && pgo rs ss n (bs ++ [zds z.1]) (zs.map tl)) = true
  rw [zs8 n4 zs _ (fun q hq=>h1 q (List.mem_cons_of_mem _ hq)) fun q hq=>h2 q (List.mem_cons_of_mem _ hq),zr7 n (by omega) z.1 (h1 z List.mem_cons_self),Bool.and_true]
  show (true && (rgt rs ss bs (L2.bs z.1) z.2 && true)) = true
  rw [(h2 z List.mem_cons_self).2.1 bs]
  rfl
theorem zls (zs : List (List Bool × Wy)) : (zs.map tl).map (·.1) = (zs.map (·.1)).map zds:=by
 rw [List.map_map,List.map_map]
 rfl
theorem zw8 {n : Nat} (n4 : n <= 4) {rs : List Rul} {ss : List (List Int)} {zs : List (List Bool × Wy)} (hm : zs.map (·.1) = za5 n) (hp : ∀ z ∈ zs,PW rs ss n z) : zd2 rs ss n (zs.map tl ++ zbb n 0 (2 ^ n)) = true:=by
 have hin : ∀ z ∈ zs,z.1 ∈ za5 n:=fun z hz=>by rw [<- hm]; exact List.mem_map.mpr ⟨z,hz,rfl⟩
 have e1 : pgo rs ss n [] (zs.map tl ++ zbb n 0 (2 ^ n)) = true:=by
  rw [znu,zs8 n4 zs [] hin hp,List.nil_append,zls,hm,zu0 rs ss n _ _ (z2k n 0 (2 ^ n)),zzi n (by omega)]
  rfl
 have e2 : zjf (zs.map tl ++ zbb n 0 (2 ^ n)) = true:=by
  rw [zrk,List.map_append,zls,hm]
  show (match (zgk n).getLast? with | none=>false | some b=>b.isEmpty) = true
  rw [z39 n (by omega)]
  rfl
 show (pgo rs ss n [] (zs.map tl ++ zbb n 0 (2 ^ n)) && zjf (zs.map tl ++ zbb n 0 (2 ^ n))) = true
 rw [e1,e2]
 rfl
theorem zwp {rs : List Rul} {ss : List (List Int)} {n : Nat} {ls : List Ln} (h : zjf ls = false) : zd2 rs ss n ls = false:=by
 show (pgo rs ss n [] ls && zjf ls) = false
 rw [h,Bool.and_false]
theorem sp0 {n : Nat} (n4 : n <= 4) {rs : List Rul} {ss : List (List Int)} {zs : List (List Bool × Wy)} (hm : zs.map (·.1) = za5 n) : zd2 rs ss n (zs.map tl ++ zbb n 0 (2 ^ n)).dropLast = false:=by
 refine zwp ?_
 rw [zrk,List.map_dropLast,List.map_append,zls,hm]
 show (match (zgk n).dropLast.getLast? with | none=>false | some b=>b.isEmpty) = false
 have:=z1f n (by omega)
 cases q : (zgk n).dropLast.getLast? with
 | none=>rfl
 | some b =>
  cases b with
  | nil=>rw [q] at this; exact absurd rfl this
  | cons _ _=>rfl
theorem z34 {rs : List Rul} {ss : List (List Int)} {bs : List (List (Int × Bool))} {es : List (Option Bool)} {m f k : Nat} (h : (bs.length : Int) <= (f : Int) + 2 * (k : Int) + 1) : rst rs ss bs es (zcs m f k).2 = false:=by
 show (true && (_ && (true && ((decide ((f : Int) + 2 * (k : Int) + 1 < (bs.length : Int)) && _) && _)))) = false
 rw [decide_eq_false (by omega)]
 simp
theorem sp1 {n : Nat} (n4 : n <= 4) {rs : List Rul} {ss : List (List Int)} {zs : List (List Bool × Wy)} (hm : zs.map (·.1) = za5 n) {k : Nat} (hk : k < (zs.map tl ++ zbb n 0 (2 ^ n)).length) : zd2 rs ss n ((zs.map tl ++ zbb n 0 (2 ^ n)).take k ++ (zs.map tl ++ zbb n 0 (2 ^ n)).drop (k + 1)) = false:=by
 have hl : (zs.map tl ++ zbb n 0 (2 ^ n)).length + 1 = 2 * 2 ^ n:=by
  have:=zpx n (by omega)
  unfold zgk at this
  rw [List.length_append,List.length_map,List.length_map,<- hm,List.length_map] at this
  rw [List.length_append,List.length_map]
  exact this
 generalize hL : zs.map tl ++ zbb n 0 (2 ^ n) = L at hk hl
 by_cases he : k + 1 = L.length
 ·rw [List.drop_of_length_le (by omega),List.append_nil,show k = L.length - 1 by omega,<- List.dropLast_eq_take,<- hL]
  exact sp0 n4 hm
 ·have h0 : n ≠ 0:=fun z=>by
   subst z
   have : 2 * 2 ^ 0 = 2:=rfl
   omega
  have eL : L = (zs.map tl ++ (zbb n 0 (2 ^ n)).dropLast) ++ [zcs 0 (2 * 2 ^ n - 4) 0]:=by
   rw [<- hL,List.append_assoc,z0s n (by omega) h0]
  have hpos : 2 <= 2 ^ n:=by
   obtain ⟨m,rfl⟩:=Nat.exists_eq_succ_of_ne_zero h0
   have:=Nat.one_le_two_pow (n:=m)
   rw [Nat.pow_succ]
   omega
  generalize hA : zs.map tl ++ (zbb n 0 (2 ^ n)).dropLast = A at eL
  have hAl : A.length + 1 = L.length:=by rw [eL,List.length_append]; rfl
  have e1 : L.take k ++ L.drop (k + 1) = (A.take k ++ A.drop (k + 1)) ++ zcs 0 (2 * 2 ^ n - 4) 0 :: []:=by
   rw [eL,List.take_append_of_le_length (by omega),List.drop_append_of_le_length (by omega),List.append_assoc]
  rw [e1]
  refine zlm (z34 ?_)
  rw [List.length_map,List.length_append,List.length_take,List.length_drop]
  have : ((2 * 2 ^ n - 4 : Nat) : Int) = 2 * ((2 ^ n : Nat) : Int) - 4:=by omega
  omega
theorem z2t {rs : List Rul} {ss : List (List Int)} {bs : List (List (Int × Bool))} {es : List (Option Bool)} {k : Int} (h : (es == (wiS es.length (ss.getD k.toNat [])).map some) = false) : rst rs ss bs es [(none,.wld k)] = false:=by
 show (true && ((decide (k < (ss.length : Int)) && (es == (wiS es.length (ss.getD k.toNat [])).map some)) && true)) = false
 rw [h]
 simp
theorem sp2 {n : Nat} (n4 : n <= 4) {rs : List Rul} {ss : List (List Int)} {zs : List (List Bool × Wy)} (hm : zs.map (·.1) = za5 n) (hp : ∀ z ∈ zs,PW rs ss n z) {k : Nat} {row row' : List Bool} (hr : row ∈ za5 n) (hu : Unb rs row) (hs : ris rs row = row) (hk : ss.findIdx (· == zbo row) = k) (hl : row'.length = n) (hne : row' ≠ row) (ls : List Ln) (hk2 : k < ss.length) :
  zd2 rs (ss.set k (zbo row')) n (zs.map tl ++ ls) = false:=by
 obtain ⟨z,hz,ez⟩:=List.mem_map.mp (show row ∈ zs.map (·.1) by rw [hm]; exact hr)
 have ez : z.1 = row:=ez
 have hw:=(hp z hz).2.2 (by rw [ez]; exact hu) (by rw [ez]; exact hs)
 rw [ez,hk] at hw
 obtain ⟨a,b,e⟩:=List.append_of_mem hz
 rw [e,List.map_append,List.map_cons,List.append_assoc,List.cons_append]
 refine zlm ?_
 show rst rs _ _ (beg n (zds z.1)) [(none,z.2)] = false
 rw [ez,hw,zr7 n (by omega) row hr]
 refine z2t ?_
 have hrl:=zew n row hr
 rw [Int.toNat_natCast,List.length_map,List.getD_eq_getElem?_getD,List.getElem?_set_self hk2]
 show (row.map some == (wiS row.length (zbo row')).map some) = false
 rw [hrl,<- hl,zke]
 refine beq_eq_false_iff_ne.mpr fun q=>hne ?_
 have:=congrArg (List.map fun o : Option Bool=>o.getD false) q
 rw [List.map_map,List.map_map] at this
 have i1 : row.map ((fun o : Option Bool=>o.getD false) ∘ some) = row:=List.map_id' row
 have i2 : row'.map ((fun o : Option Bool=>o.getD false) ∘ some) = row':=List.map_id' row'
 rw [i1,i2] at this
 exact this.symm
theorem z5s : ∀ n,n < 4 -> ∀ k,k < 2 * 2 ^ n - 1 -> rst [] [] (((za5 (n + 1)).map zds).take (k + 1) ++ ((za5 (n + 1)).map zds).drop k ++ ((zez n 0).take (2 ^ n - 1)).map (·.1)) (beg (n + 1) (zcs n 0 (2 ^ n - 1)).1) (zcs n 0 (2 ^ n - 1)).2 = false:=by decide +kernel
theorem z6n : ∀ n,n < 4 -> (zez n 0).take (2 ^ n - 1) ++ [zcs n 0 (2 ^ n - 1)] = zez n 0:=fun n h=>by
 match n,h with
 | 0,_=>rfl
 | 1,_=>rfl
 | 2,_=>rfl
 | 3,_=>rfl
theorem sp3 {n : Nat} (n4 : n + 1 <= 4) {rs : List Rul} {ss : List (List Int)} {zs : List (List Bool × Wy)} (hm : zs.map (·.1) = za5 (n + 1)) {k : Nat} (hk : k < 2 * 2 ^ n - 1) : zd2 rs ss (n + 1) ((zs.map tl ++ zbb (n + 1) 0 (2 ^ (n + 1))).take (k + 1) ++ (zs.map tl ++ zbb (n + 1) 0 (2 ^ (n + 1))).drop k) = false:=by
 have hzl : zs.length = 2 * 2 ^ n:=by
  have:=zgq (n + 1)
  rw [<- hm,List.length_map,Nat.pow_succ] at this
  omega
 rw [List.take_append_of_le_length (by rw [List.length_map]; omega),List.drop_append_of_le_length (by rw [List.length_map]; omega)]
 have el : zbb (n + 1) 0 (2 ^ (n + 1)) = (zez n 0).take (2 ^ n - 1) ++ zcs n 0 (2 ^ n - 1) :: zbb n (2 ^ (n + 1)) (2 ^ (n + 1) + 2 ^ n):=by
  show zez n 0 ++ _ = _
  rw [show (zez n 0).take (2 ^ n - 1) ++ zcs n 0 (2 ^ n - 1) :: zbb n (2 ^ (n + 1)) (2 ^ (n + 1) + 2 ^ n) = ((zez n 0).take (2 ^ n - 1) ++ [zcs n 0 (2 ^ n - 1)]) ++ zbb n (2 ^ (n + 1)) (2 ^ (n + 1) + 2 ^ n) by simp,z6n n (by omega)]
 rw [el,show (zs.map tl).take (k + 1) ++ ((zs.map tl).drop k ++ ((zez n 0).take (2 ^ n - 1) ++ zcs n 0 (2 ^ n - 1) :: zbb n (2 ^ (n + 1)) (2 ^ (n + 1) + 2 ^ n))) = ((zs.map tl).take (k + 1) ++ (zs.map tl).drop k ++ (zez n 0).take (2 ^ n - 1)) ++ zcs n 0 (2 ^ n - 1) :: zbb n (2 ^ (n + 1)) (2 ^ (n + 1) + 2 ^ n) by simp]
 refine zlm ?_
 rw [List.map_append,List.map_append,List.map_take,List.map_drop,zls,hm,znp _ _ _ _ _ (zu3 n 0 (2 ^ n - 1))]
 exact z5s n (by omega) k hk
theorem zp4 {rs : List Rul} {ss : List (List Int)} {bs : List (List (Int × Bool))} {w : Wy} (h : ∀ es,rgt rs ss bs es w = false) : ∀ (zs : List Stp) (es : List (Option Bool)),rst rs ss bs es (zs ++ [(none,w)]) = false
 | [],es=>by
  show (true && (rgt rs ss bs es w && true)) = false
  rw [h]
  rfl
 | [z],es=>by
  show (z.1.isSome && (_ && rst rs ss bs (aft es z.1) ([] ++ [(none,w)]))) = false
  rw [zp4 h [] _]
  simp
 | z :: y :: r,es=>by
  show (z.1.isSome && (_ && rst rs ss bs (aft es z.1) ((y :: r) ++ [(none,w)]))) = false
  rw [zp4 h (y :: r) _]
  simp
theorem sp4 {n : Nat} {rs : List Rul} {ss : List (List Int)} {a b : List Ln} {bar : List (Int × Bool)} {zs : List Stp} {w : Wy} {K : Int} (hw : w = .rul K \/ w = .bar K \/ w = .wld K) (h1 : (rs.length : Int) <= K) (h2 : (ss.length : Int) <= K) (h3 : (a.length : Int) <= K) : zd2 rs ss n (a ++ (bar,zs ++ [(none,w)]) :: b) = false:=by
 refine zlm (zp4 (fun es=>?_) zs _)
 rcases hw with rfl | rfl | rfl
 ·show (decide (K < (rs.length : Int)) && _) = false
  rw [decide_eq_false (by omega)]
  rfl
 ·show (decide (K < ((a.map (·.1)).length : Int)) && _) = false
  rw [List.length_map,decide_eq_false (by omega)]
  rfl
 ·show (decide (K < (ss.length : Int)) && _) = false
  rw [decide_eq_false (by omega)]
  rfl
theorem zth {n : Nat} (n60 : n <= 60) {row : List Bool} (h : row.length <= n) : zhi n (zds row) /\ ((zds row).map (·.1)).Nodup:=by
 refine ⟨⟨fun z hz=>?_,?_⟩,?_⟩
 ·obtain ⟨i,hi,rfl⟩:=List.mem_map.mp hz
  have:=List.mem_range.mp hi
  exact ⟨Int.natCast_nonneg i,by show (i : Int) < _; omega⟩
 ·unfold zds
  rw [List.length_map,List.length_range]
  omega
 ·unfold zds
  rw [List.map_map]
  refine List.pairwise_map.mpr (List.nodup_range.imp fun {a b} h e=>h ?_)
  have e : (a : Int) = (b : Int):=e
  omega
theorem ztr {n : Nat} (n60 : n <= 60) {z : List Bool × Wy} (h : z.1.length <= n) (hw : z.2.Ok n) : LnM n (tl z) /\ (tl z).2.length <= 2:=by
 obtain ⟨a,b⟩:=zth n60 h
 refine ⟨⟨⟨a,fun y hy=>?_,by show 1 <= 1000; decide⟩,b⟩,by show 1 <= 2; decide⟩
 rw [List.mem_singleton.mp hy]
 exact ⟨(fun q e=>by cases e),hw⟩
theorem zr0 {n : Nat} (n60 : n <= 60) (f s0 : Nat) : ∀ l ∈ zbb n f s0,LnM n l /\ l.2.length <= 2:=fun l hl=>by
 obtain ⟨m,f',k,hm,hk,rfl⟩:=zoj n f s0 l hl
 have hrow : ((za5 m).getD k []).length = m:=by
  rw [List.getD_eq_getElem?_getD,List.getElem?_eq_getElem hk]
  exact zew m _ (List.getElem_mem hk)
 obtain ⟨a,b⟩:=zth n60 (row:=(za5 m).getD k []) (by omega)
 refine ⟨⟨⟨a,fun y hy=>?_,by show 2 <= 1000; decide⟩,b⟩,by show 2 <= 2; decide⟩
 simp only [zcs,List.mem_cons,List.not_mem_nil,or_false] at hy
 rcases hy with rfl | rfl
 ·refine ⟨fun q e=>?_,?_⟩
  ·cases e
   exact ⟨Int.natCast_nonneg m,by show (m : Int) < _; omega⟩
  ·show (0 : Int) <= (f' : Int) + 2 * (k : Int)
   omega
 ·refine ⟨(fun q e=>by cases e),?_⟩
  show (0 : Int) <= (f' : Int) + 2 * (k : Int) + 1
  omega
theorem zkh {α : Type} {f : List Sl -> Option D} {g : List Sl -> Option D} {ρ : List Sl} {h : α -> D} {xs : List α} {k : Int} (e : f ρ = some (.lst (xs.map h))) (eg : mPt g ρ = some (some k)) (k0 : 0 <= k) : zan (mSl f (fun _=>some none) (mPt g)) ρ = some (.lst ((xs.take k.toNat).map h)):=by
 have:=zht (l:=fun _=>some none) (h:=mPt g) (lo:=none) (hi:=some k) e rfl eg
 rw [zbn this,show some k = some ((k.toNat : Nat) : Int) by congr 1; omega,HT.sIx_nat,HT.sIx_none,List.drop_zero,Nat.sub_zero]
 congr 3
 by_cases hk : k.toNat <= xs.length
 ·rw [Nat.min_eq_left hk]
 ·rw [Nat.min_eq_right (by omega),List.take_of_length_le (Nat.le_refl _),List.take_of_length_le (by omega)]
theorem zkt {α : Type} {f : List Sl -> Option D} {g : List Sl -> Option D} {ρ : List Sl} {h : α -> D} {xs : List α} {k : Int} (e : f ρ = some (.lst (xs.map h))) (eg : mPt g ρ = some (some k)) (k0 : 0 <= k) : zan (mSl f (mPt g) (fun _=>some none)) ρ = some (.lst ((xs.drop k.toNat).map h)):=by
 have:=zht (l:=mPt g) (h:=fun _=>some none) (lo:=some k) (hi:=none) e eg rfl
 rw [zbn this,show some k = some ((k.toNat : Nat) : Int) by congr 1; omega,HT.sIx_nat,HT.sIx_none]
 congr 3
 by_cases hk : k.toNat <= xs.length
 ·rw [Nat.min_eq_left hk,List.take_of_length_le (by rw [List.length_drop]; omega)]
 ·rw [Nat.min_eq_right (by omega),Nat.sub_self,List.take_zero,List.drop_of_length_le (by omega)]
theorem zs3 {α : Type} {f : List Sl -> Option D} {ρ : List Sl} {h : α -> D} {xs : List α} (e : f ρ = some (.lst (xs.map h))) : zan (mSl f (fun _=>some none) (mPt (m1 zho (fun _=>some (.int 1))))) ρ = some (.lst (xs.dropLast.map h)):=by
 have:=zht (l:=fun _=>some none) (h:=mPt (m1 zho (fun _=>some (.int 1)))) (lo:=none) (hi:=some (-1)) e rfl rfl
 rw [zbn this,HT.sIx_none,List.drop_zero,Nat.sub_zero,List.dropLast_eq_take]
 have : HT.sIx xs.length xs.length (some (-1)) = xs.length - 1:=by
  show (if (-1 : Int) < 0 then ((-1 : Int) + (xs.length : Int)).toNat else min (-1 : Int).toNat xs.length) = _
  rw [if_pos (by decide)]
  omega
 rw [this]
theorem zh0 {α : Type} {f g : List Sl -> Option D} {ρ : List Sl} {h : α -> D} {a b : List α} (h1 : f ρ = some (.lst (a.map h))) (h2 : g ρ = some (.lst (b.map h))) (hl : a.length + b.length <= 16777216) : zan (zdd f g) ρ = some (.lst ((a ++ b).map h)):=by
 rw [zbn (zmq h1 h2 (by rw [List.length_map,List.length_map]; exact hl)),List.map_append]
structure WF (n : Nat) (ss : List (List Int)) (ls : List Ln) : Prop where
 hs : ∀ s ∈ ss,zfe n s
 sl : ss.length <= 200
 hl : ∀ l ∈ ls,LnM n l /\ l.2.length <= 2
 ll : ls.length <= 200
theorem z6l (n : Nat) (rs : List Rul) (ss : List (List Int)) : zcp 20 (.lst [plD n rs,.lst (ss.map seD)]):=by
 have : zcp 11 (.lst [plD n rs,.lst (ss.map seD)]):=fun x hx=>by
  simp only [List.mem_cons,List.not_mem_nil,or_false] at hx
  rcases hx with rfl | rfl
  ·intro y hy
   simp only [List.mem_cons,List.not_mem_nil,or_false] at hy
   rcases hy with rfl | rfl
   ·exact rfl
   ·intro z hz
    obtain ⟨r,_,rfl⟩:=List.mem_map.mp hz
    exact (z37 r).le (by decide)
  ·intro y hy
   obtain ⟨r,_,rfl⟩:=List.mem_map.mp hy
   exact (zq1 r).le (by decide)
 exact this.le (by decide)
theorem z6x (ls : List Ln) : zcp 20 (.lst (ls.map lD)):=by
 have : zcp 8 (.lst (ls.map lD)):=fun x hx=>by
  obtain ⟨l,_,rfl⟩:=List.mem_map.mp hx
  exact z5b l.1 l.2
 exact this.le (by decide)
theorem ztu {n : Nat} (n60 : n <= 60) (rs : List Rul) (hok : ∀ r ∈ rs,r.Ok n) (hz : rs.length <= 1000) (hp : ∀ r ∈ rs,r.ps.length <= 1000) (ss : List (List Int)) (ls : List Ln) (w : WF n ss ls) (b : Bool) (hb : zd2 rs ss n ls = b) :
  zl1 [.int n,.lst (rs.map Rul.toD),.lst (ss.map seD),.lst (ls.map lD),.bl b] = some (.bl true):=by
 have h1:=w.sl
 have h2:=w.ll
 have er:=zwj (rs:=rs) (ss:=ss) n n60 hok hz w.hs ls (fun l hl=>(w.hl l hl).1) (by omega)
 rw [hb] at er
 apply zd3
 unfold b_10
 show wp _ [.im (.int n),.im (.lst (rs.map Rul.toD)),.im (.lst (ss.map seD)),.im (.lst (ls.map lD)),.im (.bl b),.no,.no,.no] _
 apply zap
 refine zbu (d:=.lst [plD n rs,.lst (ss.map seD)]) (zbn (zae (zck (zae rfl (zae (zav (zae rfl rfl) (z20 rs hz hp)) rfl))) (zae (zbn (zdn ss seD seD rfl (by omega) fun s _=>zda rfl rfl rfl)) rfl))) ?_
 walk_at "nrm"
 apply zap
 refine zbu (d:=.lst (ls.map lD)) (zbn (zdn ls lD lD rfl (by omega) fun l hl=>zda rfl rfl (zck (zae rfl (zae (zav (zae rfl rfl) (z1d l.2 (by have:=(w.hl l hl).2; omega))) rfl))))) ?_
 walk_at "nrm"
 apply zap
 refine zbu (zav (zae (zaq rfl rfl rfl) (zae (zaq rfl rfl rfl) (zae rfl rfl))) er) ?_
 walk_at "nrm"
 apply zap
 refine zbt (b:=false) (zkk (zfy (b:=true) rfl) (zcq (zaz rfl rfl (z5f b)))) (fun z=>by cases z) (fun _=>zb4 ?_)
 walk_at "nrm"
 exact zch (zhh (a:=true) (b:=true) (zaz rfl rfl (zuc (z6l n rs ss))) (zaz rfl rfl (zuc (z6x ls)))) (zb0 rfl)
theorem zt5 : ∀ (l : List (List Int)) (k : Nat) (h : k < l.length),l.Nodup -> l.findIdx (· == l[k]) = k
 | a :: l,0,_,_=>by simp [List.findIdx_cons]
 | a :: l,k + 1,h,nd=>by
  obtain ⟨n1,n2⟩:=List.nodup_cons.mp nd
  have hk : k < l.length:=by simpa using h
  have ih:=zt5 l k hk n2
  have hne : (a == l[k]) = false:=beq_eq_false_iff_ne.mpr fun e=>n1 (e ▸ List.getElem_mem hk)
  show (a :: l).findIdx (· == l[k]) = k + 1
  rw [List.findIdx_cons,hne,ih]
  rfl
noncomputable def hfB (n : Nat) (s : List Int) (x : Int) : List Bool:=(List.range n).map fun (t : Nat)=>!(inS s t == ((t : Int) == x))
theorem z2y (n : Nat) (s : List Int) (x : Int) : (hfB n s x).length = n:=by unfold hfB; rw [List.length_map,List.length_range]
theorem z4i {n : Nat} {row : List Bool} (hr : row.length = n) {x : Int} (x0 : 0 <= x) (x1 : x < (n : Int)) : hfB n (zbo row) x ≠ row:=fun e=>by
 have h1 : (hfB n (zbo row) x).getD x.toNat false = !(row.getD x.toNat false == true):=by
  unfold hfB
  rw [List.getD_eq_getElem?_getD,List.getElem?_map,List.getElem?_range (by omega)]
  show (!(inS (zbo row) x.toNat == (((x.toNat : Nat) : Int) == x))) = _
  have e1 : (((x.toNat : Nat) : Int) == x) = true:=by
   rw [beq_iff_eq]
   omega
  have e2 : inS (zbo row) x.toNat = row.getD x.toNat false:=by
   have:=zke row
   have h2 : (wiS row.length (zbo row)).getD x.toNat false = inS (zbo row) x.toNat:=by
    unfold wiS
    rw [List.getD_eq_getElem?_getD,List.getElem?_map,List.getElem?_range (by omega)]
    rfl
   rw [this] at h2
   exact h2.symm
  rw [e1,e2]
 rw [e] at h1
 cases q : row.getD x.toNat false <;> rw [q] at h1 <;> cases h1
structure ztq (n : Nat) (rs : List Rul) (ss : List (List Int)) : Prop where
 nd : ss.Nodup
 of : ∀ s ∈ ss,∃ row ∈ za5 n,s = zbo row /\ Unb rs row /\ ris rs row = row
 len : ss.length <= 16
theorem zon {n : Nat} (n60 : n <= 60) {row : List Bool} (h : row.length = n) : zfe n (zbo row):=by
 unfold zbo
 rw [h]
 exact ztp n n (Nat.le_refl _) n60 _
theorem zvu {n : Nat} (n4 : n <= 4) (rs : List Rul) (hz : rs.length <= 400) (ss : List (List Int)) (hss : ztq n rs ss) (zs : List (List Bool × Wy)) (hm : zs.map (·.1) = za5 n) (hp : ∀ z ∈ zs,PW rs ss n z) (c : Int) :
  ∃ d,m_9 [.int n,.lst (ss.map seD),.lst ((zs.map tl ++ zbb n 0 (2 ^ n)).map lD),.int c] = some d /\ ∃ ss' ls',d = .tup [.lst (ss'.map seD),.lst (ls'.map lD)] /\ WF n ss' ls' /\ zd2 rs ss' n ls' = false:=by
 obtain ⟨d,em,xs,rfl,hxl,hxs⟩:=zoe c 4 (by decide) (by decide)
 obtain ⟨a0,h0,e0⟩:=zce (f:=D.int) (xs:=xs) (i:=0) (by decide) (by omega)
 obtain ⟨a1,h1,e1⟩:=zce (f:=D.int) (xs:=xs) (i:=1) (by decide) (by omega)
 obtain ⟨a2,h2,e2⟩:=zce (f:=D.int) (xs:=xs) (i:=2) (by decide) (by omega)
 obtain ⟨a3,h3,e3⟩:=zce (f:=D.int) (xs:=xs) (i:=3) (by decide) (by omega)
 have h16:=zjz n4
 have hsl:=hss.len
 have hLl : (zs.map tl ++ zbb n 0 (2 ^ n)).length + 1 = 2 * 2 ^ n:=by
  have:=zpx n (by omega)
  unfold zgk at this
  rw [List.length_append,List.length_map,List.length_map,<- hm,List.length_map] at this
  rw [List.length_append,List.length_map]
  exact this
 have hpos:=Nat.one_le_two_pow (n:=n)
 have hsok : ∀ s ∈ ss,zfe n s:=fun s hs=>by
  obtain ⟨row,hr,rfl,_⟩:=hss.of s hs
  exact zon (by omega) (zew n row hr)
 have hlok : ∀ l ∈ zs.map tl ++ zbb n 0 (2 ^ n),LnM n l /\ l.2.length <= 2:=fun l hl=>by
  rcases List.mem_append.mp hl with y | y
  ·obtain ⟨z,hz',rfl⟩:=List.mem_map.mp y
   have hin : z.1 ∈ za5 n:=by rw [<- hm]; exact List.mem_map.mpr ⟨z,hz',rfl⟩
   exact ztr (by omega) (by rw [zew n z.1 hin]; exact Nat.le_refl _) (hp z hz').1
  ·exact zr0 (by omega) _ _ l y
 have b0:=Int.emod_nonneg a1 (show ((zs.map tl ++ zbb n 0 (2 ^ n)).length : Int) ≠ 0 by omega)
 have b1:=Int.emod_lt_of_pos a1 (show 0 < ((zs.map tl ++ zbb n 0 (2 ^ n)).length : Int) by omega)
 obtain ⟨k,hk⟩ : ∃ k : Nat,a1 % ((zs.map tl ++ zbb n 0 (2 ^ n)).length : Int) = (k : Int):=⟨(a1 % ((zs.map tl ++ zbb n 0 (2 ^ n)).length : Int)).toNat,by omega⟩
 have hkl : k < (zs.map tl ++ zbb n 0 (2 ^ n)).length:=by omega
 apply zf7
 unfold b_9
 show wp _ [.im (.int n),.im (.lst (ss.map seD)),.im (.lst ((zs.map tl ++ zbb n 0 (2 ^ n)).map lD)),.im (.int c),.no,.no,.no,.no,.no,.no] _
 apply zap
 refine zbu (zav (zae rfl (zae rfl rfl)) em) ?_
 walk_at "nrm"
 apply zap
 refine zbu (d:=.int k) ?_ ?_
 ·rw [<- hk]
  exact zaz (zaq rfl rfl e1) (zav (zae rfl rfl) (zeo _ _)) (ze4 (by omega))
 walk_at "nrm"
 have c5 : ∀ (j : Int) (ρ : List Sl),ρ[4]? = some (.im (.lst (xs.map D.int))) -> mB (m2 dEq (m2 zbj (mIx (zaf 4) (fun _=>some (.int 0))) (fun _=>some (.int 5))) (fun _=>some (.int j))) ρ = some (a0 % 5 == j):=fun j ρ h=>by
  refine zcq (zaz (zaz (zaq (ds:=xs.map D.int) ?_ rfl e0) rfl (ze4 (by decide))) rfl (zjm _ _))
  unfold zaf
  rw [h]
  rfl
 apply zap
 refine zbt (c5 0 _ rfl) (fun _=>?_) (fun _=>zb4 ?_)
 ·refine zch (zck (zae rfl (zae (zs3 rfl) rfl))) (zb0 ⟨ss,_,rfl,⟨hsok,by omega,fun l hl=>hlok l (List.dropLast_subset _ hl),by rw [List.length_dropLast]; omega⟩,sp0 n4 hm⟩)
 walk_at "nrm"
 apply zap
 refine zbt (c5 1 _ rfl) (fun _=>?_) (fun _=>zb4 ?_)
 ·refine zch (zck (zae rfl (zae (zh0 (zkh rfl rfl (by omega)) (zkt rfl (k:=(k : Int) + 1) rfl (by omega)) (by rw [List.length_take,List.length_drop]; omega)) rfl))) (zb0 ⟨ss,_,rfl,⟨hsok,by omega,fun l hl=>?_,by rw [List.length_append,List.length_take,List.length_drop]; omega⟩,?_⟩)
  ·rcases List.mem_append.mp hl with y | y
   ·exact hlok l (List.mem_of_mem_take y)
   ·exact hlok l (List.mem_of_mem_drop y)
  ·rw [Int.toNat_natCast,show ((k : Int) + 1).toNat = k + 1 by omega]
   exact sp1 n4 hm hkl
 walk_at "nrm"
 have ene : ∀ ρ : List Sl,ρ[1]? = some (.im (.lst (ss.map seD))) -> mB (m2 dNe (zaa 1) (zan (fun _=>some []))) ρ = some (decide (ss ≠ [])):=fun ρ h=>by
  refine zcq (zaz (x:=.lst (ss.map seD)) (y:=.lst []) ?_ rfl ?_)
  ·unfold zaa
   rw [h]
  ·cases ss with
   | nil=>rfl
   | cons a b=>rfl
 apply zap
 refine zbt (zhv (c5 2 _ rfl) (zhv (ene _ rfl) (zcq (zaz rfl rfl zk6)))) (fun hb=>?_) (fun _=>zb4 ?_)
 ·have hb' : (a0 % 5 = 2 /\ ss ≠ []) /\ 0 < n:=by
   have : a0 % 5 = 2 /\ ss ≠ [] /\ 0 < n:=by simpa using hb
   exact ⟨⟨this.1,this.2.1⟩,this.2.2⟩
  have hs0 : 0 < ss.length:=List.length_pos_iff.mpr hb'.1.2
  have f0:=Int.emod_nonneg a1 (show (ss.length : Int) ≠ 0 by omega)
  have f1:=Int.emod_lt_of_pos a1 (show 0 < (ss.length : Int) by omega)
  obtain ⟨q,hq⟩ : ∃ q : Nat,a1 % (ss.length : Int) = (q : Int):=⟨(a1 % (ss.length : Int)).toNat,by omega⟩
  have hql : q < ss.length:=by omega
  have g0:=Int.emod_nonneg a2 (show (n : Int) ≠ 0 by omega)
  have g1:=Int.emod_lt_of_pos a2 (show 0 < (n : Int) by omega)
  obtain ⟨row,hrow,erow,hu,hs⟩:=hss.of ss[q] (List.getElem_mem hql)
  have eat : atI (ss.map seD) (q : Int) = some (seD ss[q]):=by
   obtain ⟨y,hy,ey⟩:=zce (f:=seD) (xs:=ss) (i:=(q : Int)) (by omega) (by omega)
   rw [Int.toNat_natCast,List.getElem?_eq_getElem hql] at hy
   cases hy
   exact ey
  apply zap
  refine zbu (d:=.int q) ?_ ?_
  ·rw [<- hq]
   exact zaz (zaq rfl rfl e1) (zav (zae rfl rfl) (zeo _ _)) (ze4 (by omega))
  walk_at "nrm"
  apply zap
  refine zbu (d:=roD (hfB n ss[q] (a2 % (n : Int)))) (zbn ?_) ?_
  ·have e : (hfB n ss[q] (a2 % (n : Int))).map D.bl = (List.range n).map fun (t : Nat)=>D.bl (!(inS ss[q] t == ((t : Int) == a2 % (n : Int)))):=by
    unfold hfB
    rw [List.map_map]
    rfl
   rw [e]
   refine zdn (List.range n) (fun (i : Nat)=>D.int i) _ ?_ (by rw [List.length_range]; omega) fun t _=>?_
   ·have:=zft (f:=zab (zaa 0) (fun _=>some [])) (ρ:=[.im (.int n),.im (.lst (ss.map seD)),.im (.lst ((zs.map tl ++ zbb n 0 (2 ^ n)).map lD)),.im (.int c),.im (.lst (xs.map D.int)),.im (.int q),.no,.no,.no,.no]) (n:=(n : Int)) rfl (by omega) (by omega)
    rw [this,Int.toNat_natCast]
   ·exact zda rfl rfl (zaz (zaz rfl (zaq rfl rfl eat) (zwf _ _)) (zaz rfl (zaz (zaq rfl rfl e2) rfl (ze4 (by omega))) (zjm _ _)) rfl)
  walk_at "nrm"
  have hhl:=z2y n ss[q] (a2 % (n : Int))
  refine zch (zck (zae (zh0 (h:=seD) (zh0 (h:=seD) (zkh rfl rfl (by omega)) (zbn (zae (zav (zae rfl rfl) (zqi _ (by omega))) rfl)) (b:=[zbo (hfB n ss[q] (a2 % (n : Int)))]) (by rw [List.length_take]; show _ + 1 <= _; omega)) (zkt rfl (k:=(q : Int) + 1) rfl (by omega)) (by rw [List.length_append,List.length_take,List.length_drop,List.length_singleton]; omega)) (zae rfl rfl))) (zb0 ⟨_,_,rfl,⟨fun s hs'=>?_,by rw [List.length_append,List.length_append,List.length_take,List.length_drop,List.length_singleton]; omega,hlok,by omega⟩,?_⟩)
  ·rcases List.mem_append.mp hs' with y | y
   ·rcases List.mem_append.mp y with y | y
    ·exact hsok s (List.mem_of_mem_take y)
    ·rw [List.mem_singleton.mp y]
     exact zon (by omega) hhl
   ·exact hsok s (List.mem_of_mem_drop y)
  ·rw [Int.toNat_natCast,show ((q : Int) + 1).toNat = q + 1 by omega]
   have es : ss.take q ++ [zbo (hfB n ss[q] (a2 % (n : Int)))] ++ ss.drop (q + 1) = ss.set q (zbo (hfB n ss[q] (a2 % (n : Int)))):=by
    rw [List.set_eq_take_append_cons_drop,if_pos hql,List.append_assoc]
    rfl
   rw [es]
   refine sp2 n4 hm hp hrow hu hs ?_ hhl ?_ _ hql
   ·rw [<- erow]
    exact zt5 ss q hql hss.nd
   ·rw [erow]
    exact z4i (zew n row hrow) g0 g1
 walk_at "nrm"
 apply zap
 refine zbt (zhv (c5 3 _ rfl) (zcq (zaz rfl rfl zk6))) (fun hb=>?_) (fun _=>zb4 ?_)
 ·have hn : 0 < n:=by
   have : a0 % 5 = 3 /\ 0 < n:=by simpa using hb
   exact this.2
  obtain ⟨m,rfl⟩ : ∃ m,n = m + 1:=⟨n - 1,by omega⟩
  have hm1:=Nat.one_le_two_pow (n:=m)
  have hpw : 2 ^ (m + 1) = 2 * 2 ^ m:=by rw [Nat.pow_succ]; omega
  obtain ⟨M,hM⟩ : ∃ M : Int,(if (((zs.map tl ++ zbb (m + 1) 0 (2 ^ (m + 1))).length : Int) + 1) / 2 - 1 > 1 then (((zs.map tl ++ zbb (m + 1) 0 (2 ^ (m + 1))).length : Int) + 1) / 2 - 1 else 1) = M:=⟨_,rfl⟩
  have hMv : M = ((2 * 2 ^ m - 1 : Nat) : Int):=by
   rw [<- hM]
   split <;> omega
  have f0:=Int.emod_nonneg a1 (show M ≠ 0 by omega)
  have f1:=Int.emod_lt_of_pos a1 (show 0 < M by omega)
  obtain ⟨q,hq⟩ : ∃ q : Nat,a1 % M = (q : Int):=⟨(a1 % M).toNat,by omega⟩
  apply zap
  refine zbu (d:=.int q) ?_ ?_
  ·rw [<- hq,<- hM]
   exact zaz (zaq rfl rfl e1) (zav (zae rfl (zae (zaz (zaz (zaz (zav (zae rfl rfl) (zeo _ _)) rfl zgy) rfl (zo0 ⟨by decide,by decide⟩)) rfl zto) rfl)) rfl) (ze4 (by rw [hM]; omega))
  walk_at "nrm"
  refine zch (zck (zae rfl (zae (zh0 (zkh rfl (k:=(q : Int) + 1) rfl (by omega)) (zkt rfl rfl (by omega)) (by rw [List.length_take,List.length_drop]; omega)) rfl))) (zb0 ⟨ss,_,rfl,⟨hsok,by omega,fun l hl=>?_,by rw [List.length_append,List.length_take,List.length_drop]; omega⟩,?_⟩)
  ·rcases List.mem_append.mp hl with y | y
   ·exact hlok l (List.mem_of_mem_take y)
   ·exact hlok l (List.mem_of_mem_drop y)
  ·rw [Int.toNat_natCast,show ((q : Int) + 1).toNat = q + 1 by omega]
   exact sp3 n4 hm (by omega)
 walk_at "nrm"
 generalize hL : zs.map tl ++ zbb n 0 (2 ^ n) = L at hkl hlok hLl
 obtain ⟨l,hl,el⟩:=zce (f:=lD) (xs:=L) (i:=(k : Int)) (by omega) (by omega)
 rw [Int.toNat_natCast,List.getElem?_eq_getElem hkl] at hl
 cases hl
 have hlk:=hlok L[k] (List.getElem_mem hkl)
 apply zap
 refine zsp (d:=lD L[k]) (zaq rfl rfl el) rfl ?_
 walk_at "nrm"
 obtain ⟨wd,hwd,ew⟩:=zce (f:=D.str) (xs:=["rule","bar","world"]) (i:=a2 % 3) (Int.emod_nonneg _ (by decide)) (Int.emod_lt_of_pos _ (by decide))
 have hp9 : (0 : Int) < 10 ^ (9 : Int).toNat:=by decide
 have hcp9 : zhp 10 9:=⟨by decide,by decide,by decide⟩
 have k0:=Int.emod_nonneg a3 (Int.ne_of_gt hp9)
 obtain ⟨K,hK⟩ : ∃ K : Int,400 + a3 % 10 ^ (9 : Int).toNat = K:=⟨_,rfl⟩
 obtain ⟨w,hw,ewd⟩ : ∃ w : Wy,(w = .rul K \/ w = .bar K \/ w = .wld K) /\ w.toD = .tup [.str wd,.int K]:=by
  have hw2:=List.mem_of_getElem? hwd
  simp only [List.mem_cons,List.not_mem_nil,or_false] at hw2
  rcases hw2 with rfl | rfl | rfl
  ·exact ⟨.rul K,.inl rfl,rfl⟩
  ·exact ⟨.bar K,.inr (.inl rfl),rfl⟩
  ·exact ⟨.wld K,.inr (.inr rfl),rfl⟩
 have hK0 : 400 <= K:=by omega
 have hwok : w.Ok n:=by
  rcases hw with rfl | rfl | rfl <;> (show (0 : Int) <= K; omega)
 apply zap
 refine zbu (d:=stD (none,w)) ?_ ?_
 ·show _ = some (D.tup [.non,w.toD])
  rw [ewd,<- hK]
  exact zck (zae rfl (zae (zck (zae (zaq rfl (zaz (zaq rfl rfl e2) rfl (ze4 (by decide))) ew) (zae (zaz rfl (zaz (zaq rfl rfl e3) (zaz rfl rfl (zvg hcp9)) (ze4 hp9)) zgy) rfl))) rfl))
 walk_at "nrm"
 have hkl2:=hlk.2
 have line : ∀ v4 v6 : Sl,zbe (zab (zaa 7) (zab (zan (zdd (zan (mSl (zaa 8) (fun _=>some none) (mPt (m1 zho (fun _=>some (.int 1)))))) (zan (zab (zaa 9) (fun _=>some []))))) (fun _=>some []))) [.im (.int n),.im (.lst (ss.map seD)),.im (.lst (L.map lD)),.im (.int c),v4,.im (.int k),v6,.im (baD L[k].1),.im (.lst (L[k].2.map stD)),.im (stD (none,w))] = some (lD (L[k].1,L[k].2.dropLast ++ [(none,w)])):=fun v4 v6 =>
  zck (zae rfl (zae (zh0 (h:=stD) (b:=[(none,w)]) (zs3 rfl) rfl (by rw [List.length_dropLast]; show _ + 1 <= _; omega)) rfl))
 refine zch (zck (zae rfl (zae (zh0 (h:=lD) (zh0 (h:=lD) (b:=[(L[k].1,L[k].2.dropLast ++ [(none,w)])]) (zkh rfl rfl (by omega)) (zbn (zae (line _ _) rfl)) (by rw [List.length_take]; show _ + 1 <= _; omega)) (zkt rfl (k:=(k : Int) + 1) rfl (by omega)) (by rw [List.length_append,List.length_take,List.length_drop,List.length_singleton]; omega)) rfl))) (zb0 ⟨ss,_,rfl,⟨hsok,by omega,fun l hl=>?_,by rw [List.length_append,List.length_append,List.length_take,List.length_drop,List.length_singleton]; omega⟩,?_⟩)
 ·rcases List.mem_append.mp hl with y | y
  ·rcases List.mem_append.mp y with y | y
   ·exact hlok l (List.mem_of_mem_take y)
   ·rw [List.mem_singleton.mp y]
    obtain ⟨⟨⟨x1,x2,x3⟩,x4⟩,x5⟩:=hlk
    have hd : (L[k].2.dropLast ++ [((none : Option (Int × Bool)),w)]).length <= 2:=by
     rw [List.length_append,List.length_dropLast,List.length_singleton]
     have : 0 < L[k].2.length \/ L[k].2.length = 0:=by omega
     omega
    refine ⟨⟨⟨x1,fun z hz'=>?_,Nat.le_trans hd (by decide)⟩,x4⟩,hd⟩
    rcases List.mem_append.mp hz' with y | y
    ·exact x2 z (List.dropLast_subset _ y)
    ·rw [List.mem_singleton.mp y]
     exact ⟨(fun q e=>by cases e),hwok⟩
  ·exact hlok l (List.mem_of_mem_drop y)
 ·rw [Int.toNat_natCast,show ((k : Int) + 1).toNat = k + 1 by omega,List.append_assoc]
  refine sp4 hw (by omega) (by omega) ?_
  rw [List.length_take]
  omega
theorem z2f : ∀ n,n < 5 -> (za5 n).Nodup:=by decide +kernel
theorem z4h {a b : List Bool} (hl : a.length = b.length) (e : zbo a = zbo b) : a = b:=by
 have h1:=zke a
 have h2:=zke b
 rw [e,hl,h2] at h1
 exact h1.symm
noncomputable def gd (rs : List Rul) (row : List Bool) : Bool:=!(rs.any fun r=>r.surely (L2.bs row)) && (ris rs row == row)
theorem zuh {rs : List Rul} {row : List Bool} : gd rs row = true ↔ Unb rs row /\ ris rs row = row:=by
 unfold gd
 rw [Bool.and_eq_true]
 constructor
 ·rintro ⟨a,b⟩
  refine ⟨fun r hr=>?_,beq_iff_eq.mp b⟩
  have a : (rs.any fun r=>r.surely (L2.bs row)) = false:=by simpa using a
  have:=List.any_eq_false.mp a r hr
  simpa using this
 ·rintro ⟨a,b⟩
  refine ⟨?_,beq_iff_eq.mpr b⟩
  rw [List.any_eq_false.mpr fun r hr=>by rw [a r hr]; exact Bool.false_ne_true]
  rfl
theorem z4n {n : Nat} (n4 : n <= 4) (rs : List Rul) (c : Nat) : ztq n rs ((((za5 n).filter (gd rs)).map zbo).drop c ++ (((za5 n).filter (gd rs)).map zbo).take c) /\ ∀ ws ∈ za5 n,Unb rs ws -> ris rs ws = ws -> zbo ws ∈ (((za5 n).filter (gd rs)).map zbo).drop c ++ (((za5 n).filter (gd rs)).map zbo).take c:=by
 obtain ⟨S,hS⟩ : ∃ S,S = ((za5 n).filter (gd rs)).map zbo:=⟨_,rfl⟩
 rw [<- hS]
 have pm : (S.drop c ++ S.take c).Perm S:=(List.perm_append_comm).trans (by rw [List.take_append_drop])
 have nd : S.Nodup:=by
  rw [hS]
  refine List.pairwise_map.mpr ?_
  have h1 : ((za5 n).filter (gd rs)).Pairwise (· ≠ ·):=List.Pairwise.filter _ (z2f n (by omega))
  refine List.Pairwise.imp_of_mem (fun {a b} ha hb hne e=>hne ?_) h1
  exact z4h (by rw [zew n a (List.mem_filter.mp ha).1,zew n b (List.mem_filter.mp hb).1]) e
 refine ⟨⟨pm.nodup_iff.mpr nd,fun s hs=>?_,?_⟩,fun ws hws hu hr=>?_⟩
 ·have:=pm.mem_iff.mp hs
  rw [hS] at this
  obtain ⟨row,hrow,rfl⟩:=List.mem_map.mp this
  obtain ⟨a,b⟩:=List.mem_filter.mp hrow
  obtain ⟨u,r⟩:=zuh.mp b
  exact ⟨row,a,rfl,u,r⟩
 ·rw [pm.length_eq,hS,List.length_map]
  have h1:=List.length_filter_le (gd rs) (za5 n)
  have h2:=zjz n4
  rw [zgq] at h1
  omega
 ·refine pm.mem_iff.mpr ?_
  rw [hS]
  exact List.mem_map.mpr ⟨ws,List.mem_filter.mpr ⟨hws,zuh.mpr ⟨hu,hr⟩⟩,rfl⟩
theorem z4w (ns : List Int) (hns : ns.length <= 63) : m_0 [.kl (ns.map D.int)] = some (.bl true):=by
 apply zd3
 unfold b_0
 show wp _ [.im (.kl (ns.map D.int)),.no,.no,.no,.no,.no,.no,.no,.no,.no,.no] _
 obtain ⟨c0,k0⟩:=zr9 ns 0 (by decide)
 obtain ⟨c1,k1⟩:=zr9 ns 1 (by decide)
 obtain ⟨d,em,hs,rfl,hl,hx⟩:=zoe c0 4 (by decide) (by decide)
 obtain ⟨a0,h0,e0⟩:=zce (f:=D.int) (xs:=hs) (i:=0) (by decide) (by omega)
 obtain ⟨a1,h1,e1⟩:=zce (f:=D.int) (xs:=hs) (i:=1) (by decide) (by omega)
 obtain ⟨a2,h2,e2⟩:=zce (f:=D.int) (xs:=hs) (i:=2) (by decide) (by omega)
 apply zap
 refine zbu (zav (zae (zav (zae rfl (zae rfl rfl)) k0) (zae rfl rfl)) em) ?_
 walk_at "nrm"
 apply zap
 refine zbu (zaz (zaz (zaz (zaq rfl rfl e0) rfl (ze4 (by decide))) rfl zgy) rfl (zo0 ⟨by decide,by decide⟩)) ?_
 walk_at "nrm"
 have b0 : 0 <= a0 % 13:=Int.emod_nonneg _ (by decide)
 have b1 : a0 % 13 < 13:=Int.emod_lt_of_pos _ (by decide)
 obtain ⟨n,hn⟩ : ∃ n : Nat,(a0 % 13 + 2) / 3 = (n : Int):=⟨((a0 % 13 + 2) / 3).toNat,by omega⟩
 rw [hn]
 have n4 : n <= 4:=by omega
 clear hn
 obtain ⟨rs0,er0,hr0,hl0⟩:=z2o (a1 % 5) (n : Int) (Int.emod_nonneg _ (by decide)) (Int.emod_lt_of_pos _ (by decide)) (by omega) (by omega)
 apply zap
 refine zeq (z2a (zae (zaz (zaq rfl rfl e1) rfl (ze4 (by decide))) (zae rfl rfl)) er0) ?_
 walk_at "nrm"
 have hcl:=List.length_take_le' (HT.sIx ns.length ns.length (some 14) - HT.sIx ns.length 0 (some 2)) (ns.drop (HT.sIx ns.length 0 (some 2)))
 rw [List.length_drop] at hcl
 generalize hcs : (ns.drop (HT.sIx ns.length 0 (some 2))).take (HT.sIx ns.length ns.length (some 14) - HT.sIx ns.length 0 (some 2)) = cs at hcl
 apply zap
 refine zdg cs D.int (fun pre ρ=>∃ (rs : List Rul) (v4 : Sl),ρ = [.im (.kl (ns.map D.int)),.im (.lst (hs.map D.int)),.im (.int n),.own (rs.map Rul.toD),v4,.no,.no,.no,.no,.no,.no] /\ (∀ r ∈ rs,r.Ok n /\ r.ps.length <= 3) /\ rs.length <= 60 + pre.length) (by rw [<- hcs]; exact zdi (zbn (zo8 rfl rfl rfl)) rfl) ⟨rs0,.no,rfl,hr0,by show _ <= 60 + 0; omega⟩ ?_ ?_
 ·rintro pre c post ρ ex ⟨rs,v4,rfl,hrs,hlr⟩
  have hpl : pre.length < cs.length:=by rw [ex]; simp
  obtain ⟨d,er,r,rfl,hr,hr3⟩:=z08 (a2 % 2 == 0) c (n : Int) (by omega) (by omega)
  refine ⟨_,rfl,?_⟩
  walk_at "nrm"
  refine zfv (zav (zae rfl (zae rfl (zae (zaz (zaz (zaq rfl rfl e2) rfl (ze4 (by decide))) rfl (zjm _ _)) rfl))) er) rfl (by rw [List.length_map]; omega) ?_
  refine ⟨rs ++ [r],.im (.int c),by rw [List.map_append]; rfl,fun q hq=>?_,by rw [List.length_append,List.length_append]; show _ + 1 <= 60 + (_ + 1); omega⟩
  rcases List.mem_append.mp hq with h | h
  ·exact hrs q h
  ·have : q = r:=by simpa using h
   subst this
   exact ⟨hr,hr3⟩
 rintro ρ ⟨rs,v4,rfl,hrs,hlr⟩
 walk_at "nrm"
 have hok : ∀ r ∈ rs,r.Ok n:=fun r hr=>(hrs r hr).1
 have hp : ∀ r ∈ rs,r.ps.length <= 1000:=fun r hr=>by have:=(hrs r hr).2; omega
 have hrsl : rs.length <= 400:=by omega
 have h16:=zjz n4
 have hrl:=zgq n
 apply zap
 refine zeq (d:=[]) rfl ?_
 walk_at "nrm"
 apply zap
 refine zdg (za5 n) roD (fun pre ρ=>∃ (s3 v6 : Sl),(s3 = .own (rs.map Rul.toD) \/ s3 = .im (.lst (rs.map Rul.toD))) /\ ρ = [.im (.kl (ns.map D.int)),.im (.lst (hs.map D.int)),.im (.int n),s3,v4,.own (((pre.filter (gd rs)).map zbo).map seD),v6,.no,.no,.no,.no]) (zdi (zav (zae rfl rfl) (zpz n n4)) rfl) ⟨_,_,.inl rfl,rfl⟩ ?_ ?_
 ·rintro pre row post ρ ex ⟨s3,v6,h3,rfl⟩
  have hrow:=zew n row (by rw [ex]; simp)
  have hpl : pre.length < (za5 n).length:=by rw [ex]; simp
  obtain ⟨er,_,_⟩:=zly rs hok (by omega) row hrow (by omega)
  have hfl:=List.length_filter_le (gd rs) pre
  refine ⟨_,rfl,?_⟩
  walk_at "nrm"
  have hfx : zjd 3 [.im (.kl (ns.map D.int)),.im (.lst (hs.map D.int)),.im (.int n),s3,v4,.own (((pre.filter (gd rs)).map zbo).map seD),.im (roD row),.no,.no,.no,.no] = [.im (.kl (ns.map D.int)),.im (.lst (hs.map D.int)),.im (.int n),.im (.lst (rs.map Rul.toD)),v4,.own (((pre.filter (gd rs)).map zbo).map seD),.im (roD row),.no,.no,.no,.no]:=by
   rcases h3 with rfl | rfl <;> rfl
  refine ze3 hfx ?_
  have eany : zao zf6 (zab (zan (zbl 1 [6] (zaf 3) (zar 0) (fun _=>some true) (zao zkv (zab (zaa 0) (zab (zaa 1) (fun _=>some [])))))) (fun _=>some [])) [.im (.kl (ns.map D.int)),.im (.lst (hs.map D.int)),.im (.int n),.im (.lst (rs.map Rul.toD)),v4,.own (((pre.filter (gd rs)).map zbo).map seD),.im (roD row),.no,.no,.no,.no] = some (.bl (rs.any fun r=>r.surely (L2.bs row))):=by
   refine zav (zae (zbn (zdn rs Rul.toD (fun r=>D.bl (r.surely (L2.bs row))) rfl (by omega) fun r hr=>?_)) rfl) (zpb _ _)
   have eb:=ztb (es:=L2.bs row) r (by rw [zmk,hrow]; exact hok r hr)
   rw [<- zrr] at eb
   exact zda rfl rfl (zav (zae rfl (zae rfl rfl)) eb)
  refine zbt (b:=gd rs row) (zhv (zfy (zes eany rfl)) (zcq (zaz (zav (zae rfl (zae rfl rfl)) er) rfl (z2m _ _)))) (fun hb=>?_) (fun hb=>zb4 ?_)
  ·refine zfv (zav (zae rfl rfl) (zqi row (by omega))) rfl (by rw [List.length_map,List.length_map]; omega) ?_
   refine ⟨.im (.lst (rs.map Rul.toD)),.im (roD row),.inr rfl,?_⟩
   rw [List.filter_append,List.filter_cons_of_pos hb,List.filter_nil,List.map_append,List.map_append]
   rfl
  ·refine ⟨.im (.lst (rs.map Rul.toD)),.im (roD row),.inr rfl,?_⟩
   rw [List.filter_append,List.filter_cons_of_neg (by rw [hb]; exact Bool.false_ne_true),List.filter_nil,List.append_nil]
 rintro ρ ⟨s3,v6,h3,rfl⟩
 obtain ⟨S,hS⟩ : ∃ S,S = ((za5 n).filter (gd rs)).map zbo:=⟨_,rfl⟩
 rw [<- hS]
 have hSl : S.length <= 16:=by
  have h1:=List.length_filter_le (gd rs) (za5 n)
  rw [hS,List.length_map]
  omega
 walk_at "nrm"
 have q0:=Int.emod_nonneg c1 (show (S.length : Int) + 1 ≠ 0 by omega)
 have q1:=Int.emod_lt_of_pos c1 (show 0 < (S.length : Int) + 1 by omega)
 obtain ⟨c,hc⟩ : ∃ c : Nat,c1 % ((S.length : Int) + 1) = (c : Int):=⟨(c1 % ((S.length : Int) + 1)).toNat,by omega⟩
 apply zap
 refine ze3 rfl ?_
 refine zbu (d:=.int c) ?_ ?_
 ·rw [<- hc]
  exact zaz (zav (zae rfl (zae rfl rfl)) k1) (zaz (zav (zae rfl rfl) (zeo _ _)) rfl zgy) (ze4 (by omega))
 walk_at "nrm"
 obtain ⟨hss,hall⟩:=z4n n4 rs c
 rw [<- hS] at hss hall
 apply zap
 refine ze3 rfl ?_
 refine zeq (d:=(S.drop c ++ S.take c).map seD) ?_ ?_
 ·rw [List.map_append]
  have s1:=zkt (h:=seD) (xs:=S) (f:=zaa 5) (g:=zaa 7) (ρ:=[.im (.kl (ns.map D.int)),.im (.lst (hs.map D.int)),.im (.int n),s3,v4,.im (.lst (S.map seD)),v6,.im (.int c),.no,.no,.no]) (k:=(c : Int)) rfl rfl (by omega)
  have s2:=zkh (h:=seD) (xs:=S) (f:=zaa 5) (g:=zaa 7) (ρ:=[.im (.kl (ns.map D.int)),.im (.lst (hs.map D.int)),.im (.int n),s3,v4,.im (.lst (S.map seD)),v6,.im (.int c),.no,.no,.no]) (k:=(c : Int)) rfl rfl (by omega)
  rw [Int.toNat_natCast] at s1 s2
  exact zmq s1 s2 (by rw [List.length_map,List.length_map,List.length_drop,List.length_take]; omega)
 walk_at "nrm"
 generalize S.drop c ++ S.take c = ss at hss hall
 have hsl:=hss.len
 obtain ⟨d,ep,zs,hm,hpw,rfl⟩:=zv3 n4 rs hok (by omega) ss hall
 have hfix : ∀ (v8 : Sl),zjd 3 (zjd 5 [.im (.kl (ns.map D.int)),.im (.lst (hs.map D.int)),.im (.int n),s3,v4,.own (ss.map seD),v6,.im (.int c),v8,.no,.no]) = [.im (.kl (ns.map D.int)),.im (.lst (hs.map D.int)),.im (.int n),.im (.lst (rs.map Rul.toD)),v4,.im (.lst (ss.map seD)),v6,.im (.int c),v8,.no,.no]:=fun v8=>by
  rcases h3 with rfl | rfl <;> rfl
 apply zap
 refine ze3 rfl ?_
 refine ze3 (hfix _) ?_
 refine zbu (zav (zae rfl (zae rfl (zae rfl rfl))) ep) ?_
 walk_at "nrm"
 have hsok : ∀ s ∈ ss,zfe n s:=fun s hs'=>by
  obtain ⟨row,hr,rfl,_⟩:=hss.of s hs'
  exact zon (by omega) (zew n row hr)
 have hlok : ∀ l ∈ zs.map tl ++ zbb n 0 (2 ^ n),LnM n l /\ l.2.length <= 2:=fun l hl=>by
  rcases List.mem_append.mp hl with y | y
  ·obtain ⟨z,hz',rfl⟩:=List.mem_map.mp y
   have hin : z.1 ∈ za5 n:=by rw [<- hm]; exact List.mem_map.mpr ⟨z,hz',rfl⟩
   exact ztr (by omega) (by rw [zew n z.1 hin]; exact Nat.le_refl _) (hpw z hz').1
  ·exact zr0 (by omega) _ _ l y
 have hLl : (zs.map tl ++ zbb n 0 (2 ^ n)).length + 1 = 2 * 2 ^ n:=by
  have:=zpx n (by omega)
  unfold zgk at this
  rw [List.length_append,List.length_map,List.length_map,<- hm,List.length_map] at this
  rw [List.length_append,List.length_map]
  exact this
 have et:=ztu (n:=n) (by omega) rs hok (by omega) hp ss (zs.map tl ++ zbb n 0 (2 ^ n)) ⟨hsok,by omega,hlok,by omega⟩ true (zw8 n4 hm hpw)
 apply zap
 refine ze3 rfl ?_
 refine ze3 rfl ?_
 refine zbt (b:=false) (zfy (b:=true) (zes (zav (zae rfl (zae rfl (zae rfl (zae rfl (zae rfl rfl))))) et) rfl)) (fun z=>by cases z) (fun _=>zb4 ?_)
 walk_at "nrm"
 obtain ⟨cs2,hcs2⟩ : ∃ cs2,cs2 = (ns.drop (HT.sIx ns.length 0 (some 2))).take (HT.sIx ns.length ns.length (some 22) - HT.sIx ns.length 0 (some 2)):=⟨_,rfl⟩
 have hcl2:=List.length_take_le' (HT.sIx ns.length ns.length (some 22) - HT.sIx ns.length 0 (some 2)) (ns.drop (HT.sIx ns.length 0 (some 2)))
 rw [<- hcs2,List.length_drop] at hcl2
 apply zap
 refine zdg (c0 :: cs2) D.int (fun _ ρ=>∃ v4 v9 v10 : Sl,ρ = [.im (.kl (ns.map D.int)),.im (.lst (hs.map D.int)),.im (.int n),.im (.lst (rs.map Rul.toD)),v4,.im (.lst (ss.map seD)),v6,.im (.int c),.im (.lst ((zs.map tl ++ zbb n 0 (2 ^ n)).map lD)),v9,v10]) ?_ ⟨_,_,_,rfl⟩ ?_ ?_
 ·refine zdi (zbn (zmq (a:=[.int c0]) (b:=cs2.map D.int) (zbn (zae (zav (zae rfl (zae rfl rfl)) k0) rfl)) (by rw [hcs2]; exact zbn (zo8 rfl rfl rfl)) (by rw [List.length_map]; show 1 + _ <= _; omega))) rfl
 ·rintro pre cc post ρ ex ⟨v4,v9,v10,rfl⟩
  obtain ⟨d,es,ss',ls',rfl,hwf,hbad⟩:=zvu n4 rs hrsl ss hss zs hm hpw cc
  have et':=ztu (n:=n) (by omega) rs hok (by omega) hp ss' ls' hwf false hbad
  refine ⟨_,rfl,?_⟩
  walk_at "nrm"
  apply zap
  refine ze3 rfl ?_
  refine zsp (zav (zae rfl (zae rfl (zae rfl (zae rfl rfl)))) es) rfl ?_
  walk_at "nrm"
  refine ze3 rfl ?_
  refine zbt (b:=false) (zfy (b:=true) (zes (zav (zae rfl (zae rfl (zae rfl (zae rfl (zae rfl rfl))))) et') rfl)) (fun z=>by cases z) (fun _=>zb4 ⟨_,_,_,rfl⟩)
 ·rintro ρ ⟨v4,v9,v10,rfl⟩
  exact zch rfl (zb0 rfl)
section
variable {P : Program} {w : World} {K : PySem.W.Frag} {mg : Str -> Option Value} {base : Heap}
noncomputable def sp_law (K : PySem.W.Frag) : Sp:=fun vs H Q _=>∃ (a : Addr) (ns : List Int),vs = [.ref a] /\ SqL K H a (ns.map V.int) /\ ns.length <= 63 /\ ∀ H',Q (.bl true) H'
theorem sp_law_of {K : PySem.W.Frag} {H : Hp} {a : Addr} {ns : List Int} {E : XK} (hl : ns.length <= 63) (hS : SqL K H a (ns.map V.int)) : sp_law K [.ref a] H (fun v _=>v = .bl true) E:=⟨a,ns,rfl,hS,hl,fun _=>rfl⟩
theorem law_ok {a : Wa} (W : Wd K mg a) : zax P w K mg base CX0 14 a.f_0 a.fd_0 ["_law_script"] (sp_law K):=(z5a W).imp fun vs H Q E ⟨a,ns,ev,hS,hl,k⟩ =>
 ⟨H,[.kl (ns.map D.int)],.bl true,zau.refl _,⟨.ref a,[],ev,⟨a,_,rfl,hS,zai.ints ns⟩,rfl⟩,rfl,z4w ns hl,fun v Hf' H' x r=>by rw [show v = V.bl true from r]; exact k H'⟩
end
section
variable {K : PySem.W.Frag} {mg : Str -> Option Value}
theorem zkp {P : List Value -> Prop} (h : P []) : ∀ us : List Value,us.length = 0 -> P us:=fun us e=>by
 rw [List.eq_nil_of_length_eq_zero e]
 exact h
theorem zeb {n : Nat} {P : List Value -> Prop} (h : ∀ a (us : List Value),us.length = n -> P (a :: us)) : ∀ us : List Value,us.length = n + 1 -> P us:=fun us e=>by
 cases us with
 | nil=>cases e
 | cons a us=>exact h a us (Nat.succ.inj e)
theorem zg5 {P : List Value -> Prop} (h : ∀ a0 : Value,P [a0]) : ∀ us : List Value,us.length = 1 -> P us:=zeb (P:=fun us=>P (us)) fun a0=>zkp (h a0)
theorem zct {P : List Value -> Prop} (h : ∀ a0 a1 : Value,P [a0,a1]) : ∀ us : List Value,us.length = 2 -> P us:=zeb (P:=fun us=>P (us)) fun a0=>zeb (P:=fun us=>P (a0 :: us)) fun a1=>zkp (h a0 a1)
theorem zea {P : List Value -> Prop} (h : ∀ a0 a1 a2 : Value,P [a0,a1,a2]) : ∀ us : List Value,us.length = 3 -> P us:=zeb (P:=fun us=>P (us)) fun a0=>zeb (P:=fun us=>P (a0 :: us)) fun a1=>zeb (P:=fun us=>P (a0 :: a1 :: us)) fun a2=>zkp (h a0 a1 a2)
theorem zro {P : List Value -> Prop} (h : ∀ a0 a1 a2 a3 : Value,P [a0,a1,a2,a3]) : ∀ us : List Value,us.length = 4 -> P us:=zeb (P:=fun us=>P (us)) fun a0=>zeb (P:=fun us=>P (a0 :: us)) fun a1=>zeb (P:=fun us=>P (a0 :: a1 :: us)) fun a2=>zeb (P:=fun us=>P (a0 :: a1 :: a2 :: us)) fun a3=>zkp (h a0 a1 a2 a3)
theorem zlw {P : List Value -> Prop} (h : ∀ a0 a1 a2 a3 a4 : Value,P [a0,a1,a2,a3,a4]) : ∀ us : List Value,us.length = 5 -> P us:=zeb (P:=fun us=>P (us)) fun a0=>zeb (P:=fun us=>P (a0 :: us)) fun a1=>zeb (P:=fun us=>P (a0 :: a1 :: us)) fun a2=>zeb (P:=fun us=>P (a0 :: a1 :: a2 :: us)) fun a3=>zeb (P:=fun us=>P (a0 :: a1 :: a2 :: a3 :: us)) fun a4=>zkp (h a0 a1 a2 a3 a4)
theorem all_mk {l : PySem.W.OpenLaw} {w : World} {h : Heap} {C_In : Addr} {C_Out : Addr} {C_Least : Addr} {C_Most : Addr} {f_8 : Addr} {od_8 an_8 : Option Addr} {sl_8 : Array (Option Value)} {oc_8 kV_8 dc_8 pm_8 cd_8 ct_8 : Value} {f_39 : Addr} {od_39 an_39 : Option Addr} {sl_39 : Array (Option Value)} {oc_39 kV_39 dc_39 pm_39 cd_39 ct_39 : Value} {f_24 : Addr} {od_24 an_24 : Option Addr} {sl_24 : Array (Option Value)} {oc_24 kV_24 dc_24 pm_24 cd_24 ct_24 : Value} {f_17 : Addr} {od_17 an_17 : Option Addr} {sl_17 : Array (Option Value)} {oc_17 kV_17 dc_17 pm_17 cd_17 ct_17 : Value} {f_42 : Addr} {od_42 an_42 : Option Addr} {sl_42 : Array (Option Value)} {oc_42 kV_42 dc_42 pm_42 cd_42 ct_42 : Value} {f_25 : Addr} {od_25 an_25 : Option Addr} {sl_25 : Array (Option Value)} {oc_25 kV_25 dc_25 pm_25 cd_25 ct_25 : Value} {f_43 : Addr} {od_43 an_43 : Option Addr} {sl_43 : Array (Option Value)} {oc_43 kV_43 dc_43 pm_43 cd_43 ct_43 : Value} {f_44 : Addr} {od_44 an_44 : Option Addr} {sl_44 : Array (Option Value)} {oc_44 kV_44 dc_44 pm_44 cd_44 ct_44 : Value} {f_45 : Addr} {od_45 an_45 : Option Addr} {sl_45 : Array (Option Value)} {oc_45 kV_45 dc_45 pm_45 cd_45 ct_45 : Value} {f_35 : Addr} {od_35 an_35 : Option Addr} {sl_35 : Array (Option Value)} {oc_35 kV_35 dc_35 pm_35 cd_35 ct_35 : Value} {f_36 : Addr} {od_36 an_36 : Option Addr} {sl_36 : Array (Option Value)} {oc_36 kV_36 dc_36 pm_36 cd_36 ct_36 : Value} {f_46 : Addr} {od_46 an_46 : Option Addr} {sl_46 : Array (Option Value)} {oc_46 kV_46 dc_46 pm_46 cd_46 ct_46 : Value} {f_12 : Addr} {od_12 an_12 : Option Addr} {sl_12 : Array (Option Value)} {oc_12 kV_12 dc_12 pm_12 cd_12 ct_12 : Value} {f_6 : Addr} {od_6 an_6 : Option Addr} {sl_6 : Array (Option Value)} {oc_6 kV_6 dc_6 pm_6 cd_6 ct_6 : Value} {f_37 : Addr} {od_37 an_37 : Option Addr} {sl_37 : Array (Option Value)} {oc_37 kV_37 dc_37 pm_37 cd_37 ct_37 : Value} {f_47 : Addr} {od_47 an_47 : Option Addr} {sl_47 : Array (Option Value)} {oc_47 kV_47 dc_47 pm_47 cd_47 ct_47 : Value} {f_38 : Addr} {od_38 an_38 : Option Addr} {sl_38 : Array (Option Value)} {oc_38 kV_38 dc_38 pm_38 cd_38 ct_38 : Value} {f_31 : Addr} {od_31 an_31 : Option Addr} {sl_31 : Array (Option Value)} {oc_31 kV_31 dc_31 pm_31 cd_31 ct_31 : Value} {f_26 : Addr} {od_26 an_26 : Option Addr} {sl_26 : Array (Option Value)} {oc_26 kV_26 dc_26 pm_26 cd_26 ct_26 : Value} {f_27 : Addr} {od_27 an_27 : Option Addr} {sl_27 : Array (Option Value)} {oc_27 kV_27 dc_27 pm_27 cd_27 ct_27 : Value} {f_32 : Addr} {od_32 an_32 : Option Addr} {sl_32 : Array (Option Value)} {oc_32 kV_32 dc_32 pm_32 cd_32 ct_32 : Value} {f_7 : Addr} {od_7 an_7 : Option Addr} {sl_7 : Array (Option Value)} {oc_7 kV_7 dc_7 pm_7 cd_7 ct_7 : Value} {f_2 : Addr} {od_2 an_2 : Option Addr} {sl_2 : Array (Option Value)} {oc_2 kV_2 dc_2 pm_2 cd_2 ct_2 : Value} {f_33 : Addr} {od_33 an_33 : Option Addr} {sl_33 : Array (Option Value)} {oc_33 kV_33 dc_33 pm_33 cd_33 ct_33 : Value} {f_28 : Addr} {od_28 an_28 : Option Addr} {sl_28 : Array (Option Value)} {oc_28 kV_28 dc_28 pm_28 cd_28 ct_28 : Value} {f_34 : Addr} {od_34 an_34 : Option Addr} {sl_34 : Array (Option Value)} {oc_34 kV_34 dc_34 pm_34 cd_34 ct_34 : Value} {f_18 : Addr} {od_18 an_18 : Option Addr} {sl_18 : Array (Option Value)} {oc_18 kV_18 dc_18 pm_18 cd_18 ct_18 : Value} {f_11 : Addr} {od_11 an_11 : Option Addr} {sl_11 : Array (Option Value)} {oc_11 kV_11 dc_11 pm_11 cd_11 ct_11 : Value} {f_40 : Addr} {od_40 an_40 : Option Addr} {sl_40 : Array (Option Value)} {oc_40 kV_40 dc_40 pm_40 cd_40 ct_40 : Value} {f_19 : Addr} {od_19 an_19 : Option Addr} {sl_19 : Array (Option Value)} {oc_19 kV_19 dc_19 pm_19 cd_19 ct_19 : Value} {f_41 : Addr} {od_41 an_41 : Option Addr} {sl_41 : Array (Option Value)} {oc_41 kV_41 dc_41 pm_41 cd_41 ct_41 : Value} {f_3 : Addr} {od_3 an_3 : Option Addr} {sl_3 : Array (Option Value)} {oc_3 kV_3 dc_3 pm_3 cd_3 ct_3 : Value} {f_1 : Addr} {od_1 an_1 : Option Addr} {sl_1 : Array (Option Value)} {oc_1 kV_1 dc_1 pm_1 cd_1 ct_1 : Value} {f_5 : Addr} {od_5 an_5 : Option Addr} {sl_5 : Array (Option Value)} {oc_5 kV_5 dc_5 pm_5 cd_5 ct_5 : Value} {f_30 : Addr} {od_30 an_30 : Option Addr} {sl_30 : Array (Option Value)} {oc_30 kV_30 dc_30 pm_30 cd_30 ct_30 : Value} {f_4 : Addr} {od_4 an_4 : Option Addr} {sl_4 : Array (Option Value)} {oc_4 kV_4 dc_4 pm_4 cd_4 ct_4 : Value} {f_9 : Addr} {od_9 an_9 : Option Addr} {sl_9 : Array (Option Value)} {oc_9 kV_9 dc_9 pm_9 cd_9 ct_9 : Value} {f_29 : Addr} {od_29 an_29 : Option Addr} {sl_29 : Array (Option Value)} {oc_29 kV_29 dc_29 pm_29 cd_29 ct_29 : Value} {f_10 : Addr} {od_10 an_10 : Option Addr} {sl_10 : Array (Option Value)} {oc_10 kV_10 dc_10 pm_10 cd_10 ct_10 : Value} {f_0 : Addr} {od_0 an_0 : Option Addr} {sl_0 : Array (Option Value)} {oc_0 kV_0 dc_0 pm_0 cd_0 ct_0 : Value} {f_48 : Addr} {od_48 an_48 : Option Addr} {sl_48 : Array (Option Value)} {oc_48 kV_48 dc_48 pm_48 cd_48 ct_48 : Value} {f_20 : Addr} {od_20 an_20 : Option Addr} {sl_20 : Array (Option Value)} {oc_20 kV_20 dc_20 pm_20 cd_20 ct_20 : Value} {f_13 : Addr} {od_13 an_13 : Option Addr} {sl_13 : Array (Option Value)} {oc_13 kV_13 dc_13 pm_13 cd_13 ct_13 : Value} {f_49 : Addr} {od_49 an_49 : Option Addr} {sl_49 : Array (Option Value)} {oc_49 kV_49 dc_49 pm_49 cd_49 ct_49 : Value} {f_21 : Addr} {od_21 an_21 : Option Addr} {sl_21 : Array (Option Value)} {oc_21 kV_21 dc_21 pm_21 cd_21 ct_21 : Value} {f_14 : Addr} {od_14 an_14 : Option Addr} {sl_14 : Array (Option Value)} {oc_14 kV_14 dc_14 pm_14 cd_14 ct_14 : Value} {f_50 : Addr} {od_50 an_50 : Option Addr} {sl_50 : Array (Option Value)} {oc_50 kV_50 dc_50 pm_50 cd_50 ct_50 : Value} {f_22 : Addr} {od_22 an_22 : Option Addr} {sl_22 : Array (Option Value)} {oc_22 kV_22 dc_22 pm_22 cd_22 ct_22 : Value} {f_15 : Addr} {od_15 an_15 : Option Addr} {sl_15 : Array (Option Value)} {oc_15 kV_15 dc_15 pm_15 cd_15 ct_15 : Value} {f_51 : Addr} {od_51 an_51 : Option Addr} {sl_51 : Array (Option Value)} {oc_51 kV_51 dc_51 pm_51 cd_51 ct_51 : Value} {f_23 : Addr} {od_23 an_23 : Option Addr} {sl_23 : Array (Option Value)} {oc_23 kV_23 dc_23 pm_23 cd_23 ct_23 : Value} {f_16 : Addr} {od_16 an_16 : Option Addr} {sl_16 : Array (Option Value)} {oc_16 kV_16 dc_16 pm_16 cd_16 ct_16 : Value} {fa : Addr} (X : K.In h) (G : h.Ns mainGlobals mg) (hfa : mg "law" = some (.ref fa))
  (aC_In : PySem.W.nsIn K mainGlobals "In" = some (some (.ref C_In)))
  (aC_Out : PySem.W.nsIn K mainGlobals "Out" = some (some (.ref C_Out)))
  (aC_Least : PySem.W.nsIn K mainGlobals "Least" = some (some (.ref C_Least)))
  (aC_Most : PySem.W.nsIn K mainGlobals "Most" = some (some (.ref C_Most)))
  (a_8 : PySem.W.nsIn K mainGlobals "marks" = some (some (.ref f_8)))
  (l_8 : K.lookup f_8 = some ⟨oc_8,od_8,.func (PySem.W.fnOf "marks" "marks" (za7 s_8) (za4 s_8) (zaj s_8) .none kV_8 dc_8 pm_8 an_8 cd_8 ct_8),sl_8⟩)
  (c_8 : PySem.W.codeIn K cd_8 "marks" = true)
  (k_8 : PySem.W.keepIn K (.ref f_8) = true)
  (a_39 : PySem.W.nsIn K mainGlobals "part_of" = some (some (.ref f_39)))
  (l_39 : K.lookup f_39 = some ⟨oc_39,od_39,.func (PySem.W.fnOf "part_of" "part_of" (za7 zik) (za4 zik) (zaj zik) .none kV_39 dc_39 pm_39 an_39 cd_39 ct_39),sl_39⟩)
  (c_39 : PySem.W.codeIn K cd_39 "part_of" = true)
  (k_39 : PySem.W.keepIn K (.ref f_39) = true)
  (a_24 : PySem.W.nsIn K mainGlobals "worth_in" = some (some (.ref f_24)))
  (l_24 : K.lookup f_24 = some ⟨oc_24,od_24,.func (PySem.W.fnOf "worth_in" "worth_in" (za7 zi4) (za4 zi4) (zaj zi4) .none kV_24 dc_24 pm_24 an_24 cd_24 ct_24),sl_24⟩)
  (c_24 : PySem.W.codeIn K cd_24 "worth_in" = true)
  (k_24 : PySem.W.keepIn K (.ref f_24) = true)
  (a_17 : PySem.W.nsIn K mainGlobals "worth_not_out" = some (some (.ref f_17)))
  (l_17 : K.lookup f_17 = some ⟨oc_17,od_17,.func (PySem.W.fnOf "worth_not_out" "worth_not_out" (za7 ziu) (za4 ziu) (zaj ziu) .none kV_17 dc_17 pm_17 an_17 cd_17 ct_17),sl_17⟩)
  (c_17 : PySem.W.codeIn K cd_17 "worth_not_out" = true)
  (k_17 : PySem.W.keepIn K (.ref f_17) = true)
  (a_42 : PySem.W.nsIn K mainGlobals "outside" = some (some (.ref f_42)))
  (l_42 : K.lookup f_42 = some ⟨oc_42,od_42,.func (PySem.W.fnOf "outside" "outside" (za7 zjv) (za4 zjv) (zaj zjv) .none kV_42 dc_42 pm_42 an_42 cd_42 ct_42),sl_42⟩)
  (c_42 : PySem.W.codeIn K cd_42 "outside" = true)
  (k_42 : PySem.W.keepIn K (.ref f_42) = true)
  (a_25 : PySem.W.nsIn K mainGlobals "body_of" = some (some (.ref f_25)))
  (l_25 : K.lookup f_25 = some ⟨oc_25,od_25,.func (PySem.W.fnOf "body_of" "body_of" (za7 zj9) (za4 zj9) (zaj zj9) .none kV_25 dc_25 pm_25 an_25 cd_25 ct_25),sl_25⟩)
  (c_25 : PySem.W.codeIn K cd_25 "body_of" = true)
  (k_25 : PySem.W.keepIn K (.ref f_25) = true)
  (a_43 : PySem.W.nsIn K mainGlobals "body_sure" = some (some (.ref f_43)))
  (l_43 : K.lookup f_43 = some ⟨oc_43,od_43,.func (PySem.W.fnOf "body_sure" "body_sure" (za7 zjr) (za4 zjr) (zaj zjr) .none kV_43 dc_43 pm_43 an_43 cd_43 ct_43),sl_43⟩)
  (c_43 : PySem.W.codeIn K cd_43 "body_sure" = true)
  (k_43 : PySem.W.keepIn K (.ref f_43) = true)
  (a_44 : PySem.W.nsIn K mainGlobals "body_lost" = some (some (.ref f_44)))
  (l_44 : K.lookup f_44 = some ⟨oc_44,od_44,.func (PySem.W.fnOf "body_lost" "body_lost" (za7 zie) (za4 zie) (zaj zie) .none kV_44 dc_44 pm_44 an_44 cd_44 ct_44),sl_44⟩)
  (c_44 : PySem.W.codeIn K cd_44 "body_lost" = true)
  (k_44 : PySem.W.keepIn K (.ref f_44) = true)
  (a_45 : PySem.W.nsIn K mainGlobals "surely_broken" = some (some (.ref f_45)))
  (l_45 : K.lookup f_45 = some ⟨oc_45,od_45,.func (PySem.W.fnOf "surely_broken" "surely_broken" (za7 zjj) (za4 zjj) (zaj zjj) .none kV_45 dc_45 pm_45 an_45 cd_45 ct_45),sl_45⟩)
  (c_45 : PySem.W.codeIn K cd_45 "surely_broken" = true)
  (k_45 : PySem.W.keepIn K (.ref f_45) = true)
  (a_35 : PySem.W.nsIn K mainGlobals "put_to" = some (some (.ref f_35)))
  (l_35 : K.lookup f_35 = some ⟨oc_35,od_35,.func (PySem.W.fnOf "put_to" "put_to" (za7 zj8) (za4 zj8) (zaj zj8) .none kV_35 dc_35 pm_35 an_35 cd_35 ct_35),sl_35⟩)
  (c_35 : PySem.W.codeIn K cd_35 "put_to" = true)
  (k_35 : PySem.W.keepIn K (.ref f_35) = true)
  (a_36 : PySem.W.nsIn K mainGlobals "rests_outside" = some (some (.ref f_36)))
  (l_36 : K.lookup f_36 = some ⟨oc_36,od_36,.func (PySem.W.fnOf "rests_outside" "rests_outside" (za7 zj0) (za4 zj0) (zaj zj0) .none kV_36 dc_36 pm_36 an_36 cd_36 ct_36),sl_36⟩)
  (c_36 : PySem.W.codeIn K cd_36 "rests_outside" = true)
  (k_36 : PySem.W.keepIn K (.ref f_36) = true)
  (a_46 : PySem.W.nsIn K mainGlobals "fits" = some (some (.ref f_46)))
  (l_46 : K.lookup f_46 = some ⟨oc_46,od_46,.func (PySem.W.fnOf "fits" "fits" (za7 zj3) (za4 zj3) (zaj zj3) .none kV_46 dc_46 pm_46 an_46 cd_46 ct_46),sl_46⟩)
  (c_46 : PySem.W.codeIn K cd_46 "fits" = true)
  (k_46 : PySem.W.keepIn K (.ref f_46) = true)
  (a_12 : PySem.W.nsIn K mainGlobals "right_why" = some (some (.ref f_12)))
  (l_12 : K.lookup f_12 = some ⟨oc_12,od_12,.func (PySem.W.fnOf "right_why" "right_why" (za7 zi7) (za4 zi7) (zaj zi7) .none kV_12 dc_12 pm_12 an_12 cd_12 ct_12),sl_12⟩)
  (c_12 : PySem.W.codeIn K cd_12 "right_why" = true)
  (k_12 : PySem.W.keepIn K (.ref f_12) = true)
  (a_6 : PySem.W.nsIn K mainGlobals "has_number" = some (some (.ref f_6)))
  (l_6 : K.lookup f_6 = some ⟨oc_6,od_6,.func (PySem.W.fnOf "has_number" "has_number" (za7 s_6) (za4 s_6) (zaj s_6) .none kV_6 dc_6 pm_6 an_6 cd_6 ct_6),sl_6⟩)
  (c_6 : PySem.W.codeIn K cd_6 "has_number" = true)
  (k_6 : PySem.W.keepIn K (.ref f_6) = true)
  (a_37 : PySem.W.nsIn K mainGlobals "right_group" = some (some (.ref f_37)))
  (l_37 : K.lookup f_37 = some ⟨oc_37,od_37,.func (PySem.W.fnOf "right_group" "right_group" (za7 zj5) (za4 zj5) (zaj zj5) .none kV_37 dc_37 pm_37 an_37 cd_37 ct_37),sl_37⟩)
  (c_37 : PySem.W.codeIn K cd_37 "right_group" = true)
  (k_37 : PySem.W.keepIn K (.ref f_37) = true)
  (a_47 : PySem.W.nsIn K mainGlobals "has_in" = some (some (.ref f_47)))
  (l_47 : K.lookup f_47 = some ⟨oc_47,od_47,.func (PySem.W.fnOf "has_in" "has_in" (za7 zj1) (za4 zj1) (zaj zj1) .none kV_47 dc_47 pm_47 an_47 cd_47 ct_47),sl_47⟩)
  (c_47 : PySem.W.codeIn K cd_47 "has_in" = true)
  (k_47 : PySem.W.keepIn K (.ref f_47) = true)
  (a_38 : PySem.W.nsIn K mainGlobals "right_step" = some (some (.ref f_38)))
  (l_38 : K.lookup f_38 = some ⟨oc_38,od_38,.func (PySem.W.fnOf "right_step" "right_step" (za7 zjn) (za4 zjn) (zaj zjn) .none kV_38 dc_38 pm_38 an_38 cd_38 ct_38),sl_38⟩)
  (c_38 : PySem.W.codeIn K cd_38 "right_step" = true)
  (k_38 : PySem.W.keepIn K (.ref f_38) = true)
  (a_31 : PySem.W.nsIn K mainGlobals "right_line" = some (some (.ref f_31)))
  (l_31 : K.lookup f_31 = some ⟨oc_31,od_31,.func (PySem.W.fnOf "right_line" "right_line" (za7 zjs) (za4 zjs) (zaj zjs) .none kV_31 dc_31 pm_31 an_31 cd_31 ct_31),sl_31⟩)
  (c_31 : PySem.W.codeIn K cd_31 "right_line" = true)
  (k_31 : PySem.W.keepIn K (.ref f_31) = true)
  (a_26 : PySem.W.nsIn K mainGlobals "begun" = some (some (.ref f_26)))
  (l_26 : K.lookup f_26 = some ⟨oc_26,od_26,.func (PySem.W.fnOf "begun" "begun" (za7 zje) (za4 zje) (zaj zje) .none kV_26 dc_26 pm_26 an_26 cd_26 ct_26),sl_26⟩)
  (c_26 : PySem.W.codeIn K cd_26 "begun" = true)
  (k_26 : PySem.W.keepIn K (.ref f_26) = true)
  (a_27 : PySem.W.nsIn K mainGlobals "right_steps" = some (some (.ref f_27)))
  (l_27 : K.lookup f_27 = some ⟨oc_27,od_27,.func (PySem.W.fnOf "right_steps" "right_steps" (za7 zjo) (za4 zjo) (zaj zjo) .none kV_27 dc_27 pm_27 an_27 cd_27 ct_27),sl_27⟩)
  (c_27 : PySem.W.codeIn K cd_27 "right_steps" = true)
  (k_27 : PySem.W.keepIn K (.ref f_27) = true)
  (a_32 : PySem.W.nsIn K mainGlobals "right_paper" = some (some (.ref f_32)))
  (l_32 : K.lookup f_32 = some ⟨oc_32,od_32,.func (PySem.W.fnOf "right_paper" "right_paper" (za7 zii) (za4 zii) (zaj zii) .none kV_32 dc_32 pm_32 an_32 cd_32 ct_32),sl_32⟩)
  (c_32 : PySem.W.codeIn K cd_32 "right_paper" = true)
  (k_32 : PySem.W.keepIn K (.ref f_32) = true)
  (a_7 : PySem.W.nsIn K mainGlobals "_law_cell_at" = some (some (.ref f_7)))
  (l_7 : K.lookup f_7 = some ⟨oc_7,od_7,.func (PySem.W.fnOf "_law_cell_at" "_law_cell_at" (za7 s_7) (za4 s_7) (zaj s_7) .none kV_7 dc_7 pm_7 an_7 cd_7 ct_7),sl_7⟩)
  (c_7 : PySem.W.codeIn K cd_7 "_law_cell_at" = true)
  (k_7 : PySem.W.keepIn K (.ref f_7) = true)
  (a_2 : PySem.W.nsIn K mainGlobals "_law_mixed" = some (some (.ref f_2)))
  (l_2 : K.lookup f_2 = some ⟨oc_2,od_2,.func (PySem.W.fnOf "_law_mixed" "_law_mixed" (za7 s_2) (za4 s_2) (zaj s_2) .none kV_2 dc_2 pm_2 an_2 cd_2 ct_2),sl_2⟩)
  (c_2 : PySem.W.codeIn K cd_2 "_law_mixed" = true)
  (k_2 : PySem.W.keepIn K (.ref f_2) = true)
  (a_33 : PySem.W.nsIn K mainGlobals "_law_worth" = some (some (.ref f_33)))
  (l_33 : K.lookup f_33 = some ⟨oc_33,od_33,.func (PySem.W.fnOf "_law_worth" "_law_worth" (za7 zj4) (za4 zj4) (zaj zj4) .none kV_33 dc_33 pm_33 an_33 cd_33 ct_33),sl_33⟩)
  (c_33 : PySem.W.codeIn K cd_33 "_law_worth" = true)
  (k_33 : PySem.W.keepIn K (.ref f_33) = true)
  (a_28 : PySem.W.nsIn K mainGlobals "_law_part" = some (some (.ref f_28)))
  (l_28 : K.lookup f_28 = some ⟨oc_28,od_28,.func (PySem.W.fnOf "_law_part" "_law_part" (za7 zi8) (za4 zi8) (zaj zi8) .none kV_28 dc_28 pm_28 an_28 cd_28 ct_28),sl_28⟩)
  (c_28 : PySem.W.codeIn K cd_28 "_law_part" = true)
  (k_28 : PySem.W.keepIn K (.ref f_28) = true)
  (a_34 : PySem.W.nsIn K mainGlobals "_law_rule" = some (some (.ref f_34)))
  (l_34 : K.lookup f_34 = some ⟨oc_34,od_34,.func (PySem.W.fnOf "_law_rule" "_law_rule" (za7 zjt) (za4 zjt) (zaj zjt) .none kV_34 dc_34 pm_34 an_34 cd_34 ct_34),sl_34⟩)
  (c_34 : PySem.W.codeIn K cd_34 "_law_rule" = true)
  (k_34 : PySem.W.keepIn K (.ref f_34) = true)
  (a_18 : PySem.W.nsIn K mainGlobals "_law_ring" = some (some (.ref f_18)))
  (l_18 : K.lookup f_18 = some ⟨oc_18,od_18,.func (PySem.W.fnOf "_law_ring" "_law_ring" (za7 zjk) (za4 zjk) (zaj zjk) .none kV_18 dc_18 pm_18 an_18 cd_18 ct_18),sl_18⟩)
  (c_18 : PySem.W.codeIn K cd_18 "_law_ring" = true)
  (k_18 : PySem.W.keepIn K (.ref f_18) = true)
  (a_11 : PySem.W.nsIn K mainGlobals "_law_copy" = some (some (.ref f_11)))
  (l_11 : K.lookup f_11 = some ⟨oc_11,od_11,.func (PySem.W.fnOf "_law_copy" "_law_copy" (za7 zis) (za4 zis) (zaj zis) .none kV_11 dc_11 pm_11 an_11 cd_11 ct_11),sl_11⟩)
  (c_11 : PySem.W.codeIn K cd_11 "_law_copy" = true)
  (k_11 : PySem.W.keepIn K (.ref f_11) = true)
  (a_40 : PySem.W.nsIn K mainGlobals "_law_part_sure" = some (some (.ref f_40)))
  (l_40 : K.lookup f_40 = some ⟨oc_40,od_40,.func (PySem.W.fnOf "_law_part_sure" "_law_part_sure" (za7 ziy) (za4 ziy) (zaj ziy) .none kV_40 dc_40 pm_40 an_40 cd_40 ct_40),sl_40⟩)
  (c_40 : PySem.W.codeIn K cd_40 "_law_part_sure" = true)
  (k_40 : PySem.W.keepIn K (.ref f_40) = true)
  (a_19 : PySem.W.nsIn K mainGlobals "_law_broken" = some (some (.ref f_19)))
  (l_19 : K.lookup f_19 = some ⟨oc_19,od_19,.func (PySem.W.fnOf "_law_broken" "_law_broken" (za7 zio) (za4 zio) (zaj zio) .none kV_19 dc_19 pm_19 an_19 cd_19 ct_19),sl_19⟩)
  (c_19 : PySem.W.codeIn K cd_19 "_law_broken" = true)
  (k_19 : PySem.W.keepIn K (.ref f_19) = true)
  (a_41 : PySem.W.nsIn K mainGlobals "_law_holds" = some (some (.ref f_41)))
  (l_41 : K.lookup f_41 = some ⟨oc_41,od_41,.func (PySem.W.fnOf "_law_holds" "_law_holds" (za7 zil) (za4 zil) (zaj zil) .none kV_41 dc_41 pm_41 an_41 cd_41 ct_41),sl_41⟩)
  (c_41 : PySem.W.codeIn K cd_41 "_law_holds" = true)
  (k_41 : PySem.W.keepIn K (.ref f_41) = true)
  (a_3 : PySem.W.nsIn K mainGlobals "_law_rising" = some (some (.ref f_3)))
  (l_3 : K.lookup f_3 = some ⟨oc_3,od_3,.func (PySem.W.fnOf "_law_rising" "_law_rising" (za7 s_3) (za4 s_3) (zaj s_3) .none kV_3 dc_3 pm_3 an_3 cd_3 ct_3),sl_3⟩)
  (c_3 : PySem.W.codeIn K cd_3 "_law_rising" = true)
  (k_3 : PySem.W.keepIn K (.ref f_3) = true)
  (a_1 : PySem.W.nsIn K mainGlobals "_law_rows" = some (some (.ref f_1)))
  (l_1 : K.lookup f_1 = some ⟨oc_1,od_1,.func (PySem.W.fnOf "_law_rows" "_law_rows" (za7 s_1) (za4 s_1) (zaj s_1) .none kV_1 dc_1 pm_1 an_1 cd_1 ct_1),sl_1⟩)
  (c_1 : PySem.W.codeIn K cd_1 "_law_rows" = true)
  (k_1 : PySem.W.keepIn K (.ref f_1) = true)
  (a_5 : PySem.W.nsIn K mainGlobals "_law_members" = some (some (.ref f_5)))
  (l_5 : K.lookup f_5 = some ⟨oc_5,od_5,.func (PySem.W.fnOf "_law_members" "_law_members" (za7 s_5) (za4 s_5) (zaj s_5) .none kV_5 dc_5 pm_5 an_5 cd_5 ct_5),sl_5⟩)
  (c_5 : PySem.W.codeIn K cd_5 "_law_members" = true)
  (k_5 : PySem.W.keepIn K (.ref f_5) = true)
  (a_30 : PySem.W.nsIn K mainGlobals "_law_why" = some (some (.ref f_30)))
  (l_30 : K.lookup f_30 = some ⟨oc_30,od_30,.func (PySem.W.fnOf "_law_why" "_law_why" (za7 zji) (za4 zji) (zaj zji) .none kV_30 dc_30 pm_30 an_30 cd_30 ct_30),sl_30⟩)
  (c_30 : PySem.W.codeIn K cd_30 "_law_why" = true)
  (k_30 : PySem.W.keepIn K (.ref f_30) = true)
  (a_4 : PySem.W.nsIn K mainGlobals "_law_paper" = some (some (.ref f_4)))
  (l_4 : K.lookup f_4 = some ⟨oc_4,od_4,.func (PySem.W.fnOf "_law_paper" "_law_paper" (za7 s_4) (za4 s_4) (zaj s_4) .none kV_4 dc_4 pm_4 an_4 cd_4 ct_4),sl_4⟩)
  (c_4 : PySem.W.codeIn K cd_4 "_law_paper" = true)
  (k_4 : PySem.W.keepIn K (.ref f_4) = true)
  (a_9 : PySem.W.nsIn K mainGlobals "_law_spoiled" = some (some (.ref f_9)))
  (l_9 : K.lookup f_9 = some ⟨oc_9,od_9,.func (PySem.W.fnOf "_law_spoiled" "_law_spoiled" (za7 s_9) (za4 s_9) (zaj s_9) .none kV_9 dc_9 pm_9 an_9 cd_9 ct_9),sl_9⟩)
  (c_9 : PySem.W.codeIn K cd_9 "_law_spoiled" = true)
  (k_9 : PySem.W.keepIn K (.ref f_9) = true)
  (a_29 : PySem.W.nsIn K mainGlobals "_law_again" = some (some (.ref f_29)))
  (l_29 : K.lookup f_29 = some ⟨oc_29,od_29,.func (PySem.W.fnOf "_law_again" "_law_again" (za7 zit) (za4 zit) (zaj zit) .none kV_29 dc_29 pm_29 an_29 cd_29 ct_29),sl_29⟩)
  (c_29 : PySem.W.codeIn K cd_29 "_law_again" = true)
  (k_29 : PySem.W.keepIn K (.ref f_29) = true)
  (a_10 : PySem.W.nsIn K mainGlobals "_law_told" = some (some (.ref f_10)))
  (l_10 : K.lookup f_10 = some ⟨oc_10,od_10,.func (PySem.W.fnOf "_law_told" "_law_told" (za7 zjq) (za4 zjq) (zaj zjq) .none kV_10 dc_10 pm_10 an_10 cd_10 ct_10),sl_10⟩)
  (c_10 : PySem.W.codeIn K cd_10 "_law_told" = true)
  (k_10 : PySem.W.keepIn K (.ref f_10) = true)
  (a_0 : PySem.W.nsIn K mainGlobals "law" = some (some (.ref f_0)))
  (l_0 : K.lookup f_0 = some ⟨oc_0,od_0,.func (PySem.W.fnOf "law" "law" (za7 s_0) (za4 s_0) (zaj s_0) .none kV_0 dc_0 pm_0 an_0 cd_0 ct_0),sl_0⟩)
  (c_0 : PySem.W.codeIn K cd_0 "law" = true)
  (k_0 : PySem.W.keepIn K (.ref f_0) = true)
  (a_48 : PySem.W.findIn K (.ref C_In) "__init__" = some (some (.ref f_48)))
  (i_48 : PySem.W.isFn K (.ref f_48) = true)
  (l_48 : K.lookup f_48 = some ⟨oc_48,od_48,.func (PySem.W.fnOf "__init__" "In.__init__" (za7 zir) (za4 zir) (zaj zir) .none kV_48 dc_48 pm_48 an_48 cd_48 ct_48),sl_48⟩)
  (c_48 : PySem.W.codeIn K cd_48 "In.__init__" = true)
  (k_48 : PySem.W.keepIn K (.ref f_48) = true)
  (a_20 : PySem.W.findIn K (.ref C_In) "sure" = some (some (.ref f_20)))
  (i_20 : PySem.W.isFn K (.ref f_20) = true)
  (l_20 : K.lookup f_20 = some ⟨oc_20,od_20,.func (PySem.W.fnOf "sure" "In.sure" (za7 zif) (za4 zif) (zaj zif) .none kV_20 dc_20 pm_20 an_20 cd_20 ct_20),sl_20⟩)
  (c_20 : PySem.W.codeIn K cd_20 "In.sure" = true)
  (k_20 : PySem.W.keepIn K (.ref f_20) = true)
  (a_13 : PySem.W.findIn K (.ref C_In) "lost" = some (some (.ref f_13)))
  (i_13 : PySem.W.isFn K (.ref f_13) = true)
  (l_13 : K.lookup f_13 = some ⟨oc_13,od_13,.func (PySem.W.fnOf "lost" "In.lost" (za7 zid) (za4 zid) (zaj zid) .none kV_13 dc_13 pm_13 an_13 cd_13 ct_13),sl_13⟩)
  (c_13 : PySem.W.codeIn K cd_13 "In.lost" = true)
  (k_13 : PySem.W.keepIn K (.ref f_13) = true)
  (a_49 : PySem.W.findIn K (.ref C_Out) "__init__" = some (some (.ref f_49)))
  (i_49 : PySem.W.isFn K (.ref f_49) = true)
  (l_49 : K.lookup f_49 = some ⟨oc_49,od_49,.func (PySem.W.fnOf "__init__" "Out.__init__" (za7 zi1) (za4 zi1) (zaj zi1) .none kV_49 dc_49 pm_49 an_49 cd_49 ct_49),sl_49⟩)
  (c_49 : PySem.W.codeIn K cd_49 "Out.__init__" = true)
  (k_49 : PySem.W.keepIn K (.ref f_49) = true)
  (a_21 : PySem.W.findIn K (.ref C_Out) "sure" = some (some (.ref f_21)))
  (i_21 : PySem.W.isFn K (.ref f_21) = true)
  (l_21 : K.lookup f_21 = some ⟨oc_21,od_21,.func (PySem.W.fnOf "sure" "Out.sure" (za7 zj6) (za4 zj6) (zaj zj6) .none kV_21 dc_21 pm_21 an_21 cd_21 ct_21),sl_21⟩)
  (c_21 : PySem.W.codeIn K cd_21 "Out.sure" = true)
  (k_21 : PySem.W.keepIn K (.ref f_21) = true)
  (a_14 : PySem.W.findIn K (.ref C_Out) "lost" = some (some (.ref f_14)))
  (i_14 : PySem.W.isFn K (.ref f_14) = true)
  (l_14 : K.lookup f_14 = some ⟨oc_14,od_14,.func (PySem.W.fnOf "lost" "Out.lost" (za7 zin) (za4 zin) (zaj zin) .none kV_14 dc_14 pm_14 an_14 cd_14 ct_14),sl_14⟩)
  (c_14 : PySem.W.codeIn K cd_14 "Out.lost" = true)
  (k_14 : PySem.W.keepIn K (.ref f_14) = true)
  (a_50 : PySem.W.findIn K (.ref C_Least) "__init__" = some (some (.ref f_50)))
  (i_50 : PySem.W.isFn K (.ref f_50) = true)
  (l_50 : K.lookup f_50 = some ⟨oc_50,od_50,.func (PySem.W.fnOf "__init__" "Least.__init__" (za7 zja) (za4 zja) (zaj zja) .none kV_50 dc_50 pm_50 an_50 cd_50 ct_50),sl_50⟩)
  (c_50 : PySem.W.codeIn K cd_50 "Least.__init__" = true)
  (k_50 : PySem.W.keepIn K (.ref f_50) = true)
  (a_22 : PySem.W.findIn K (.ref C_Least) "sure" = some (some (.ref f_22)))
  (i_22 : PySem.W.isFn K (.ref f_22) = true)
  (l_22 : K.lookup f_22 = some ⟨oc_22,od_22,.func (PySem.W.fnOf "sure" "Least.sure" (za7 zi6) (za4 zi6) (zaj zi6) .none kV_22 dc_22 pm_22 an_22 cd_22 ct_22),sl_22⟩)
  (c_22 : PySem.W.codeIn K cd_22 "Least.sure" = true)
  (k_22 : PySem.W.keepIn K (.ref f_22) = true)
  (a_15 : PySem.W.findIn K (.ref C_Least) "lost" = some (some (.ref f_15)))
  (i_15 : PySem.W.isFn K (.ref f_15) = true)
  (l_15 : K.lookup f_15 = some ⟨oc_15,od_15,.func (PySem.W.fnOf "lost" "Least.lost" (za7 zjw) (za4 zjw) (zaj zjw) .none kV_15 dc_15 pm_15 an_15 cd_15 ct_15),sl_15⟩)
  (c_15 : PySem.W.codeIn K cd_15 "Least.lost" = true)
  (k_15 : PySem.W.keepIn K (.ref f_15) = true)
  (a_51 : PySem.W.findIn K (.ref C_Most) "__init__" = some (some (.ref f_51)))
  (i_51 : PySem.W.isFn K (.ref f_51) = true)
  (l_51 : K.lookup f_51 = some ⟨oc_51,od_51,.func (PySem.W.fnOf "__init__" "Most.__init__" (za7 zjy) (za4 zjy) (zaj zjy) .none kV_51 dc_51 pm_51 an_51 cd_51 ct_51),sl_51⟩)
  (c_51 : PySem.W.codeIn K cd_51 "Most.__init__" = true)
  (k_51 : PySem.W.keepIn K (.ref f_51) = true)
  (a_23 : PySem.W.findIn K (.ref C_Most) "sure" = some (some (.ref f_23)))
  (i_23 : PySem.W.isFn K (.ref f_23) = true)
  (l_23 : K.lookup f_23 = some ⟨oc_23,od_23,.func (PySem.W.fnOf "sure" "Most.sure" (za7 zjh) (za4 zjh) (zaj zjh) .none kV_23 dc_23 pm_23 an_23 cd_23 ct_23),sl_23⟩)
  (c_23 : PySem.W.codeIn K cd_23 "Most.sure" = true)
  (k_23 : PySem.W.keepIn K (.ref f_23) = true)
  (a_16 : PySem.W.findIn K (.ref C_Most) "lost" = some (some (.ref f_16)))
  (i_16 : PySem.W.isFn K (.ref f_16) = true)
  (l_16 : K.lookup f_16 = some ⟨oc_16,od_16,.func (PySem.W.fnOf "lost" "Most.lost" (za7 zim) (za4 zim) (zaj zim) .none kV_16 dc_16 pm_16 an_16 cd_16 ct_16),sl_16⟩)
  (c_16 : PySem.W.codeIn K cd_16 "Most.lost" = true)
  (k_16 : PySem.W.keepIn K (.ref f_16) = true)
  (pg_In : PySem.W.plainGet K C_In Str.empty = true)
  (hd_In : PySem.W.hasDictIn K C_In = true)
  (po_In : PySem.W.plainOver K C_In = true)
  (sa_In : PySem.W.findIn K (.ref C_In) "__setattr__" = some (some (.builtin "object.__setattr__")))
  (mk_In : PySem.W.makesIn K C_In = true)
  (kc_In : PySem.W.keepIn K (.ref C_In) = true)
  (na_In_thing : PySem.W.findIn K (.ref C_In) "thing" = some none)
  (pg_Out : PySem.W.plainGet K C_Out Str.empty = true)
  (hd_Out : PySem.W.hasDictIn K C_Out = true)
  (po_Out : PySem.W.plainOver K C_Out = true)
  (sa_Out : PySem.W.findIn K (.ref C_Out) "__setattr__" = some (some (.builtin "object.__setattr__")))
  (mk_Out : PySem.W.makesIn K C_Out = true)
  (kc_Out : PySem.W.keepIn K (.ref C_Out) = true)
  (na_Out_thing : PySem.W.findIn K (.ref C_Out) "thing" = some none)
  (pg_Least : PySem.W.plainGet K C_Least Str.empty = true)
  (hd_Least : PySem.W.hasDictIn K C_Least = true)
  (po_Least : PySem.W.plainOver K C_Least = true)
  (sa_Least : PySem.W.findIn K (.ref C_Least) "__setattr__" = some (some (.builtin "object.__setattr__")))
  (mk_Least : PySem.W.makesIn K C_Least = true)
  (kc_Least : PySem.W.keepIn K (.ref C_Least) = true)
  (na_Least_bound : PySem.W.findIn K (.ref C_Least) "bound" = some none)
  (na_Least_pieces : PySem.W.findIn K (.ref C_Least) "pieces" = some none)
  (pg_Most : PySem.W.plainGet K C_Most Str.empty = true)
  (hd_Most : PySem.W.hasDictIn K C_Most = true)
  (po_Most : PySem.W.plainOver K C_Most = true)
  (sa_Most : PySem.W.findIn K (.ref C_Most) "__setattr__" = some (some (.builtin "object.__setattr__")))
  (mk_Most : PySem.W.makesIn K C_Most = true)
  (kc_Most : PySem.W.keepIn K (.ref C_Most) = true)
  (na_Most_bound : PySem.W.findIn K (.ref C_Most) "bound" = some none)
  (na_Most_pieces : PySem.W.findIn K (.ref C_Most) "pieces" = some none)
  (kt_NoneType_bool : PySem.W.kitOne K (.type "NoneType") (.type "bool") = some false)
  (kt_bool_bool : PySem.W.kitOne K (.type "bool") (.type "bool") = some true)
  (kt_int_bool : PySem.W.kitOne K (.type "int") (.type "bool") = some false)
  (kt_str_bool : PySem.W.kitOne K (.type "str") (.type "bool") = some false)
  (kt_list_bool : PySem.W.kitOne K (.type "list") (.type "bool") = some false)
  (kt_tuple_bool : PySem.W.kitOne K (.type "tuple") (.type "bool") = some false)
  (kt_dict_bool : PySem.W.kitOne K (.type "dict") (.type "bool") = some false)
  (z_all : PySem.W.nsIn K mainGlobals "all" = some none)
  (z_any : PySem.W.nsIn K mainGlobals "any" = some none)
  (z_bool : PySem.W.nsIn K mainGlobals "bool" = some none)
  (z_enumerate : PySem.W.nsIn K mainGlobals "enumerate" = some none)
  (z_isinstance : PySem.W.nsIn K mainGlobals "isinstance" = some none)
  (z_len : PySem.W.nsIn K mainGlobals "len" = some none)
  (z_list : PySem.W.nsIn K mainGlobals "list" = some none)
  (z_max : PySem.W.nsIn K mainGlobals "max" = some none)
  (z_range : PySem.W.nsIn K mainGlobals "range" = some none)
  (z_set : PySem.W.nsIn K mainGlobals "set" = some none)
  (z_sum : PySem.W.nsIn K mainGlobals "sum" = some none)
  : ∃ fd : FuncData,(∀ (s : Shared) (v : Value),BindsTo s fd ⟨[v],[]⟩ [("_law_script",v)]) /\ ∃ a : Wa,∃ W : Wd K mg a,a.f_0 = fa /\ a.fd_0 = fd:=by
 have e:=hfa.symm.trans (PySem.W.mg_of X G a_0)
 cases e
 have F_8:=zba (st:=s_8) l_8 c_8 k_8
 have F_39:=zba (st:=zik) l_39 c_39 k_39
 have F_24:=zba (st:=zi4) l_24 c_24 k_24
 have F_17:=zba (st:=ziu) l_17 c_17 k_17
 have F_42:=zba (st:=zjv) l_42 c_42 k_42
 have F_25:=zba (st:=zj9) l_25 c_25 k_25
 have F_43:=zba (st:=zjr) l_43 c_43 k_43
 have F_44:=zba (st:=zie) l_44 c_44 k_44
 have F_45:=zba (st:=zjj) l_45 c_45 k_45
 have F_35:=zba (st:=zj8) l_35 c_35 k_35
 have F_36:=zba (st:=zj0) l_36 c_36 k_36
 have F_46:=zba (st:=zj3) l_46 c_46 k_46
 have F_12:=zba (st:=zi7) l_12 c_12 k_12
 have F_6:=zba (st:=s_6) l_6 c_6 k_6
 have F_37:=zba (st:=zj5) l_37 c_37 k_37
 have F_47:=zba (st:=zj1) l_47 c_47 k_47
 have F_38:=zba (st:=zjn) l_38 c_38 k_38
 have F_31:=zba (st:=zjs) l_31 c_31 k_31
 have F_26:=zba (st:=zje) l_26 c_26 k_26
 have F_27:=zba (st:=zjo) l_27 c_27 k_27
 have F_32:=zba (st:=zii) l_32 c_32 k_32
 have F_7:=zba (st:=s_7) l_7 c_7 k_7
 have F_2:=zba (st:=s_2) l_2 c_2 k_2
 have F_33:=zba (st:=zj4) l_33 c_33 k_33
 have F_28:=zba (st:=zi8) l_28 c_28 k_28
 have F_34:=zba (st:=zjt) l_34 c_34 k_34
 have F_18:=zba (st:=zjk) l_18 c_18 k_18
 have F_11:=zba (st:=zis) l_11 c_11 k_11
 have F_40:=zba (st:=ziy) l_40 c_40 k_40
 have F_19:=zba (st:=zio) l_19 c_19 k_19
 have F_41:=zba (st:=zil) l_41 c_41 k_41
 have F_3:=zba (st:=s_3) l_3 c_3 k_3
 have F_1:=zba (st:=s_1) l_1 c_1 k_1
 have F_5:=zba (st:=s_5) l_5 c_5 k_5
 have F_30:=zba (st:=zji) l_30 c_30 k_30
 have F_4:=zba (st:=s_4) l_4 c_4 k_4
 have F_9:=zba (st:=s_9) l_9 c_9 k_9
 have F_29:=zba (st:=zit) l_29 c_29 k_29
 have F_10:=zba (st:=zjq) l_10 c_10 k_10
 have F_0:=zba (st:=s_0) l_0 c_0 k_0
 have F_48:=zba (st:=zir) l_48 c_48 k_48
 have F_20:=zba (st:=zif) l_20 c_20 k_20
 have F_13:=zba (st:=zid) l_13 c_13 k_13
 have F_49:=zba (st:=zi1) l_49 c_49 k_49
 have F_21:=zba (st:=zj6) l_21 c_21 k_21
 have F_14:=zba (st:=zin) l_14 c_14 k_14
 have F_50:=zba (st:=zja) l_50 c_50 k_50
 have F_22:=zba (st:=zi6) l_22 c_22 k_22
 have F_15:=zba (st:=zjw) l_15 c_15 k_15
 have F_51:=zba (st:=zjy) l_51 c_51 k_51
 have F_23:=zba (st:=zjh) l_23 c_23 k_23
 have F_16:=zba (st:=zim) l_16 c_16 k_16
 exact ⟨PySem.W.fnOf "law" "law" (za7 s_0) (za4 s_0) (zaj s_0) .none kV_0 dc_0 pm_0 an_0 cd_0 ct_0,fun s v=>.of_eq rfl,{
  f_8:=f_8,
  fd_8:=_,
  f_39:=f_39,
  fd_39:=_,
  f_24:=f_24,
  fd_24:=_,
  f_17:=f_17,
  fd_17:=_,
  f_42:=f_42,
  fd_42:=_,
  f_25:=f_25,
  fd_25:=_,
  f_43:=f_43,
  fd_43:=_,
  f_44:=f_44,
  fd_44:=_,
  f_45:=f_45,
  fd_45:=_,
  f_35:=f_35,
  fd_35:=_,
  f_36:=f_36,
  fd_36:=_,
  f_46:=f_46,
  fd_46:=_,
  f_12:=f_12,
  fd_12:=_,
  f_6:=f_6,
  fd_6:=_,
  f_37:=f_37,
  fd_37:=_,
  f_47:=f_47,
  fd_47:=_,
  f_38:=f_38,
  fd_38:=_,
  f_31:=f_31,
  fd_31:=_,
  f_26:=f_26,
  fd_26:=_,
  f_27:=f_27,
  fd_27:=_,
  f_32:=f_32,
  fd_32:=_,
  f_7:=f_7,
  fd_7:=_,
  f_2:=f_2,
  fd_2:=_,
  f_33:=f_33,
  fd_33:=_,
  f_28:=f_28,
  fd_28:=_,
  f_34:=f_34,
  fd_34:=_,
  f_18:=f_18,
  fd_18:=_,
  f_11:=f_11,
  fd_11:=_,
  f_40:=f_40,
  fd_40:=_,
  f_19:=f_19,
  fd_19:=_,
  f_41:=f_41,
  fd_41:=_,
  f_3:=f_3,
  fd_3:=_,
  f_1:=f_1,
  fd_1:=_,
  f_5:=f_5,
  fd_5:=_,
  f_30:=f_30,
  fd_30:=_,
  f_4:=f_4,
  fd_4:=_,
  f_9:=f_9,
  fd_9:=_,
  f_29:=f_29,
  fd_29:=_,
  f_10:=f_10,
  fd_10:=_,
  f_0:=f_0,
  fd_0:=_,
  f_48:=f_48,
  fd_48:=_,
  f_20:=f_20,
  fd_20:=_,
  f_13:=f_13,
  fd_13:=_,
  f_49:=f_49,
  fd_49:=_,
  f_21:=f_21,
  fd_21:=_,
  f_14:=f_14,
  fd_14:=_,
  f_50:=f_50,
  fd_50:=_,
  f_22:=f_22,
  fd_22:=_,
  f_15:=f_15,
  fd_15:=_,
  f_51:=f_51,
  fd_51:=_,
  f_23:=f_23,
  fd_23:=_,
  f_16:=f_16,
  fd_16:=_,
  C_In:=C_In,
  C_Out:=C_Out,
  C_Least:=C_Least,
  C_Most:=C_Most },{
  F_8:=F_8,
  b_8:=F_8.binds fun _ _ _ _ _ _ us hl=>by
   revert us hl
   exact zct fun _ _=>rfl,
  g_8:=PySem.W.mg_of X G a_8,
  F_39:=F_39,
  b_39:=F_39.binds fun _ _ _ _ _ _ us hl=>by
   revert us hl
   exact zg5 fun _=>rfl,
  g_39:=PySem.W.mg_of X G a_39,
  F_24:=F_24,
  b_24:=F_24.binds fun _ _ _ _ _ _ us hl=>by
   revert us hl
   exact zct fun _ _=>rfl,
  g_24:=PySem.W.mg_of X G a_24,
  F_17:=F_17,
  b_17:=F_17.binds fun _ _ _ _ _ _ us hl=>by
   revert us hl
   exact zct fun _ _=>rfl,
  g_17:=PySem.W.mg_of X G a_17,
  F_42:=F_42,
  b_42:=F_42.binds fun _ _ _ _ _ _ us hl=>by
   revert us hl
   exact zct fun _ _=>rfl,
  g_42:=PySem.W.mg_of X G a_42,
  F_25:=F_25,
  b_25:=F_25.binds fun _ _ _ _ _ _ us hl=>by
   revert us hl
   exact zg5 fun _=>rfl,
  g_25:=PySem.W.mg_of X G a_25,
  F_43:=F_43,
  b_43:=F_43.binds fun _ _ _ _ _ _ us hl=>by
   revert us hl
   exact zct fun _ _=>rfl,
  g_43:=PySem.W.mg_of X G a_43,
  F_44:=F_44,
  b_44:=F_44.binds fun _ _ _ _ _ _ us hl=>by
   revert us hl
   exact zea fun _ _ _=>rfl,
  g_44:=PySem.W.mg_of X G a_44,
  F_45:=F_45,
  b_45:=F_45.binds fun _ _ _ _ _ _ us hl=>by
   revert us hl
   exact zct fun _ _=>rfl,
  g_45:=PySem.W.mg_of X G a_45,
  F_35:=F_35,
  b_35:=F_35.binds fun _ _ _ _ _ _ us hl=>by
   revert us hl
   exact zea fun _ _ _=>rfl,
  g_35:=PySem.W.mg_of X G a_35,
  F_36:=F_36,
  b_36:=F_36.binds fun _ _ _ _ _ _ us hl=>by
   revert us hl
   exact zea fun _ _ _=>rfl,
  g_36:=PySem.W.mg_of X G a_36,
  F_46:=F_46,
  b_46:=F_46.binds fun _ _ _ _ _ _ us hl=>by
   revert us hl
   exact zct fun _ _=>rfl,
  g_46:=PySem.W.mg_of X G a_46,
  F_12:=F_12,
  b_12:=F_12.binds fun _ _ _ _ _ _ us hl=>by
   revert us hl
   exact zlw fun _ _ _ _ _=>rfl,
  g_12:=PySem.W.mg_of X G a_12,
  F_6:=F_6,
  b_6:=F_6.binds fun _ _ _ _ _ _ us hl=>by
   revert us hl
   exact zct fun _ _=>rfl,
  g_6:=PySem.W.mg_of X G a_6,
  F_37:=F_37,
  b_37:=F_37.binds fun _ _ _ _ _ _ us hl=>by
   revert us hl
   exact zea fun _ _ _=>rfl,
  g_37:=PySem.W.mg_of X G a_37,
  F_47:=F_47,
  b_47:=F_47.binds fun _ _ _ _ _ _ us hl=>by
   revert us hl
   exact zct fun _ _=>rfl,
  g_47:=PySem.W.mg_of X G a_47,
  F_38:=F_38,
  b_38:=F_38.binds fun _ _ _ _ _ _ us hl=>by
   revert us hl
   exact zlw fun _ _ _ _ _=>rfl,
  g_38:=PySem.W.mg_of X G a_38,
  F_31:=F_31,
  b_31:=F_31.binds fun _ _ _ _ _ _ us hl=>by
   revert us hl
   exact zro fun _ _ _ _=>rfl,
  g_31:=PySem.W.mg_of X G a_31,
  F_26:=F_26,
  b_26:=F_26.binds fun _ _ _ _ _ _ us hl=>by
   revert us hl
   exact zct fun _ _=>rfl,
  g_26:=PySem.W.mg_of X G a_26,
  F_27:=F_27,
  b_27:=F_27.binds fun _ _ _ _ _ _ us hl=>by
   revert us hl
   exact zlw fun _ _ _ _ _=>rfl,
  g_27:=PySem.W.mg_of X G a_27,
  F_32:=F_32,
  b_32:=F_32.binds fun _ _ _ _ _ _ us hl=>by
   revert us hl
   exact zea fun _ _ _=>rfl,
  g_32:=PySem.W.mg_of X G a_32,
  F_7:=F_7,
  b_7:=F_7.binds fun _ _ _ _ _ _ us hl=>by
   revert us hl
   exact zct fun _ _=>rfl,
  g_7:=PySem.W.mg_of X G a_7,
  F_2:=F_2,
  b_2:=F_2.binds fun _ _ _ _ _ _ us hl=>by
   revert us hl
   exact zct fun _ _=>rfl,
  g_2:=PySem.W.mg_of X G a_2,
  F_33:=F_33,
  b_33:=F_33.binds fun _ _ _ _ _ _ us hl=>by
   revert us hl
   exact zg5 fun _=>rfl,
  g_33:=PySem.W.mg_of X G a_33,
  F_28:=F_28,
  b_28:=F_28.binds fun _ _ _ _ _ _ us hl=>by
   revert us hl
   exact zct fun _ _=>rfl,
  g_28:=PySem.W.mg_of X G a_28,
  F_34:=F_34,
  b_34:=F_34.binds fun _ _ _ _ _ _ us hl=>by
   revert us hl
   exact zea fun _ _ _=>rfl,
  g_34:=PySem.W.mg_of X G a_34,
  F_18:=F_18,
  b_18:=F_18.binds fun _ _ _ _ _ _ us hl=>by
   revert us hl
   exact zct fun _ _=>rfl,
  g_18:=PySem.W.mg_of X G a_18,
  F_11:=F_11,
  b_11:=F_11.binds fun _ _ _ _ _ _ us hl=>by
   revert us hl
   exact zg5 fun _=>rfl,
  g_11:=PySem.W.mg_of X G a_11,
  F_40:=F_40,
  b_40:=F_40.binds fun _ _ _ _ _ _ us hl=>by
   revert us hl
   exact zct fun _ _=>rfl,
  g_40:=PySem.W.mg_of X G a_40,
  F_19:=F_19,
  b_19:=F_19.binds fun _ _ _ _ _ _ us hl=>by
   revert us hl
   exact zct fun _ _=>rfl,
  g_19:=PySem.W.mg_of X G a_19,
  F_41:=F_41,
  b_41:=F_41.binds fun _ _ _ _ _ _ us hl=>by
   revert us hl
   exact zea fun _ _ _=>rfl,
  g_41:=PySem.W.mg_of X G a_41,
  F_3:=F_3,
  b_3:=F_3.binds fun _ _ _ _ _ _ us hl=>by
   revert us hl
   exact zct fun _ _=>rfl,
  g_3:=PySem.W.mg_of X G a_3,
  F_1:=F_1,
  b_1:=F_1.binds fun _ _ _ _ _ _ us hl=>by
   revert us hl
   exact zg5 fun _=>rfl,
  g_1:=PySem.W.mg_of X G a_1,
  F_5:=F_5,
  b_5:=F_5.binds fun _ _ _ _ _ _ us hl=>by
   revert us hl
   exact zg5 fun _=>rfl,
  g_5:=PySem.W.mg_of X G a_5,
  F_30:=F_30,
  b_30:=F_30.binds fun _ _ _ _ _ _ us hl=>by
   revert us hl
   exact zea fun _ _ _=>rfl,
  g_30:=PySem.W.mg_of X G a_30,
  F_4:=F_4,
  b_4:=F_4.binds fun _ _ _ _ _ _ us hl=>by
   revert us hl
   exact zea fun _ _ _=>rfl,
  g_4:=PySem.W.mg_of X G a_4,
  F_9:=F_9,
  b_9:=F_9.binds fun _ _ _ _ _ _ us hl=>by
   revert us hl
   exact zro fun _ _ _ _=>rfl,
  g_9:=PySem.W.mg_of X G a_9,
  F_29:=F_29,
  b_29:=F_29.binds fun _ _ _ _ _ _ us hl=>by
   revert us hl
   exact zg5 fun _=>rfl,
  g_29:=PySem.W.mg_of X G a_29,
  F_10:=F_10,
  b_10:=F_10.binds fun _ _ _ _ _ _ us hl=>by
   revert us hl
   exact zlw fun _ _ _ _ _=>rfl,
  g_10:=PySem.W.mg_of X G a_10,
  F_0:=F_0,
  b_0:=F_0.binds fun _ _ _ _ _ _ us hl=>by
   revert us hl
   exact zg5 fun _=>rfl,
  g_0:=PySem.W.mg_of X G a_0,
  F_48:=F_48,
  b_48:=F_48.binds fun _ _ _ _ _ _ us hl=>by
   revert us hl
   exact zct fun _ _=>rfl,
  F_20:=F_20,
  b_20:=F_20.binds fun _ _ _ _ _ _ us hl=>by
   revert us hl
   exact zct fun _ _=>rfl,
  F_13:=F_13,
  b_13:=F_13.binds fun _ _ _ _ _ _ us hl=>by
   revert us hl
   exact zea fun _ _ _=>rfl,
  F_49:=F_49,
  b_49:=F_49.binds fun _ _ _ _ _ _ us hl=>by
   revert us hl
   exact zct fun _ _=>rfl,
  F_21:=F_21,
  b_21:=F_21.binds fun _ _ _ _ _ _ us hl=>by
   revert us hl
   exact zct fun _ _=>rfl,
  F_14:=F_14,
  b_14:=F_14.binds fun _ _ _ _ _ _ us hl=>by
   revert us hl
   exact zea fun _ _ _=>rfl,
  F_50:=F_50,
  b_50:=F_50.binds fun _ _ _ _ _ _ us hl=>by
   revert us hl
   exact zea fun _ _ _=>rfl,
  F_22:=F_22,
  b_22:=F_22.binds fun _ _ _ _ _ _ us hl=>by
   revert us hl
   exact zct fun _ _=>rfl,
  F_15:=F_15,
  b_15:=F_15.binds fun _ _ _ _ _ _ us hl=>by
   revert us hl
   exact zea fun _ _ _=>rfl,
  F_51:=F_51,
  b_51:=F_51.binds fun _ _ _ _ _ _ us hl=>by
   revert us hl
   exact zea fun _ _ _=>rfl,
  F_23:=F_23,
  b_23:=F_23.binds fun _ _ _ _ _ _ us hl=>by
   revert us hl
   exact zct fun _ _=>rfl,
  F_16:=F_16,
  b_16:=F_16.binds fun _ _ _ _ _ _ us hl=>by
   revert us hl
   exact zea fun _ _ _=>rfl,
  g_In:=PySem.W.mg_of X G aC_In,
  cl_In:=⟨pg_In,hd_In,po_In,sa_In⟩,
  mk_In:=⟨mk_In,a_48,i_48,kc_In⟩,
  na_In_thing:=na_In_thing,
  m_20:=⟨a_20,i_20,k_20⟩,
  m_13:=⟨a_13,i_13,k_13⟩,
  g_Out:=PySem.W.mg_of X G aC_Out,
  cl_Out:=⟨pg_Out,hd_Out,po_Out,sa_Out⟩,
  mk_Out:=⟨mk_Out,a_49,i_49,kc_Out⟩,
  na_Out_thing:=na_Out_thing,
  m_21:=⟨a_21,i_21,k_21⟩,
  m_14:=⟨a_14,i_14,k_14⟩,
  g_Least:=PySem.W.mg_of X G aC_Least,
  cl_Least:=⟨pg_Least,hd_Least,po_Least,sa_Least⟩,
  mk_Least:=⟨mk_Least,a_50,i_50,kc_Least⟩,
  na_Least_bound:=na_Least_bound,
  na_Least_pieces:=na_Least_pieces,
  m_22:=⟨a_22,i_22,k_22⟩,
  m_15:=⟨a_15,i_15,k_15⟩,
  g_Most:=PySem.W.mg_of X G aC_Most,
  cl_Most:=⟨pg_Most,hd_Most,po_Most,sa_Most⟩,
  mk_Most:=⟨mk_Most,a_51,i_51,kc_Most⟩,
  na_Most_bound:=na_Most_bound,
  na_Most_pieces:=na_Most_pieces,
  m_23:=⟨a_23,i_23,k_23⟩,
  m_16:=⟨a_16,i_16,k_16⟩,
  kt_NoneType_bool:=kt_NoneType_bool,
  kt_bool_bool:=kt_bool_bool,
  kt_int_bool:=kt_int_bool,
  kt_str_bool:=kt_str_bool,
  kt_list_bool:=kt_list_bool,
  kt_tuple_bool:=kt_tuple_bool,
  kt_dict_bool:=kt_dict_bool,
  z_all:=PySem.W.mg_none_of X G z_all,
  z_any:=PySem.W.mg_none_of X G z_any,
  z_bool:=PySem.W.mg_none_of X G z_bool,
  z_enumerate:=PySem.W.mg_none_of X G z_enumerate,
  z_isinstance:=PySem.W.mg_none_of X G z_isinstance,
  z_len:=PySem.W.mg_none_of X G z_len,
  z_list:=PySem.W.mg_none_of X G z_list,
  z_max:=PySem.W.mg_none_of X G z_max,
  z_range:=PySem.W.mg_none_of X G z_range,
  z_set:=PySem.W.mg_none_of X G z_set,
  z_sum:=PySem.W.mg_none_of X G z_sum },rfl,rfl⟩
end
end N_k44
theorem PySem.W.Fast.te17190736422185022896 : True:=trivial
theorem PySem.W.Fast.te2928802552090946518 : True:=trivial
theorem PySem.W.Fast.te128660508388670281 : True:=trivial
theorem PySem.W.Fast.te9596695063991642604 : True:=trivial
theorem PySem.W.Fast.te9767662359513958220 : True:=trivial
theorem PySem.W.Fast.te7082713673533912326 : True:=trivial
theorem PySem.W.Fast.te13318513679278929023 : True:=trivial
theorem PySem.W.Fast.te13543771451860212077 : True:=trivial
theorem PySem.W.Fast.te5036605352005547727 : True:=trivial
theorem PySem.W.Fast.te10286447663735092935 : True:=trivial
open PySem PySem.W PyProof.Rows
set_option maxRecDepth 100000 in
set_option maxHeartbeats 0 in
theorem PySem.Challenge.cw_standstill_k44_total_sheets_holds : PySem.Challenge.rw_standstill_k44_total_sheets.Holds := by
 w_on; o_law; k_head; (case hw=>w_witness2)
 k_fill
 refine L2.walk_ofK (l:=PySem.Challenge.rw_standstill_k44_total_sheets) (n:=63) (k:=14) (x:="_law_script") (CX:=L2.CX0) (sp:=N_k44.sp_law) rfl (by decide) rfl ⟨rfl,by decide,by decide⟩ (fun w h Y=>PySem.W.kIn_of Y) ?F (fun _ _ a ns hl _ hS=>N_k44.sp_law_of hl hS) (fun _ _ _ _ z=>z)
 case F =>
  intro w mg fa h KX G hmg
  have TT : ∃ fd : FuncData,(∀ (s : Shared) (v : Value),BindsTo s fd ⟨[v],[]⟩ [("_law_script",v)]) /\ ∃ a : N_k44.Wa,∃ W : N_k44.Wd (L2.KOf KX) mg a,a.f_0 = fa /\ a.fd_0 = fd:=by
   dsimp only [L2.KOf]
   refine' N_k44.all_mk (l:=PySem.Challenge.rw_standstill_k44_total_sheets) (w:=w) KX G hmg ..
   all_goals first | k_is | kit_is | skip
  obtain ⟨fd,hb,a,W,e1,e2⟩:=TT
  subst e1 e2
  exact ⟨_,hb,fun base kb nb=>N_k44.law_ok W⟩
