import PyProof.Rows.All
import Wide.All
import OpenK.AllK
import Wide.FinOn
import Lean
import PyProof.EqAt
import PyProof.EqKinds
import PyProof.TupleCall
import PyProof.NeKinds
import PySem.Challenge.RW_standstill_k05_parts_told_and_named
set_option Elab.async false
set_option genSizeOf false
set_option linter.all false
set_option maxRecDepth 100000
namespace L2
open PySem PySem.Spec PyProof.Rows
noncomputable abbrev Key := Sum Int Str
noncomputable def keyIs : Key → Value → Bool
  | .inl k, v => Value.isInt k v
  | .inr x, v => Value.isStrOf x v
noncomputable def keyH (w : World) : Key → Int
  | .inl k => hashInt k
  | .inr x => hashStr w x
theorem keyIs_shape : ∀ {k : Key} {v : Value}, keyIs k v = true → (∃ i t, k = Sum.inl i ∧ v = Value.int i t) ∨ (∃ x t, k = Sum.inr x ∧ v = Value.str x t)
  | .inl i, v, h => by
    obtain ⟨t, e⟩ := Value.isInt_shape (k := i) (v := v) h
    exact .inl ⟨i, t, rfl, e⟩
  | .inr x, v, h => by
    obtain ⟨t, e⟩ := Value.isStrOf_shape (x := x) (v := v) h
    exact .inr ⟨x, t, rfl, e⟩
theorem key_ll (a b : Int) : decide ((Sum.inl a : Key) = Sum.inl b) = (a == b) := by
  by_cases e : a = b
  · subst e; simp
  · have h : ¬ (Sum.inl a : Key) = Sum.inl b := fun q => e (Sum.inl.inj q)
    rw [decide_eq_false h]
    exact (beq_eq_false_iff_ne.mpr e).symm
theorem key_rr (a b : Str) : decide ((Sum.inr a : Key) = Sum.inr b) = decide (a = b) := by
  by_cases e : a = b
  · subst e; simp
  · have h : ¬ (Sum.inr a : Key) = Sum.inr b := fun q => e (Sum.inr.inj q)
    rw [decide_eq_false h, decide_eq_false e]
theorem key_lr (a : Int) (b : Str) : decide ((Sum.inl a : Key) = Sum.inr b) = false := decide_eq_false (fun q => nomatch q)
theorem key_rl (a : Str) (b : Int) : decide ((Sum.inr a : Key) = Sum.inl b) = false := decide_eq_false (fun q => nomatch q)

noncomputable def mixKind (prog : Program) (w : World) : PySem.KeyKind prog w Key where
  is := keyIs
  hash := keyH w
  inj := fun v a b ha hb => by
    rcases keyIs_shape ha with ⟨i, t, rfl, rfl⟩ | ⟨x, t, rfl, rfl⟩
    · rcases keyIs_shape hb with ⟨j, u, rfl, e⟩ | ⟨y, u, rfl, e⟩
      · injection e with e1 _; rw [e1]
      · exact nomatch e
    · rcases keyIs_shape hb with ⟨j, u, rfl, e⟩ | ⟨y, u, rfl, e⟩
      · exact nomatch e
      · injection e with e1 _; rw [e1]
  byValue := fun k v h => by
    rcases keyIs_shape h with ⟨i, t, rfl, rfl⟩ | ⟨x, t, rfl, rfl⟩ <;> rfl
  pyHash := fun hv h => by
    rcases keyIs_shape hv with ⟨i, t, rfl, rfl⟩ | ⟨x, t, rfl, rfl⟩
    · exact wpAny_pyHash_int h
    · exact wpAny_pyHash_str h
  eqBool := fun hu hv h => by
    rcases keyIs_shape hu with ⟨i, t, rfl, rfl⟩ | ⟨x, t, rfl, rfl⟩
    · rcases keyIs_shape hv with ⟨j, u, rfl, rfl⟩ | ⟨y, u, rfl, rfl⟩
      · rw [key_ll] at h; exact wpAny_eqBool_int h
      · rw [key_lr] at h; exact SeqAt.EqAt.int_str i t y u _ _ _ _ h
    · rcases keyIs_shape hv with ⟨j, u, rfl, rfl⟩ | ⟨y, u, rfl, rfl⟩
      · rw [key_rl] at h; exact SeqAt.EqAt.str_int x t j u _ _ _ _ h
      · rw [key_rr] at h; exact wpAny_eqBool_str h
  «strs» := fun k x t v h => by
    rcases keyIs_shape h with ⟨i, u, rfl, e⟩ | ⟨y, u, rfl, e⟩
    · exact nomatch e
    · injection e with e1 _
      subst e1
      cases v <;> rfl

end L2
namespace L2
open PySem PySem.Spec PyProof.Rows
inductive V where
  | non | bl (b : Bool) | int (i : Int) | str (x : Str) | byt (b : Array UInt8) | flt (b : UInt64) | ref (a : Addr) | ty (n : String)
  deriving DecidableEq

noncomputable def RelV : V → Value → Prop
  | .non, u => u = Value.none
  | .bl b, u => u = Value.bool b
  | .int i, u => ∃ t, u = Value.int i t
  | .str x, u => ∃ t, u = Value.str x t
  | .byt b, u => ∃ t, u = Value.bytes b t
  | .flt b, u => ∃ t, u = Value.float b t
  | .ref a, u => u = Value.ref a
  | .ty n, u => u = Value.type n

noncomputable abbrev Vals : List V → List Value → Prop := Paired RelV
theorem Vals.length {xs : List V} {us : List Value} (r : Vals xs us) : xs.length = us.length := Paired.length r
theorem Vals.get : ∀ {xs : List V} {us : List Value} {i : Nat} {x : V}, Vals xs us → xs[i]? = some x → ∃ u, us[i]? = some u ∧ RelV x u
  | _, _, _, _, .nil, e => by simp at e
  | _, _, 0, _, .cons r _, e => by simp at e; subst e; exact ⟨_, rfl, r⟩
  | _, _, i + 1, x, .cons _ t, e => by
    obtain ⟨u, h1, h2⟩ := Vals.get (i := i) (x := x) t (by simpa using e)
    exact ⟨u, by simpa using h1, h2⟩
theorem Vals.set {x : V} {u : Value} (r : RelV x u) : ∀ {xs : List V} {us : List Value} (i : Nat), Vals xs us → Vals (xs.set i x) (us.set i u)
  | _, _, _, .nil => .nil
  | _, _, 0, .cons _ t => .cons r t
  | _, _, i + 1, .cons q t => .cons q (Vals.set r i t)
theorem Vals.append : ∀ {xs ys : List V} {us ws : List Value}, Vals xs us → Vals ys ws → Vals (xs ++ ys) (us ++ ws)
  | _, _, _, _, .nil, s => s
  | _, _, _, _, .cons r t, s => .cons r (Vals.append t s)
theorem Vals.take : ∀ {xs : List V} {us : List Value} (n : Nat), Vals xs us → Vals (xs.take n) (us.take n)
  | _, _, 0, _ => .nil
  | _, _, _ + 1, .nil => .nil
  | _, _, n + 1, .cons r t => .cons r (Vals.take n t)
theorem Vals.drop : ∀ {xs : List V} {us : List Value} (n : Nat), Vals xs us → Vals (xs.drop n) (us.drop n)
  | _, _, 0, r => r
  | _, _, _ + 1, .nil => .nil
  | _, _, n + 1, .cons _ t => Vals.drop n t
theorem Vals.none_of : ∀ {xs : List V} {us : List Value} {i : Nat}, Vals xs us → xs[i]? = none → us[i]? = none := fun {xs us i} r e => by
  have h1 := r.length
  have h2 : xs.length ≤ i := List.getElem?_eq_none_iff.mp e
  exact List.getElem?_eq_none_iff.mpr (by omega)

noncomputable def RelO : Option V → Option Value → Prop
  | some v, some u => RelV v u
  | none, none => True
  | _, _ => False
noncomputable def KV {κ : Type} : List (κ × V) → List (κ × Value) → Prop := Paired fun (p : κ × V) (q : κ × Value) => p.1 = q.1 ∧ RelV p.2 q.2


noncomputable def kV : Key → V
  | .inl i => .int i
  | .inr x => .str x


inductive HO where
  
  | lst (xs : List V)
  
  | tup (xs : List V)
  
  | dK (kvs : List (Key × V)) | dT (kvs : List (List Key × V))
  
  | set (S : Int → Bool) (n : Nat)
  
  | ins (C dx : Addr) (fs : List (Str × V))
  
  | own (x : Addr)
  
  | xd (fs : List (Str × V))
  
  | met (f x : Addr)
  
  | rng (lo hi : Int)
  
  | frz (o : Obj) (u : HO)
  
  | tbl (ps : Array Value)
  
  | ext (φ : Heap → Prop)

noncomputable abbrev Hp := Addr → Option HO
noncomputable def upd (H : Hp) (a : Addr) (o : HO) : Hp := fun b => if b = a then some o else H b
theorem upd_same {H : Hp} {a : Addr} {o : HO} : upd H a o a = some o := by unfold upd; rw [if_pos rfl]
theorem upd_ne {H : Hp} {a b : Addr} {o : HO} (h : b ≠ a) : upd H a o b = H b := by unfold upd; rw [if_neg h]
theorem ne_of {H : Hp} {a b : Addr} {o u : HO} (h : H a = some o) (h' : H b = some u) (d : o ≠ u) : a ≠ b := by
  intro e; subst e; rw [h] at h'; exact d (Option.some.inj h')
theorem ne_of_none {H : Hp} {a b : Addr} {o : HO} (h : H a = some o) (h' : H b = none) : a ≠ b := by
  intro e; subst e; rw [h] at h'; cases h'

section
variable (P : Program) (w : World)
noncomputable def ObjOk (H : Hp) (h : Heap) (a : Addr) : HO → Prop
  | .lst xs => xs.length ≤ sizeLine ∧ ∃ (its : List Value) (n : Nat), Vals xs its ∧ h.get? a = some { cls := .type "list", data := .seq its.toArray n }
  | .tup xs => xs.length ≤ sizeLine ∧ ∃ its : List Value, Vals xs its ∧ IsTup h a its.toArray
  | .dK kvs => kvs.length ≤ sizeLine ∧ (a == sysModules) = false ∧ ∃ vs, KV kvs vs ∧ h.DictOf (mixKind P w) a vs
  | .dT kvs => kvs.length ≤ sizeLine ∧ (a == sysModules) = false ∧ ∃ xs : List (List Key × Addr × Value),
      Paired (fun (p : List Key × V) (q : List Key × Addr × Value) => p.1 = q.1 ∧ H q.2.1 = some (.tup (p.1.map kV)) ∧ RelV p.2 q.2.2) kvs xs ∧
      ∃ o es ep, h.get? a = some o ∧ o.ExactDict ∧ o.data = .dict es ep ∧ es.toList = xs.map (entryOfKey (tupleKind (mixKind P w))) ∧ (xs.map (·.1)).Nodup
  | .set S n => h.SetOf (intKind P w) a S n
  | .ins C dx fs => H dx = some (.own a) ∧ fs.length ≤ 1000 ∧ dx ≠ a ∧ h.get? a = some (PySem.W.instObj C dx) ∧
      ∃ mA, h.Ns1 dx mA ∧ (∀ f, RelO (fs.lookup f) (mA f)) ∧ PySem.Within mA (fs.map (·.1))
  | .own _ => ∃ o, h.get? a = some o
  | .xd fs => ∃ mA, h.Ns1 a mA ∧ ∀ f, RelO (fs.lookup f) (mA f)
  | .rng lo hi => ∃ t u v, h.get? a = some { cls := .type "range", data := .fields #[.int lo t, .int hi u, .int 1 v] }
  | .frz o u => h.get? a = some o ∧ ObjOk H h a u
  | .tbl ps => h.get? a = some { cls := .none, data := .fields ps }
  | .met f x => h.get? a = some (PySem.W.methodObj (.ref f) (.ref x))
  | .ext φ => φ h ∧ (∃ o, h.get? a = some o) ∧ ∀ h1 h2 : Heap, φ h1 → (∀ o, h1.get? a = some o → h2.get? a = some o) → φ h2

noncomputable def HOk (H : Hp) (h : Heap) : Prop := ∀ a o, H a = some o → ObjOk P w H h a o
end
section
variable {P : Program} {w : World} {H H' : Hp} {h h' : Heap} {a : Addr} {o : HO}
theorem ObjOk.lt (x : ObjOk P w H h a o) : a < h.objs.size := by
  cases o with
  | lst xs => obtain ⟨_, _, _, _, e⟩ := x; exact Heap.lt_size e
  | tup xs => obtain ⟨_, _, _, p⟩ := x; exact p.lt
  | dK kvs => obtain ⟨_, _, _, _, o, _, _, e, _⟩ := x; exact Heap.lt_size e
  | dT kvs => obtain ⟨_, _, _, _, o, _, _, e, _⟩ := x; exact Heap.lt_size e
  | set S n => obtain ⟨o, _, _, _, e, _⟩ := x; exact Heap.lt_size e
  | ins C dx fs => obtain ⟨_, _, _, e, _⟩ := x; exact Heap.lt_size e
  | own y => obtain ⟨_, e⟩ := x; exact Heap.lt_size e
  | xd fs => obtain ⟨_, ⟨_, _, _, e, _⟩, _⟩ := x; exact Heap.lt_size e
  | rng lo hi => obtain ⟨_, _, _, e⟩ := x; exact Heap.lt_size e
  | frz ob u => obtain ⟨e, _⟩ := x; exact Heap.lt_size e
  | tbl ps => exact Heap.lt_size (show h.get? a = some _ from x)
  | met f y => exact Heap.lt_size (show h.get? a = some _ from x)
  | ext φ => obtain ⟨_, ⟨_, e⟩, _⟩ := x; exact Heap.lt_size e
theorem Paired.mapP {α β : Type} {F G : α → β → Prop} : ∀ {l₁ : List α} {l₂ : List β}, Paired F l₁ l₂ → (∀ a b, F a b → G a b) → Paired G l₁ l₂
  | _, _, .nil, _ => .nil
  | _, _, .cons r t, f => .cons (f _ _ r) (Paired.mapP t f)
theorem ObjOk.stay (x : ObjOk P w H h a o) (k : ∀ b u, (b = a ∨ H b = some (.own a)) → h.get? b = some u → h'.get? b = some u)
    (ho : ∀ b, H b = some (.own a) → H' b = some (.own a)) (ht : ∀ b xs, H b = some (.tup xs) → H' b = some (.tup xs)) : ObjOk P w H' h' a o := by
  induction o with
  | lst xs => obtain ⟨z, its, n, r, e⟩ := x; exact ⟨z, its, n, r, k _ _ (.inl rfl) e⟩
  | tup xs => obtain ⟨z, its, r, ob, e, c⟩ := x; exact ⟨z, its, r, ob, k _ _ (.inl rfl) e, c⟩
  | dK kvs => obtain ⟨z, y, vs, r, ob, es, ep, e, c⟩ := x; exact ⟨z, y, vs, r, ob, es, ep, k _ _ (.inl rfl) e, c⟩
  | dT kvs =>
    obtain ⟨z, y, xs, r, ob, es, ep, e, c⟩ := x
    exact ⟨z, y, xs, Paired.mapP r fun p q z => ⟨z.1, ht _ _ z.2.1, z.2.2⟩, ob, es, ep, k _ _ (.inl rfl) e, c⟩
  | set S n => obtain ⟨ob, es, ep, t, e, c⟩ := x; exact ⟨ob, es, ep, t, k _ _ (.inl rfl) e, c⟩
  | ins C dx fs =>
    obtain ⟨d, z, ne, e, mA, ⟨od, es, ep, e2, c⟩, r⟩ := x
    exact ⟨ho _ d, z, ne, k _ _ (.inl rfl) e, mA, ⟨od, es, ep, k _ _ (.inr d) e2, c⟩, r⟩
  | own y => obtain ⟨ob, e⟩ := x; exact ⟨ob, k _ _ (.inl rfl) e⟩
  | xd fs => obtain ⟨mA, ⟨od, es, ep, e, c⟩, r⟩ := x; exact ⟨mA, ⟨od, es, ep, k _ _ (.inl rfl) e, c⟩, r⟩
  | rng lo hi => obtain ⟨t, u, v, e⟩ := x; exact ⟨t, u, v, k _ _ (.inl rfl) e⟩
  | frz ob u ih => obtain ⟨e, q⟩ := x; exact ⟨k _ _ (.inl rfl) e, ih q⟩
  | tbl ps =>
    have e : h.get? a = some { cls := .none, data := .fields ps } := x
    show h'.get? a = some { cls := .none, data := .fields ps }
    exact k a _ (.inl rfl) e
  | met f y =>
    have e : h.get? a = some (PySem.W.methodObj (.ref f) (.ref y)) := x
    show h'.get? a = some (PySem.W.methodObj (.ref f) (.ref y))
    exact k a _ (.inl rfl) e
  | ext φ => obtain ⟨p, ⟨o, e⟩, st⟩ := x; exact ⟨st _ _ p fun o q => k _ _ (.inl rfl) q, ⟨o, k _ _ (.inl rfl) e⟩, st⟩
theorem HOk.lt (x : HOk P w H h) (e : H a = some o) : a < h.objs.size := (x a o e).lt
theorem HOk.fresh (x : HOk P w H h) (e : h.objs.size ≤ a) : H a = none := by
  cases q : H a with
  | none => rfl
  | some u => exact absurd (Nat.lt_of_lt_of_le (x.lt q) e) (Nat.lt_irrefl _)

theorem HOk.kept (x : HOk P w H h) (k : ∀ b u, h.get? b = some u → h'.get? b = some u) : HOk P w H h' := fun a o e =>
  (x a o e).stay (fun b u _ q => k b u q) (fun _ q => q) fun _ _ q => q

theorem HOk.laid (x : HOk P w H h) (k : ∀ b u, h.get? b = some u → h'.get? b = some u) (hp : h.objs.size ≤ a) (new : ObjOk P w (upd H a o) h' a o) : HOk P w (upd H a o) h' := fun b u e => by
  have hn := x.fresh hp
  by_cases hb : b = a
  · subst hb; rw [upd_same] at e; cases e; exact new
  · rw [upd_ne hb] at e
    exact (x b u e).stay (fun c v _ q => k c v q) (fun c q => by rw [upd_ne (ne_of_none q hn)]; exact q) fun c xs q => by rw [upd_ne (ne_of_none q hn)]; exact q
end
noncomputable def Rd (H : Hp) (a : Addr) (u : HO) : Prop := H a = some u ∨ ∃ o, H a = some (.frz o u)
theorem Rd.of {H : Hp} {a : Addr} {u : HO} (h : H a = some u) : Rd H a u := .inl h
theorem Rd.ok {P : Program} {w : World} {H : Hp} {h : Heap} {a : Addr} {u : HO} (r : Rd H a u) (x : HOk P w H h) : ObjOk P w H h a u := by
  rcases r with r | ⟨o, r⟩
  · exact x a u r
  · obtain ⟨_, q⟩ := x a _ r
    exact q

noncomputable def Mut : Option HO → Prop
  | some (.lst _) => True
  | some (.dK _) => True
  | some (.dT _) => True
  | some (.set _ _) => True
  | some (.ins _ _ _) => True
  | some (.ext _) => True
  | _ => False
section
variable {P : Program} {w : World} {H : Hp} {h h' : Heap} {x e : Addr} {o' : HO}
theorem HOk.write (ok : HOk P w H h) (mu : Mut (H x)) (he : e = x ∨ H e = some (.own x)) (k : ∀ b u, b ≠ e → h.get? b = some u → h'.get? b = some u) (heo : ∃ u, h'.get? e = some u)
    (new : ObjOk P w (upd H x o') h' x o') : HOk P w (upd H x o') h' := fun b u q => by
  have nown : ∀ c y, H c = some (.own y) → c ≠ x := fun c y r z => by subst z; rw [r] at mu; exact mu
  have ntup : ∀ c xs, H c = some (.tup xs) → c ≠ x := fun c xs r z => by subst z; rw [r] at mu; exact mu
  by_cases hb : b = x
  · subst hb; rw [upd_same] at q; cases q; exact new
  · rw [upd_ne hb] at q
    by_cases hbe : b = e
    · have q' : H b = some (.own x) := by
        rcases he with z | z
        · exact absurd (hbe.trans z) hb
        · rw [hbe]; exact z
      rw [q] at q'; cases q'
      obtain ⟨v, hv⟩ := heo
      exact ⟨v, by rw [hbe]; exact hv⟩
    · refine (ok b u q).stay (fun c v hc r => k c v ?_ r) (fun c r => by rw [upd_ne (nown c b r)]; exact r) fun c xs r => by rw [upd_ne (ntup c xs r)]; exact r
      rcases hc with rfl | hc
      · exact hbe
      · rintro rfl
        rcases he with z | z
        · exact nown c b hc z
        · rw [hc] at z; cases z; exact hb rfl
end
structure Un (fs ex : List Addr) (H H' : Hp) (h h' : Heap) : Prop where
  keep : ∀ b o, h.get? b = some o → H b = none → b ∉ fs → b ∉ ex → h'.get? b = some o
  slot : ∀ b o, h.get? b = some o → H b = none → b ∈ fs → b ∉ ex → ∃ sl, h'.get? b = some { o with slots := sl }
  free : ∀ b o, h.get? b = some o → H b = none → b ∉ ex → H' b = none
  there : ∀ b o, h.get? b = some o → b ∉ ex → ∃ o', h'.get? b = some o'
  tups : ∀ b xs, H b = some (.tup xs) → H' b = some (.tup xs)
  frzs : ∀ b o u, H b = some (.frz o u) → H' b = some (.frz o u)
  tbls : ∀ b ps, H b = some (.tbl ps) → ∃ more, H' b = some (.tbl (ps ++ more))
section
variable {fs fs' ex ex' : List Addr} {H H1 H2 : Hp} {h h1 h2 h' : Heap} {a x e : Addr} {o : HO}
theorem Un.any (u : Un fs ex H H1 h h1) {b : Addr} {ob : Obj} (q : h.get? b = some ob) (n : H b = none) (hx : b ∉ ex) : ∃ sl, h1.get? b = some { ob with slots := sl } := by
  by_cases hb : b ∈ fs
  · exact u.slot b ob q n hb hx
  · exact ⟨ob.slots, u.keep b ob q n hb hx⟩
theorem Un.trans (a : Un fs ex H H1 h h1) (b : Un fs ex H1 H2 h1 h2) : Un fs ex H H2 h h2 where
  keep := fun c ob q n hc hx => b.keep c ob (a.keep c ob q n hc hx) (a.free c ob q n hx) hc hx
  slot := fun c ob q n hc hx => by
    obtain ⟨sl, e1⟩ := a.slot c ob q n hc hx
    obtain ⟨sl', e2⟩ := b.slot c _ e1 (a.free c ob q n hx) hc hx
    exact ⟨sl', e2⟩
  free := fun c ob q n hx => by
    obtain ⟨o', e1⟩ := a.there c ob q hx
    exact b.free c o' e1 (a.free c ob q n hx) hx
  there := fun c ob q hx => by
    obtain ⟨o', e1⟩ := a.there c ob q hx
    exact b.there c o' e1 hx
  tups := fun c xs q => b.tups c xs (a.tups c xs q)
  frzs := fun c ob xs q => b.frzs c ob xs (a.frzs c ob xs q)
  tbls := fun c ps q => by
    obtain ⟨m1, e1⟩ := a.tbls c ps q
    obtain ⟨m2, e2⟩ := b.tbls c _ e1
    exact ⟨m1 ++ m2, by rw [e2, Array.append_assoc]⟩
theorem Un.kept (k : ∀ b u, h.get? b = some u → h'.get? b = some u) : Un fs ex H H h h' :=
  ⟨fun b ob q _ _ _ => k b ob q, fun b ob q _ _ _ => ⟨ob.slots, k b ob q⟩, fun _ _ _ n _ => n, fun b ob q _ => ⟨ob, k b ob q⟩, fun _ _ q => q, fun _ _ _ q => q, fun _ ps q => ⟨#[], by rw [q]; simp⟩⟩
theorem Un.refl : Un fs ex H H h h := Un.kept fun _ _ q => q
theorem Un.laid (k : ∀ b u, h.get? b = some u → h'.get? b = some u) (hp : h.objs.size ≤ a) (hn : H a = none) : Un fs ex H (upd H a o) h h' where
  keep := fun b u q _ _ _ => k b u q
  slot := fun b u q _ _ _ => ⟨u.slots, k b u q⟩
  free := fun b u q n _ => by rw [upd_ne (Nat.ne_of_lt (Nat.lt_of_lt_of_le (Heap.lt_size q) hp))]; exact n
  there := fun b u q _ => ⟨u, k b u q⟩
  tups := fun b xs q => by rw [upd_ne (ne_of_none q hn)]; exact q
  frzs := fun b u xs q => by rw [upd_ne (ne_of_none q hn)]; exact q
  tbls := fun b ps q => ⟨#[], by rw [upd_ne (ne_of_none q hn), q]; simp⟩
theorem Un.write (mu : Mut (H x)) (he : e = x ∨ H e = some (.own x)) (k : ∀ b u, b ≠ e → h.get? b = some u → h'.get? b = some u) (heo : ∃ u, h'.get? e = some u) : Un fs ex H (upd H x o) h h' := by
  have hx : ∀ b, H b = none → b ≠ x := fun b n z => by subst z; rw [n] at mu; exact mu
  have hb : ∀ b, H b = none → b ≠ e := fun b n z => by
    subst z
    rcases he with r | r
    · exact hx b n r
    · rw [n] at r; cases r
  have hm : ∀ b u, H b = some u → ¬ Mut (some u) → b ≠ x := fun b u q nm z => by subst z; rw [q] at mu; exact nm mu
  refine ⟨fun b u q n _ _ => k b u (hb b n) q, fun b u q n _ _ => ⟨u.slots, k b u (hb b n) q⟩, fun b u q n _ => by rw [upd_ne (hx b n)]; exact n, fun b u q _ => ?_,
    fun b xs q => by rw [upd_ne (hm b _ q fun z => z)]; exact q, fun b u xs q => by rw [upd_ne (hm b _ q fun z => z)]; exact q, fun b ps q => ⟨#[], by rw [upd_ne (hm b _ q fun z => z), q]; simp⟩⟩
  by_cases hbe : b = e
  · subst hbe; exact heo
  · exact ⟨u, k b u hbe q⟩
theorem Un.mono (u : Un fs ex H H1 h h1) (hs : ∀ b ∈ fs, b ∈ fs') (hx : ∀ b ∈ ex, b ∈ ex') : Un fs' ex' H H1 h h1 :=
  ⟨fun b ob q n hb he => u.keep b ob q n (fun z => hb (hs b z)) fun z => he (hx b z), fun _ _ q n _ he => u.any q n fun z => he (hx _ z), fun b ob q n he => u.free b ob q n fun z => he (hx b z), fun b ob q he => u.there b ob q fun z => he (hx b z), u.tups, u.frzs, u.tbls⟩
end
noncomputable def trk (h : Heap) (H : Hp) : List Addr := (List.range h.objs.size).filter fun a => (H a).isSome
noncomputable def hidT (h : Heap) (H : Hp) : Heap := PySem.W.hideAll h (trk h H)
theorem hidT_size (h : Heap) (H : Hp) : (hidT h H).objs.size = h.objs.size := PySem.W.hideAll_size _ _
theorem hidT_get {h : Heap} {H : Hp} {b : Addr} {o : Obj} (e : h.get? b = some o) (n : H b = none) : (hidT h H).get? b = some o :=
  PySem.W.hideAll_get _ e fun hm => by
    have q : (H b).isSome = true := (List.mem_filter.mp hm).2
    rw [n] at q; simp at q
theorem of_hidT {h : Heap} {H : Hp} {b : Addr} {o : Obj} (e : (hidT h H).get? b = some o) : h.get? b = some o ∧ H b = none := by
  have e' : h.get? b = some o := PySem.W.of_hideAll (trk h H) e
  refine ⟨e', ?_⟩
  cases q : H b with
  | none => rfl
  | some x =>
    have hm : b ∈ trk h H := List.mem_filter.mpr ⟨List.mem_range.mpr (Heap.lt_size e'), by simp [q]⟩
    have z : (hidT h H).get? b = none := PySem.W.hideAll_none (trk h H) hm
    rw [z] at e; cases e


noncomputable def allNews (g h : Heap) (L : Addr) : List (Addr × Obj) := (List.range h.objs.size).filterMap fun a => if a = L ∨ (g.get? a).isSome = true then none else (h.get? a).map fun o => (a, o)
noncomputable def rest (g h : Heap) (L d : Addr) : List (Addr × Obj) := (allNews g h L).filter fun p => decide (p.1 ≠ d)
end L2
namespace L2
open PySem PySem.Spec PyProof.Rows
structure Mod (K : PySem.W.Frag) (mg : Str → Option Value) (base : Heap) : Prop where
  kin : K.In base
  glob : base.Ns mainGlobals mg
  blt : ∃ mb, base.Ns builtinsNs mb ∧ ∀ x : Str, x ≠ "__name__" → mb x = bootBuiltins x
  nolimit : base.NoLimit


set_option genInjectivity false in
structure Cx where
  prog : Program
  w : World
  K : PySem.W.Frag
  mg : Str → Option Value
  base : Heap
  A : Around
  N : List Str
  s₀ : Shared
  H₀ : Hp
  env : Env
  outer : List Env
  stack : List Env
  ex : List Addr
  fn : Str → Bool
  calm : Bool
  pn : List (Addr × Obj)
  xe : Value → Shared → Prop

noncomputable def frs (l : List Env) : List Addr := l.filterMap (·.frame)
noncomputable abbrev Cx.fs (X : Cx) : List Addr := frs X.outer

noncomputable def Vis (sc : Scope) (x : Str) : Prop := sc.names.lookup x = some .local ∨ sc.names.lookup x = some .cell ∨ sc.names.lookup x = some .free
noncomputable def Loc (sc : Scope) (x : Str) : Prop := sc.names.lookup x = some .local ∨ sc.names.lookup x = some .cell
noncomputable def Look (env : Env) (h : Heap) (m : Str → Option Value) (x : Str) (u : Value) : Prop :=
  (env.kindOf x = some .local ∧ m x = some u) ∨ ((env.kindOf x = some .cell ∨ env.kindOf x = some .free) ∧ ∃ c, env.cells.lookup x = some c ∧ h.IsCell c (some u))

structure Cx.Ok (X : Cx) : Prop where
  mod : Mod X.K X.mg X.base
  kind : X.env.scope.kind = .function
  glob : X.env.globals = mainGlobals
  blt : X.env.builtins = builtinsNs
  above : X.s₀.heap.objs.size ≤ X.env.locals
  inj : ∀ x y c, X.env.cells.lookup x = some c → X.env.cells.lookup y = some c → x = y
  has : ∀ x, (X.env.kindOf x = some .cell ∨ X.env.kindOf x = some .free) → ∃ c, X.env.cells.lookup x = some c
  cab : ∀ x c, X.fn x = true → X.env.cells.lookup x = some c → X.s₀.heap.objs.size ≤ c
  hd : X.calm = true → X.A.handled = none
  frames : X.A.frames = some X.stack
  stk : X.stack = X.outer ∨ (X.stack = X.env :: X.outer ∧ X.env.frame = some X.env.locals)
  exf : ∀ b ∈ X.ex, b ≠ X.env.locals ∧ ∀ x c, X.env.cells.lookup x = some c → c ≠ b
  bs : ∀ b o, X.base.get? b = some o → X.s₀.heap.get? b = some o ∧ X.H₀ b = none
  bsz : X.base.objs.size ≤ X.s₀.heap.objs.size
  noex : ∀ b o, X.base.get? b = some o → b ∉ X.ex
  exfs : ∀ b ∈ X.ex, b ∉ X.fs
  funs : X.s₀.heap.FunFrames X.base X.outer
  frf : ∀ b ∈ X.fs, X.H₀ b = none

structure Inv (X : Cx) (pins : List (Addr × Obj)) (σ : List (Option V)) (H : Hp) (s : Shared) : Prop where
  ok : X.Ok
  os : s.os = X.s₀.os
  bare : AllBare s.gens
  base : Un X.fs X.ex X.H₀ H X.s₀.heap s.heap
  loc : ∃ m, s.heap.Ns X.env.locals m ∧ ∀ (i : Nat) (x : Str) (v : V), X.N[i]? = some x → σ[i]? = some (some v) → Vis X.env.scope x → ∃ u, RelV v u ∧ Look X.env s.heap m x u
  cell : ∀ x c, X.env.cells.lookup x = some c → ∃ v, s.heap.IsCell c v
  free : H X.env.locals = none
  freeC : ∀ x c, X.env.cells.lookup x = some c → H c = none
  pin : ∀ p ∈ X.pn ++ pins, s.heap.get? p.1 = some p.2 ∧ H p.1 = none ∧ p.1 ≠ X.env.locals ∧ p.1 ∉ X.fs ∧ ∀ v, p.2.data ≠ .cell v
  hok : HOk X.prog X.w H s.heap
  len : σ.length = X.N.length

section
variable {X : Cx} {pins : List (Addr × Obj)} {σ : List (Option V)} {H H' : Hp} {s : Shared} {h' : Heap}
theorem Cx.Ok.nofr (ok : X.Ok) {b : Addr} {o : Obj} (e : X.base.get? b = some o) : b ∉ X.fs := fun hb => by
  have := (ok.funs.mem hb).1
  rw [e] at this; cases this
theorem Inv.bs (I : Inv X pins σ H s) : ∀ b o, X.base.get? b = some o → s.heap.get? b = some o ∧ H b = none := fun b o e =>
  ⟨I.base.keep b o (I.ok.bs b o e).1 (I.ok.bs b o e).2 (I.ok.nofr e) (I.ok.noex b o e), I.base.free b o (I.ok.bs b o e).1 (I.ok.bs b o e).2 (I.ok.noex b o e)⟩
theorem Inv.bk (I : Inv X pins σ H s) : ∀ b o, X.base.get? b = some o → s.heap.get? b = some o := fun b o e => (I.bs b o e).1
theorem Inv.mod (I : Inv X pins σ H s) : Mod X.K X.mg X.base := I.ok.mod
theorem Inv.kIn (I : Inv X pins σ H s) : X.K.In s.heap := I.ok.mod.kin.keeps I.bk
theorem Inv.nolimit (I : Inv X pins σ H s) : s.heap.NoLimit := I.ok.mod.nolimit.keeps I.bk

theorem Inv.fr (I : Inv X pins σ H s) : ∃ m, Fr X.base X.env.locals s.heap m :=
  let ⟨m, hn, _⟩ := I.loc
  ⟨m, hn, I.bk, Nat.le_trans I.ok.bsz I.ok.above⟩
theorem Inv.lt (I : Inv X pins σ H s) : X.env.locals < s.heap.objs.size := let ⟨_, hn, _⟩ := I.loc; hn.lt
theorem Inv.sz (I : Inv X pins σ H s) : X.s₀.heap.objs.size ≤ s.heap.objs.size := Nat.le_trans I.ok.above (Nat.le_of_lt I.lt)
theorem Inv.nofs (I : Inv X pins σ H s) {a : Addr} (h : s.heap.objs.size ≤ a) : a ∉ X.fs := fun hb => by
  obtain ⟨_, o, ho, _⟩ := I.ok.funs.mem hb
  exact absurd (Nat.lt_of_lt_of_le (Heap.lt_size ho) (Nat.le_trans I.sz h)) (Nat.lt_irrefl _)
theorem Inv.cne (I : Inv X pins σ H s) : ∀ x c, X.env.cells.lookup x = some c → c ≠ X.env.locals := fun x c e z => by
  obtain ⟨v, o, ho, hd⟩ := I.cell x c e
  obtain ⟨m, ⟨o', es, ep, ho', hd', _⟩, _⟩ := I.loc
  rw [z, ho'] at ho; cases ho; rw [hd'] at hd; cases hd
theorem Inv.funs (I : Inv X pins σ H s) : s.heap.FunFrames X.base X.outer := by
  have all : ∀ (l : List Env), (∀ b ∈ frs l, b ∈ X.fs) → X.s₀.heap.FunFrames X.base l → s.heap.FunFrames X.base l := by
    intro l
    induction l with
    | nil => intro _ _; trivial
    | cons env r ih =>
      intro hs hl
      obtain ⟨hk, ⟨L, o, hf, hn, ho, hd⟩, hr⟩ := hl
      have hL : L ∈ X.fs := hs L (by unfold frs; rw [List.filterMap_cons, hf]; exact List.mem_cons_self)
      obtain ⟨sl, e⟩ := I.base.slot L o ho (I.ok.frf L hL) hL fun z => I.ok.exfs L z hL
      exact ⟨hk, ⟨L, _, hf, hn, e, hd⟩, ih (fun b hb => hs b (by unfold frs; rw [List.filterMap_cons, hf]; exact List.mem_cons_of_mem _ hb)) hr⟩
  exact all X.outer (fun _ hb => hb) I.ok.funs


theorem Inv.stack (I : Inv X pins σ H s) : s.heap.FunFrames X.base X.stack := by
  rcases I.ok.stk with e | ⟨e, hf⟩
  · rw [e]; exact I.funs
  · rw [e]
    obtain ⟨m, hn, _⟩ := I.loc
    refine .cons (by rw [I.ok.kind]; decide) hf hn ?_ I.funs
    exact Heap.get?_none_of_le (Nat.le_trans I.ok.bsz I.ok.above)
theorem Inv.stkSub (I : Inv X pins σ H s) : ∀ b ∈ frs X.stack, b ∈ X.env.locals :: X.fs := fun b hb => by
  rcases I.ok.stk with e | ⟨e, hf⟩
  · rw [e] at hb; exact List.mem_cons_of_mem _ hb
  · rw [e] at hb
    unfold frs at hb
    rw [List.filterMap_cons, hf] at hb
    exact hb
theorem Inv.stkFree (I : Inv X pins σ H s) : ∀ b ∈ frs X.stack, H b = none := fun b hb => by
  rcases List.mem_cons.mp (I.stkSub b hb) with e | hb
  · rw [e]; exact I.free
  · obtain ⟨_, o, ho, _⟩ := I.ok.funs.mem hb
    exact I.base.free b o ho (I.ok.frf b hb) fun z => I.ok.exfs b z hb


theorem Inv.step {g' : Array GenState} {t' : Nat} {d' : Drawn} {ch : List Addr} (I : Inv X pins σ H s)
    (hch : ∀ b ∈ ch, (b ∈ X.ex ∨ X.s₀.heap.objs.size ≤ b) ∧ b ≠ X.env.locals ∧ (∀ x c, X.env.cells.lookup x = some c → c ≠ b) ∧ ∀ p ∈ X.pn ++ pins, p.1 ≠ b)
    (keep : ∀ b o, b ≠ X.env.locals → b ∉ X.fs → b ∉ ch → s.heap.get? b = some o → H b = none → h'.get? b = some o)
    (slot : ∀ b o, b ≠ X.env.locals → b ∈ X.fs → b ∉ ch → s.heap.get? b = some o → H b = none → ∃ sl, h'.get? b = some { o with slots := sl }) (free : ∀ b o, b ∉ ch → s.heap.get? b = some o → H b = none → H' b = none)
    (there : ∀ b o, b ∉ ch → s.heap.get? b = some o → ∃ o', h'.get? b = some o')
    (tups : ∀ b xs, H b = some (.tup xs) → H' b = some (.tup xs)) (frzs : ∀ b o u, H b = some (.frz o u) → H' b = some (.frz o u)) (tbls : ∀ b ps, H b = some (.tbl ps) → ∃ more, H' b = some (.tbl (ps ++ more)))
    (ns : ∀ m, s.heap.Ns X.env.locals m → h'.Ns X.env.locals m) (hok : HOk X.prog X.w H' h') (hg : AllBare g') :
    Inv X pins σ H' { s with heap := h', gens := g', drawn := d', toks := t' } := by
  have neL : ∀ b o, X.s₀.heap.get? b = some o → b ≠ X.env.locals := fun b o e => Nat.ne_of_lt (Nat.lt_of_lt_of_le (Heap.lt_size e) I.ok.above)
  have neC : ∀ b o, X.s₀.heap.get? b = some o → b ∉ X.ex → b ∉ ch := fun b o e hx hb => by
    rcases (hch b hb).1 with z | z
    · exact hx z
    · exact absurd (Nat.lt_of_lt_of_le (Heap.lt_size e) z) (Nat.lt_irrefl _)
  have cellK : ∀ x c, X.env.cells.lookup x = some c → ∀ v, s.heap.IsCell c v → h'.IsCell c v := fun x c e v ⟨o, ho, hd⟩ => by
    have nch : c ∉ ch := fun z => (hch c z).2.2.1 x c e rfl
    by_cases hc : c ∈ X.fs
    · obtain ⟨sl, q⟩ := slot c o (I.cne x c e) hc nch ho (I.freeC x c e)
      exact ⟨_, q, hd⟩
    · exact ⟨o, keep c o (I.cne x c e) hc nch ho (I.freeC x c e), hd⟩
  refine ⟨I.ok, I.os, hg, ⟨fun b o e n hb hx => ?_, fun b o e n hb hx => ?_, fun b o e n hx => ?_, fun b o e hx => ?_, fun b xs e => tups b xs (I.base.tups b xs e), fun b o xs e => frzs b o xs (I.base.frzs b o xs e), fun b ps e => ?_⟩, ?_, fun x c e => ?_, ?_, fun x c e => ?_, fun p hp => ?_, hok, I.len⟩
  · exact keep b o (neL b o e) hb (neC b o e hx) (I.base.keep b o e n hb hx) (I.base.free b o e n hx)
  · obtain ⟨sl, e1⟩ := I.base.slot b o e n hb hx
    obtain ⟨sl', e2⟩ := slot b _ (neL b o e) hb (neC b o e hx) e1 (I.base.free b o e n hx)
    exact ⟨sl', e2⟩
  · obtain ⟨o', e1⟩ := I.base.there b o e hx
    exact free b o' (neC b o e hx) e1 (I.base.free b o e n hx)
  · obtain ⟨o', e1⟩ := I.base.there b o e hx
    exact there b o' (neC b o e hx) e1
  · obtain ⟨m1, e1⟩ := I.base.tbls b ps e
    obtain ⟨m2, e2⟩ := tbls b _ e1
    exact ⟨m1 ++ m2, by rw [e2, Array.append_assoc]⟩
  · obtain ⟨m, hn, hl⟩ := I.loc
    refine ⟨m, ns m hn, fun i x v e1 e2 e3 => ?_⟩
    obtain ⟨u, r, l⟩ := hl i x v e1 e2 e3
    refine ⟨u, r, ?_⟩
    rcases l with l | ⟨k, c, e, z⟩
    · exact .inl l
    · exact .inr ⟨k, c, e, cellK x c e _ z⟩
  · obtain ⟨v, z⟩ := I.cell x c e
    exact ⟨v, cellK x c e v z⟩
  · obtain ⟨m, ⟨o, _, _, ho, _⟩, _⟩ := I.loc
    exact free _ o (fun z => (hch _ z).2.1 rfl) ho I.free
  · obtain ⟨v, o, ho, hd⟩ := I.cell x c e
    exact free c o (fun z => (hch c z).2.2.1 x c e rfl) ho (I.freeC x c e)
  · obtain ⟨e, n, ne, nf, d⟩ := I.pin p hp
    have nch : p.1 ∉ ch := fun z => (hch p.1 z).2.2.2 p hp rfl
    exact ⟨keep p.1 p.2 ne nf nch e n, free p.1 p.2 nch e n, ne, nf, d⟩

theorem Inv.un {t' : Nat} (I : Inv X pins σ H s) (u : Un X.fs [] H H' s.heap h') (hok : HOk X.prog X.w H' h') : Inv X pins σ H' { s with heap := h', toks := t' } := by
  obtain ⟨m, ⟨o, es, ep, ho, r⟩, _⟩ := id I.loc
  obtain ⟨sl, hL⟩ := u.any ho I.free (by simp)
  exact I.step (g' := s.gens) (d' := s.drawn) (ch := []) (fun _ z => nomatch z) (fun b o _ hb _ e n => u.keep b o e n hb (by simp)) (fun b o _ hb _ e n => u.slot b o e n hb (by simp)) (fun b o _ e n => u.free b o e n (by simp)) (fun b o _ e => u.there b o e (by simp)) u.tups u.frzs u.tbls (fun m' hm => by
    obtain ⟨o', es', ep', ho', r'⟩ := hm
    rw [ho] at ho'; cases ho'
    exact ⟨_, es', ep', hL, r'⟩) hok I.bare

theorem Inv.call {g' : Array GenState} {t' : Nat} {d' : Drawn} {ch : List Addr} (I : Inv X pins σ H s) (u : Un (frs X.stack) ch H H' s.heap h') (hok : HOk X.prog X.w H' h') (hg : AllBare g')
    (hch : ∀ b ∈ ch, (b ∈ X.ex ∨ X.s₀.heap.objs.size ≤ b) ∧ b ≠ X.env.locals ∧ (∀ x c, X.env.cells.lookup x = some c → c ≠ b) ∧ ∀ p ∈ X.pn ++ pins, p.1 ≠ b) :
    Inv X pins σ H' { s with heap := h', gens := g', drawn := d', toks := t' } := by
  obtain ⟨m, ⟨o, es, ep, ho, r⟩, _⟩ := id I.loc
  obtain ⟨sl, hL⟩ := u.any ho I.free fun z => (hch _ z).2.1 rfl
  exact I.step (ch := ch) hch (fun b o hL hb hc e n => u.keep b o e n (fun z => (List.mem_cons.mp (I.stkSub b z)).elim hL hb) hc) (fun b o _ _ hc e n => u.any e n hc) (fun b o hc e n => u.free b o e n hc) (fun b o hc e => u.there b o e hc) u.tups u.frzs u.tbls (fun m' hm => by
    obtain ⟨o', es', ep', ho', r'⟩ := hm
    rw [ho] at ho'; cases ho'
    exact ⟨_, es', ep', hL, r'⟩) hok hg

theorem Inv.turned {t' : Nat} {it : Addr} (I : Inv X pins σ H s) (k : ∀ b o, b ≠ it → s.heap.get? b = some o → h'.get? b = some o) (hn : H it = none) (hL : it ≠ X.env.locals)
    (h1 : it ∈ X.ex ∨ X.s₀.heap.objs.size ≤ it) (h2 : ∀ x c, X.env.cells.lookup x = some c → c ≠ it) (h3 : ∀ p ∈ X.pn ++ pins, p.1 ≠ it) : Inv X pins σ H { s with heap := h', toks := t' } := by
  have nit : ∀ b u, H b = some u → b ≠ it := fun b u e z => by rw [z, hn] at e; cases e
  refine I.step (g' := s.gens) (d' := s.drawn) (ch := [it]) (fun b hb => ?_) (fun b o _ _ hc e _ => k b o (fun z => hc (by simp [z])) e) (fun b o _ _ hc e _ => ⟨o.slots, k b o (fun z => hc (by simp [z])) e⟩) (fun _ _ _ _ n => n)
    (fun b o hc e => ⟨o, k b o (fun z => hc (by simp [z])) e⟩) (fun _ _ e => e) (fun _ _ _ e => e) (fun b ps e => ⟨#[], by rw [e]; simp⟩) (fun m hm => ?_) (fun b u e => ?_) I.bare
  · have e : b = it := by simpa using hb
    subst e
    exact ⟨h1, hL, h2, h3⟩
  · obtain ⟨o, es, ep, ho, r⟩ := hm
    exact ⟨o, es, ep, k _ o (Ne.symm hL) ho, r⟩
  · refine (I.hok b u e).stay (fun c v hc q => k c v ?_ q) (fun _ q => q) fun _ _ q => q
    rcases hc with z | z
    · rw [z]; exact nit b u e
    · exact nit c _ z
theorem Inv.tok (I : Inv X pins σ H s) (t : Nat) : Inv X pins σ H { s with toks := t } := I.un (h' := s.heap) (t' := t) Un.refl I.hok

theorem Inv.kept {t' : Nat} (I : Inv X pins σ H s) (k : ∀ b u, s.heap.get? b = some u → h'.get? b = some u) : Inv X pins σ H { s with heap := h', toks := t' } := I.un (Un.kept k) (I.hok.kept k)

theorem Inv.laid {a : Addr} {o : HO} {t' : Nat} (I : Inv X pins σ H s) (k : ∀ b u, s.heap.get? b = some u → h'.get? b = some u) (hp : s.heap.objs.size ≤ a) (new : ObjOk X.prog X.w (upd H a o) h' a o) :
    Inv X pins σ (upd H a o) { s with heap := h', toks := t' } := I.un (Un.laid k hp (I.hok.fresh hp)) (I.hok.laid k hp new)

theorem Inv.write {x e : Addr} {o : HO} {t' : Nat} (I : Inv X pins σ H s) (mu : Mut (H x)) (he : e = x ∨ H e = some (.own x)) (k : ∀ b u, b ≠ e → s.heap.get? b = some u → h'.get? b = some u) (heo : ∃ u, h'.get? e = some u)
    (new : ObjOk X.prog X.w (upd H x o) h' x o) : Inv X pins σ (upd H x o) { s with heap := h', toks := t' } := I.un (Un.write mu he k heo) (I.hok.write mu he k heo new)

theorem Inv.weak {σ' : List (Option V)} (I : Inv X pins σ H s) (hl : σ'.length = σ.length) (w : ∀ (i : Nat) v, σ'[i]? = some (some v) → σ[i]? = some (some v)) : Inv X pins σ' H s :=
  ⟨I.ok, I.os, I.bare, I.base, let ⟨m, hn, hl'⟩ := I.loc; ⟨m, hn, fun i x v e1 e2 e3 => hl' i x v e1 (w i v e2) e3⟩, I.cell, I.free, I.freeC, I.pin, I.hok, hl.trans I.len⟩
theorem Inv.pins_of {pins' : List (Addr × Obj)} (I : Inv X pins σ H s) (h : ∀ p ∈ pins', s.heap.get? p.1 = some p.2 ∧ H p.1 = none ∧ p.1 ≠ X.env.locals ∧ p.1 ∉ X.fs ∧ ∀ v, p.2.data ≠ .cell v) : Inv X pins' σ H s :=
  ⟨I.ok, I.os, I.bare, I.base, I.loc, I.cell, I.free, I.freeC, fun p hp => (List.mem_append.mp hp).elim (fun z => I.pin p (List.mem_append_left _ z)) (h p), I.hok, I.len⟩

theorem nodup_ix {N : List Str} (hN : N.Nodup) {i j : Nat} {x : Str} (a : N[i]? = some x) (b : N[j]? = some x) : i = j := by
  obtain ⟨h1, e1⟩ := List.getElem?_eq_some_iff.mp a
  obtain ⟨h2, e2⟩ := List.getElem?_eq_some_iff.mp b
  exact (List.getElem_inj hN).mp (e1.trans e2.symm)


theorem store_ok2 {M : Model} {A : Around} {E : Value → Shared → Prop} {i : Nat} {x : Str} {v : V} {u : Value} {Q : Unit → Shared → Prop} (I : Inv X pins σ H s) (hN : X.N.Nodup) (hi : X.N[i]? = some x) (hx : Loc X.env.scope x) (r : RelV v u)
    (h : ∀ s', Inv X pins (σ.set i (some v)) H s' → (∃ a, Heap.SameBut a s.heap s'.heap ∧ (a = X.env.locals ∨ X.env.cells.lookup x = some a)) → Q () s') (hf : X.fn x = true ∨ X.env.scope.names.lookup x = some .local := by first | exact .inl rfl | exact .inr rfl | assumption) : wpAny M A (storeName X.env x u) Q E s := by
  obtain ⟨m, hn, hl⟩ := id I.loc
  have hcls : (X.env.scope.kind == .class || (X.env.scope.kind == .module && X.env.locals != X.env.globals)) = false := by rw [I.ok.kind]; rfl
  have hiσ : i < σ.length := by rw [I.len]; exact (List.getElem?_eq_some_iff.mp hi).1
  have cne := I.cne
  have tracked : ∀ {a : Addr} {h' : Heap}, (∃ o, s.heap.get? a = some o ∧ H a = none) → Heap.SameBut a s.heap h' → HOk X.prog X.w H h' := fun {a h'} ha hs b ob e => by
    obtain ⟨_, _, hfree⟩ := ha
    refine (I.hok b ob e).stay (fun c w' hc q => (hs.2 c ?_).trans q) (fun _ q => q) fun _ _ q => q
    rintro rfl
    rcases hc with rfl | hc
    · rw [hfree] at e; cases e
    · rw [hfree] at hc; cases hc
  rcases hx with hk | hk
  · refine wpAny_storeName_local hk hn (fun h' hn' hs => ?_) hcls
    obtain ⟨oL, _, _, hoL, _⟩ := id hn
    refine h _ ⟨I.ok, I.os, I.bare, ⟨fun b o e n hb hx => ?_, fun b o e n hb hx => ?_, I.base.free, fun b o e hx => ?_, I.base.tups, I.base.frzs, I.base.tbls⟩, ⟨_, hn', fun j y v' e1 e2 e3 => ?_⟩, fun y c e => ?_, I.free, I.freeC, fun p hp => ?_, tracked ⟨oL, hoL, I.free⟩ hs, by simpa using I.len⟩ ⟨_, hs, .inl rfl⟩
    · exact (hs.2 b (Nat.ne_of_lt (Nat.lt_of_lt_of_le (Heap.lt_size e) I.ok.above))).trans (I.base.keep b o e n hb hx)
    · obtain ⟨sl, e1⟩ := I.base.slot b o e n hb hx
      exact ⟨sl, (hs.2 b (Nat.ne_of_lt (Nat.lt_of_lt_of_le (Heap.lt_size e) I.ok.above))).trans e1⟩
    · obtain ⟨o', e1⟩ := I.base.there b o e hx
      exact ⟨o', (hs.2 b (Nat.ne_of_lt (Nat.lt_of_lt_of_le (Heap.lt_size e) I.ok.above))).trans e1⟩
    · by_cases hj : j = i
      · subst hj
        rw [hi] at e1; cases e1
        rw [List.getElem?_set_self hiσ] at e2
        cases e2
        exact ⟨u, r, .inl ⟨hk, by simp⟩⟩
      · rw [List.getElem?_set_ne (Ne.symm hj)] at e2
        obtain ⟨u', r', q⟩ := hl j y v' e1 e2 e3
        refine ⟨u', r', ?_⟩
        rcases q with ⟨k, e⟩ | ⟨k, c, e, z⟩
        · refine .inl ⟨k, ?_⟩
          have : y ≠ x := fun e => hj (nodup_ix hN e1 (e ▸ hi))
          simp [this, e]
        · exact .inr ⟨k, c, e, z.sameBut hs (cne y c e)⟩
    · obtain ⟨w', z⟩ := I.cell y c e
      exact ⟨w', z.sameBut hs (cne y c e)⟩
    · obtain ⟨e, n, ne, nf, d⟩ := I.pin p hp
      exact ⟨(hs.2 p.1 ne).trans e, n, ne, nf, d⟩
  · have hfn : X.fn x = true := by
      rcases hf with z | z
      · exact z
      · rw [z] at hk; cases hk
    obtain ⟨c, hc⟩ := I.ok.has x (.inl hk)
    obtain ⟨w', z⟩ := I.cell x c hc
    refine wpAny_storeName_cell I.ok.kind hk hc z (fun h' hc' hs => ?_)
    obtain ⟨oc, hoc, hocd⟩ := id z
    refine h { s with heap := h' } ⟨I.ok, I.os, I.bare, ⟨fun b o e n hb hx => ?_, fun b o e n hb hx => ?_, I.base.free, fun b o e hx => ?_, I.base.tups, I.base.frzs, I.base.tbls⟩, ⟨m, hn.sameBut hs (Ne.symm (cne x c hc)), fun j y v' e1 e2 e3 => ?_⟩, fun y c' e => ?_, I.free, I.freeC, fun p hp => ?_, tracked ⟨oc, hoc, I.freeC x c hc⟩ hs, by simpa using I.len⟩ ⟨c, hs, .inr hc⟩
    · exact (hs.2 b (Nat.ne_of_lt (Nat.lt_of_lt_of_le (Heap.lt_size e) (I.ok.cab x c hfn hc)))).trans (I.base.keep b o e n hb hx)
    · obtain ⟨sl, e1⟩ := I.base.slot b o e n hb hx
      exact ⟨sl, (hs.2 b (Nat.ne_of_lt (Nat.lt_of_lt_of_le (Heap.lt_size e) (I.ok.cab x c hfn hc)))).trans e1⟩
    · obtain ⟨o', e1⟩ := I.base.there b o e hx
      exact ⟨o', (hs.2 b (Nat.ne_of_lt (Nat.lt_of_lt_of_le (Heap.lt_size e) (I.ok.cab x c hfn hc)))).trans e1⟩
    · by_cases hj : j = i
      · subst hj
        rw [hi] at e1; cases e1
        rw [List.getElem?_set_self hiσ] at e2
        cases e2
        exact ⟨u, r, .inr ⟨.inl hk, c, hc, hc'⟩⟩
      · rw [List.getElem?_set_ne (Ne.symm hj)] at e2
        obtain ⟨u', r', q⟩ := hl j y v' e1 e2 e3
        refine ⟨u', r', ?_⟩
        rcases q with q | ⟨k, c', e, z'⟩
        · exact .inl q
        · refine .inr ⟨k, c', e, z'.sameBut hs ?_⟩
          rintro rfl
          exact hj (nodup_ix hN e1 (I.ok.inj _ _ _ e hc ▸ hi))
    · by_cases hcc : c' = c
      · subst hcc; exact ⟨_, hc'⟩
      · obtain ⟨w2, z2⟩ := I.cell y c' e
        exact ⟨w2, z2.sameBut hs hcc⟩
    · obtain ⟨e, n, ne, nf, d⟩ := I.pin p hp
      refine ⟨(hs.2 p.1 ?_).trans e, n, ne, nf, d⟩
      intro q
      rw [q, hoc] at e
      have q' : oc = p.2 := Option.some.inj e
      exact d w' (by rw [← q']; exact hocd)
theorem store_ok {M : Model} {A : Around} {E : Value → Shared → Prop} {i : Nat} {x : Str} {v : V} {u : Value} {Q : Unit → Shared → Prop} (I : Inv X pins σ H s) (hN : X.N.Nodup) (hi : X.N[i]? = some x) (hx : Loc X.env.scope x) (r : RelV v u)
    (h : ∀ s', Inv X pins (σ.set i (some v)) H s' → Q () s') (hf : X.fn x = true ∨ X.env.scope.names.lookup x = some .local := by first | exact .inl rfl | exact .inr rfl | assumption) : wpAny M A (storeName X.env x u) Q E s :=
  store_ok2 I hN hi hx r (fun s' I' _ => h s' I') hf

theorem Inv.call' {s' : Shared} {ch : List Addr} (I : Inv X pins σ H s) (ho : s'.os = s.os) (u : Un (frs X.stack) ch H H' s.heap s'.heap) (hok : HOk X.prog X.w H' s'.heap) (hg : AllBare s'.gens)
    (hch : ∀ b ∈ ch, (b ∈ X.ex ∨ X.s₀.heap.objs.size ≤ b) ∧ b ≠ X.env.locals ∧ (∀ x c, X.env.cells.lookup x = some c → c ≠ b) ∧ ∀ p ∈ X.pn ++ pins, p.1 ≠ b) : Inv X pins σ H' s' := by
  obtain ⟨h', g', d', t', o'⟩ := s'
  have e : o' = s.os := ho
  subst e
  exact I.call (g' := g') (t' := t') (d' := d') u hok hg hch
end
noncomputable abbrev XK := Value → Option Addr → Hp → Prop
noncomputable abbrev St := List (Option V)
noncomputable abbrev VK := V → Hp → Prop

noncomputable abbrev TE := St → Hp → VK → Prop
noncomputable abbrev TT := St → Hp → (Bool → Hp → Prop) → Prop
noncomputable abbrev TA := St → Hp → (List V → Hp → Prop) → Prop

structure Ends where
  nx : St → Hp → Prop
  rt : VK
  bk : St → Hp → Prop := fun _ _ => False
  ct : St → Hp → Prop := fun _ _ => False
noncomputable abbrev TS := Ends → St → Hp → Prop

noncomputable def EP (X : Cx) (pins : List (Addr × Obj)) (σ : St) (Q : VK) (u : Value) (s' : Shared) : Prop := ∃ v H', Inv X pins σ H' s' ∧ RelV v u ∧ Q v H'
noncomputable def TP (X : Cx) (pins : List (Addr × Obj)) (σ : St) (Q : Bool → Hp → Prop) (b : Bool) (s' : Shared) : Prop := ∃ H', Inv X pins σ H' s' ∧ Q b H'
noncomputable def AP (X : Cx) (pins : List (Addr × Obj)) (σ : St) (Q : List V → Hp → Prop) (us : List Value) (s' : Shared) : Prop := ∃ vs H', Inv X pins σ H' s' ∧ Vals vs us ∧ Q vs H'
noncomputable def SP (X : Cx) (pins : List (Addr × Obj)) (D : Ends) (f : Flow) (s' : Shared) : Prop :=
  match f with
  | .next => ∃ σ' H', Inv X pins σ' H' s' ∧ D.nx σ' H'
  | .brk => ∃ σ' H', Inv X pins σ' H' s' ∧ D.bk σ' H'
  | .cont => ∃ σ' H', Inv X pins σ' H' s' ∧ D.ct σ' H'
  | .ret u => ∃ v σ' H', Inv X pins σ' H' s' ∧ RelV v u ∧ D.rt v H'

noncomputable def PE (X : Cx) (e : Expr) (t : TE) : Prop :=
  ∀ (pins : List (Addr × Obj)) (s : Shared) (σ : St) (H : Hp) (Q : VK), Inv X pins σ H s → t σ H Q → wpAny (model X.prog X.w) X.A (eval e X.env) (EP X pins σ Q) X.xe s
noncomputable def PT (X : Cx) (e : Expr) (t : TT) : Prop :=
  ∀ (pins : List (Addr × Obj)) (s : Shared) (σ : St) (H : Hp) (Q : Bool → Hp → Prop), Inv X pins σ H s → t σ H Q → wpAny (model X.prog X.w) X.A (isTrue e X.env (eval e X.env)) (TP X pins σ Q) X.xe s

noncomputable def PW (X : Cx) (e : Expr) (t : TT) : Prop :=
  ∀ (whole : Sem Value) (pins : List (Addr × Obj)) (s : Shared) (σ : St) (H : Hp) (Q : Bool → Hp → Prop), Inv X pins σ H s → t σ H Q → wpAny (model X.prog X.w) X.A (isTrue e X.env whole) (TP X pins σ Q) X.xe s
theorem PW.pt {X : Cx} {e : Expr} {t : TT} (h : PW X e t) : PT X e t := h _

noncomputable def PA (X : Cx) (es : List Expr) (t : TA) : Prop :=
  ∀ (pos : Pos) (pins : List (Addr × Obj)) (s : Shared) (σ : St) (H : Hp) (Q : List V → Hp → Prop), Inv X pins σ H s → t σ H Q → wpAny (model X.prog X.w) X.A (spliced (backTo pos (starEach es X.env))) (AP X pins σ Q) X.xe s
noncomputable def PS (X : Cx) (st : Stmt) (t : TS) : Prop :=
  ∀ (pins : List (Addr × Obj)) (s : Shared) (σ : St) (H : Hp) (D : Ends), Inv X pins σ H s → t D σ H → wpAny (model X.prog X.w) X.A (exec st X.env) (SP X pins D) X.xe s
noncomputable def PSs (X : Cx) (st : List Stmt) (t : TS) : Prop :=
  ∀ (pins : List (Addr × Obj)) (s : Shared) (σ : St) (H : Hp) (D : Ends), Inv X pins σ H s → t D σ H → wpAny (model X.prog X.w) X.A (execs st X.env) (SP X pins D) X.xe s

theorem thn {α : Type} {t : Sem α} {Q Q' : α → Shared → Prop} {M : Model} {A : Around} {E : Value → Shared → Prop} {s : Shared} (h : wpAny M A t Q E s) (hQ : ∀ a s, Q a s → Q' a s) : wpAny M A t Q' E s := wpAny_mono h hQ fun _ _ x => x
end L2
namespace L2
open PySem PySem.Spec PyProof.Rows
section
variable {X : Cx}
noncomputable def tVar (i : Nat) : TE := fun σ H Q => ∃ v, σ[i]? = some (some v) ∧ Q v H
noncomputable def tC (v : V) : TE := fun _ H Q => Q v H
theorem pe_var {i : Nat} {x : Str} {pos : Pos} (hN : X.N[i]? = some x) (hv : Vis X.env.scope x) (hd : (x == ("__debug__" : Str)) = false := by decide) (hcd : (x == ("__classdict__" : Str)) = false := by decide) : PE X (.Name x pos) (tVar i) := by
  intro pins s σ H Q I h
  obtain ⟨v, e, h⟩ := h
  obtain ⟨m, hn, hl⟩ := I.loc
  obtain ⟨u, r, l⟩ := hl i x v hN e hv
  have fin : EP X pins σ Q u s := ⟨v, H, I, r, h⟩
  rcases l with ⟨hk, hm⟩ | ⟨hk, c, hc, hcell⟩
  · exact wpAny_Name (wpAny_loadName_local I.ok.kind hk hn hm fin) hd
  · rcases hk with hk | hk
    · exact wpAny_Name (wpAny_loadName_cell I.ok.kind hk hc hcell fin) hd
    · exact wpAny_Name (wpAny_loadName_free I.ok.kind hk hc hcell fin hcd) hd
theorem pe_int {i j pos} : PE X (.Constant (.int i) j pos) (tC (.int i)) := fun _ _ _ H _ I h => wpAny_Constant_int ⟨.int i, H, I.tok _, ⟨_, rfl⟩, h⟩
theorem pe_bl {b j pos} : PE X (.Constant (.bool b) j pos) (tC (.bl b)) := fun _ _ _ H _ I h => Constant_bool ⟨.bl b, H, I, rfl, h⟩
theorem pe_str {x j pos} : PE X (.Constant (.str x) j pos) (tC (.str x)) := fun _ _ _ H _ I h => Calls.Constant_str ⟨.str x, H, I.tok _, ⟨_, rfl⟩, h⟩


noncomputable def Gl (X : Cx) (x : Str) : Prop := X.env.kindOf x = some .globalImplicit
theorem ld_glob {E : Value → Shared → Prop} {pins : List (Addr × Obj)} {s : Shared} {σ : St} {H : Hp} {x : Str} {u : Value} {pos : Pos} {Q : Value → Shared → Prop} (I : Inv X pins σ H s) (hg : Gl X x) (hm : X.mg x = some u) (h : Q u s)
    (hd : (x == ("__debug__" : Str)) = false := by decide) : wpAny (model X.prog X.w) X.A (eval (.Name x pos) X.env) Q E s :=
  Calls.Name_function_global I.ok.kind hg (Calls.loadGlobal_global (by rw [I.ok.glob]; exact I.mod.glob.keeps I.bk) hm h) hd
theorem ld_blt {E : Value → Shared → Prop} {pins : List (Addr × Obj)} {s : Shared} {σ : St} {H : Hp} {x : Str} {u : Value} {pos : Pos} {Q : Value → Shared → Prop} (I : Inv X pins σ H s) (hg : Gl X x) (hm : X.mg x = none) (hv : bootBuiltins x = some u) (h : Q u s)
    (hn : x ≠ "__name__" := by decide) (hd : (x == ("__debug__" : Str)) = false := by decide) : wpAny (model X.prog X.w) X.A (eval (.Name x pos) X.env) Q E s := by
  obtain ⟨mb, h1, h2⟩ := I.mod.blt
  exact Calls.Name_function_global I.ok.kind hg (Calls.loadGlobal_builtin (by rw [I.ok.glob]; exact I.mod.glob.keeps I.bk) hm (by rw [I.ok.blt]; exact h1.keeps I.bk) ((h2 x hn).trans hv) h) hd

theorem pe_glob {x : Str} {v : V} {u : Value} {pos : Pos} (hg : Gl X x) (hm : X.mg x = some u) (r : RelV v u) (hd : (x == ("__debug__" : Str)) = false := by decide) : PE X (.Name x pos) (tC v) :=
  fun _ _ _ H _ I h => ld_glob I hg hm ⟨v, H, I, r, h⟩ hd
theorem pe_bltn {x : Str} {v : V} {u : Value} {pos : Pos} (hg : Gl X x) (hm : X.mg x = none) (hv : bootBuiltins x = some u) (r : RelV v u) (hn : x ≠ "__name__" := by decide) (hd : (x == ("__debug__" : Str)) = false := by decide) : PE X (.Name x pos) (tC v) :=
  fun _ _ _ H _ I h => ld_blt I hg hm hv ⟨v, H, I, r, h⟩ hn hd



variable {a b : Expr} {ta tb : TE} {pos : Pos}
variable {tA tB' : TT} {rest : List Expr}
noncomputable def tOr (t u : TT) : TT := fun σ H Q => t σ H fun c H1 => if c = true then Q true H1 else u σ H1 Q
noncomputable def tNot (t : TT) : TT := fun σ H Q => t σ H fun c H1 => Q (!c) H1
theorem pw_or1 (ha : PT X a tA) : PW X (.BoolOp .Or [a] pos) tA := by
  intro wh pins s σ H Q I h
  refine isTrue_or (thn (ha pins s σ H Q I h) fun c s1 e => ?_)
  cases c with
  | false => exact isTrue_or_nil e
  | true => exact e
theorem pw_or (ha : PT X a tA) (hb : PW X (.BoolOp .Or (b :: rest) pos) tB') : PW X (.BoolOp .Or (a :: b :: rest) pos) (tOr tA tB') := by
  intro wh pins s σ H Q I h
  refine isTrue_or (thn (ha pins s σ H _ I h) fun c s1 ⟨H1, I1, q1⟩ => ?_)
  cases c with
  | true => exact ⟨H1, I1, q1⟩
  | false => exact hb wh pins s1 σ H1 Q I1 q1
theorem pt_not (ha : PT X a tA) : PT X (.UnaryOp .Not a pos) (tNot tA) := by
  intro pins s σ H Q I h
  exact isTrue_not (ha pins s σ H (fun c H1 => Q (!c) H1) I h)

noncomputable def tAndV (ta tb : TE) : TE := fun σ H Q => ta σ H fun x H1 => ∃ c, x = .bl c ∧ if c = true then tb σ H1 Q else Q (.bl false) H1
noncomputable def tNotV (ta : TE) : TE := fun σ H Q => ta σ H fun x H1 => ∃ c, x = .bl c ∧ Q (.bl (!c)) H1
theorem pe_one {op} {t : TE} (h : PE X a t) : PE X (.BoolOp op [a] pos) t := fun pins s σ H Q I hw => BoolOp_one (h pins s σ H Q I hw)
theorem pe_and (ha : PE X a ta) (hb : PE X (.BoolOp .And (b :: rest) pos) tb) : PE X (.BoolOp .And (a :: b :: rest) pos) (tAndV ta tb) := by
  intro pins s σ H Q I h
  refine BoolOp_and (thn (ha pins s σ H _ I h) fun v s1 ⟨x, H1, I1, r1, q1⟩ => ?_)
  obtain ⟨c, rfl, q1⟩ := q1
  cases r1
  refine wpAny_truthy_bool ?_
  cases c with
  | true => exact hb pins s1 σ H1 Q I1 q1
  | false => exact ⟨.bl false, H1, I1, rfl, q1⟩
theorem pe_not (ha : PE X a ta) : PE X (.UnaryOp .Not a pos) (tNotV ta) := by
  intro pins s σ H Q I h
  refine UnaryOp_ (thn (ha pins s σ H _ I h) fun v s1 ⟨x, H1, I1, r1, q1⟩ => ?_)
  obtain ⟨c, rfl, q1⟩ := q1
  cases r1
  exact not_of (wpAny_truthy_bool ⟨.bl (!c), H1, I1, rfl, q1⟩)

end
end L2
namespace L2
open PySem PySem.Spec PyProof.Rows
noncomputable def SqL (K : PySem.W.Frag) (H : Hp) (a : Addr) (xs : List V) : Prop :=
  Rd H a (.lst xs) ∨
    ∃ (o : Obj) (its : Array Value) (n : Nat), K.lookup a = some o ∧ o.cls = .type "list" ∧ o.dict = none ∧ o.data = .seq its n ∧ its.size ≤ sizeLine ∧ Vals xs its.toList
noncomputable def SqT (K : PySem.W.Frag) (H : Hp) (a : Addr) (xs : List V) : Prop :=
  Rd H a (.tup xs) ∨
    ∃ (o : Obj) (its : Array Value) (n : Nat), K.lookup a = some o ∧ o.cls = .type "tuple" ∧ o.data = .seq its n ∧ its.size ≤ sizeLine ∧ Vals xs its.toList
noncomputable def absV : Value → Option V
  | .none => some .non
  | .bool b => some (.bl b)
  | .int i _ => some (.int i)
  | .str x _ => some (.str x)
  | .bytes b _ => some (.byt b)
  | .float b _ => some (.flt b)
  | .ref a => some (.ref a)
  | .type n => some (.ty n)
  | _ => none
theorem RelV.abs {x : V} {u : Value} (r : RelV x u) : absV u = some x := by
  cases x with
  | non => cases r; rfl
  | bl _ => cases r; rfl
  | int _ => obtain ⟨t, rfl⟩ := r; rfl
  | str _ => obtain ⟨t, rfl⟩ := r; rfl
  | byt _ => obtain ⟨t, rfl⟩ := r; rfl
  | flt _ => obtain ⟨t, rfl⟩ := r; rfl
  | ref _ => cases r; rfl
  | ty _ => cases r; rfl
theorem RelV.inj {x y : V} {u : Value} (r : RelV x u) (q : RelV y u) : x = y := Option.some.inj (r.abs.symm.trans q.abs)
theorem Vals.inj : ∀ {xs ys : List V} {us : List Value}, Vals xs us → Vals ys us → xs = ys
  | _, _, _, .nil, .nil => rfl
  | _, _, _, .cons r t, .cons r' t' => by rw [r.inj r', Vals.inj t t']
section
variable {X : Cx} {pins : List (Addr × Obj)} {σ : St} {H : Hp} {s : Shared} {a : Addr} {xs ys : List V}
theorem SqL.of {K : PySem.W.Frag} (h : H a = some (.lst xs)) : SqL K H a xs := .inl (.inl h)
theorem SqT.of {K : PySem.W.Frag} (h : H a = some (.tup xs)) : SqT K H a xs := .inl (.inl h)
theorem Inv.list (I : Inv X pins σ H s) (h : SqL X.K H a xs) : ∃ its : List Value, Vals xs its ∧ PlainL s.heap a its.toArray ∧ xs.length ≤ sizeLine := by
  rcases h with h | ⟨o, its, n, hk, hc, hd, hs, hz, r⟩
  · obtain ⟨z, its, n, r, e⟩ := h.ok I.hok
    exact ⟨its, r, ⟨_, n, e, rfl, rfl, rfl⟩, z⟩
  · refine ⟨its.toList, r, ⟨o, n, I.kIn a o hk, hc, hd, by simpa using hs⟩, ?_⟩
    have e := r.length
    simp only [Array.length_toList] at e
    omega
theorem Inv.tuple (I : Inv X pins σ H s) (h : SqT X.K H a xs) : ∃ its : List Value, Vals xs its ∧ IsTup s.heap a its.toArray ∧ xs.length ≤ sizeLine := by
  rcases h with h | ⟨o, its, n, hk, hc, hs, hz, r⟩
  · obtain ⟨z, its, r, p⟩ := h.ok I.hok
    exact ⟨its, r, p, z⟩
  · refine ⟨its.toList, r, ⟨o, I.kIn a o hk, hc, n, by simpa using hs⟩, ?_⟩
    have e := r.length
    simp only [Array.length_toList] at e
    omega
theorem Inv.list_inj (I : Inv X pins σ H s) (h : SqL X.K H a xs) (h' : SqL X.K H a ys) : xs = ys := by
  obtain ⟨its, r, ⟨o, n, e, _, _, d⟩, _⟩ := I.list h
  obtain ⟨its', r', ⟨o', n', e', _, _, d'⟩, _⟩ := I.list h'
  rw [e] at e'; cases e'
  rw [d] at d'
  injection d' with d1 _
  have : its = its' := by simpa using congrArg Array.toList d1
  subst this
  exact r.inj r'
theorem Inv.tuple_inj (I : Inv X pins σ H s) (h : SqT X.K H a xs) (h' : SqT X.K H a ys) : xs = ys := by
  obtain ⟨its, r, ⟨o, e, _, n, d⟩, _⟩ := I.tuple h
  obtain ⟨its', r', ⟨o', e', _, n', d'⟩, _⟩ := I.tuple h'
  rw [e] at e'; cases e'
  rw [d] at d'
  injection d' with d1 _
  have : its = its' := by simpa using congrArg Array.toList d1
  subst this
  exact r.inj r'
end
noncomputable abbrev Cx.wish (X : Cx) (E : Value → Shared → Prop) : Cx := { X with xe := E }

noncomputable abbrev Cx.nox (X : Cx) : Cx := X.wish fun _ _ => False
theorem Cx.Ok.wish {X : Cx} (ok : X.Ok) (E : Value → Shared → Prop) : (X.wish E).Ok :=
  ⟨ok.mod, ok.kind, ok.glob, ok.blt, ok.above, ok.inj, ok.has, ok.cab, ok.hd, ok.frames, ok.stk, ok.exf, ok.bs, ok.bsz, ok.noex, ok.exfs, ok.funs, ok.frf⟩
theorem Cx.Ok.unwish {X : Cx} {E : Value → Shared → Prop} (ok : (X.wish E).Ok) : X.Ok :=
  ⟨ok.mod, ok.kind, ok.glob, ok.blt, ok.above, ok.inj, ok.has, ok.cab, ok.hd, ok.frames, ok.stk, ok.exf, ok.bs, ok.bsz, ok.noex, ok.exfs, ok.funs, ok.frf⟩
section
variable {X : Cx} {pins : List (Addr × Obj)} {σ : St} {H : Hp} {s : Shared} {E : Value → Shared → Prop}
theorem Inv.wish (I : Inv X pins σ H s) (E : Value → Shared → Prop) : Inv (X.wish E) pins σ H s := ⟨I.ok.wish E, I.os, I.bare, I.base, I.loc, I.cell, I.free, I.freeC, I.pin, I.hok, I.len⟩
theorem Inv.unwish (I : Inv (X.wish E) pins σ H s) : Inv X pins σ H s := ⟨I.ok.unwish, I.os, I.bare, I.base, I.loc, I.cell, I.free, I.freeC, I.pin, I.hok, I.len⟩
theorem SP.unwish {D : Ends} {f : Flow} {s' : Shared} (h : SP (X.wish E) pins D f s') : SP X pins D f s' := by
  cases f with
  | next => obtain ⟨σ', H', I, q⟩ := h; exact ⟨σ', H', I.unwish, q⟩
  | brk => obtain ⟨σ', H', I, q⟩ := h; exact ⟨σ', H', I.unwish, q⟩
  | cont => obtain ⟨σ', H', I, q⟩ := h; exact ⟨σ', H', I.unwish, q⟩
  | ret u => obtain ⟨v, σ', H', I, r, q⟩ := h; exact ⟨v, σ', H', I.unwish, r, q⟩
theorem PE.nox {e : Expr} {t : TE} (h : PE X.nox e t) : PE X e t := fun pins s σ H Q I hw =>
  wpAny_mono (h pins s σ H Q (I.wish _) hw) (fun _ _ ⟨v, H', I', r, q⟩ => ⟨v, H', I'.unwish, r, q⟩) fun _ _ z => False.elim z
theorem PT.nox {e : Expr} {t : TT} (h : PT X.nox e t) : PT X e t := fun pins s σ H Q I hw =>
  wpAny_mono (h pins s σ H Q (I.wish _) hw) (fun _ _ ⟨H', I', q⟩ => ⟨H', I'.unwish, q⟩) fun _ _ z => False.elim z
theorem PSs.nox {st : List Stmt} {t : TS} (h : PSs X.nox st t) : PSs X st t := fun pins s σ H D I hw =>
  wpAny_mono (h pins s σ H D (I.wish _) hw) (fun _ _ q => q.unwish) fun _ _ z => False.elim z
end
section
variable {X : Cx} {st : Stmt} {rest : List Stmt} {t u : TS} {e : Expr} {te : TE} {pos : Pos}
noncomputable def tNext : TS := fun D σ H => D.nx σ H
noncomputable def tSeq (t u : TS) : TS := fun D σ H => t { D with nx := u D } σ H
theorem pss_nil : PSs X [] tNext := fun _ _ σ H _ I h => wpAny_execs_nil ⟨σ, H, I, h⟩
theorem pss_cons (h1 : PS X st t) (h2 : PSs X rest u) : PSs X (st :: rest) (tSeq t u) := by
  intro pins s σ H D I h
  refine wpAny_execs_cons (thn (h1 pins s σ H { D with nx := u D } I h) fun f s1 q => ?_)
  cases f with
  | next =>
    obtain ⟨σ', H', I', q⟩ := q
    exact h2 pins s1 σ' H' D I' q
  | ret v => exact q
  | brk => exact q
  | cont => exact q
theorem pss_one (h1 : PS X st t) : PSs X [st] t := by
  intro pins s σ H D I h
  refine wpAny_execs_cons (thn (h1 pins s σ H D I h) fun f s1 q => ?_)
  cases f with
  | next => exact wpAny_execs_nil q
  | ret v => exact q
  | brk => exact q
  | cont => exact q
theorem Inv.quiet {pins : List (Addr × Obj)} {σ : St} {H : Hp} {s : Shared} (I : Inv X pins σ H s) : interactive X.env = false := by simp [interactive, I.ok.kind]

noncomputable def tDrop (te : TE) : TS := fun D σ H => te σ H fun _ H1 => D.nx σ H1
theorem ps_expr (he : PE X e te) (hs : swapsWith e none pos.line X.env = pure false := by rfl) : PS X (.Expr e pos) (tDrop te) := by
  intro pins s σ H D I h
  exact wpAny_Expr_any (thn (he pins s σ H _ I h) fun v s1 ⟨x, H1, I1, r1, q1⟩ => ⟨σ, H1, I1, q1⟩) I.quiet hs
noncomputable def tRet (te : TE) : TS := fun D σ H => te σ H D.rt
theorem ps_ret (he : PE X e te) : PS X (.Return (some e) pos) (tRet te) := by
  intro pins s σ H D I h
  exact wpAny_Return_some (thn (he pins s σ H _ I h) fun v s1 ⟨x, H1, I1, r1, q1⟩ => ⟨x, σ, H1, I1, r1, q1⟩)
noncomputable def tIfS (c : TT) (t u : TS) : TS := fun D σ H => c σ H fun b H1 => if b = true then t D σ H1 else u D σ H1
theorem ps_if {c : Expr} {a b : List Stmt} {tc : TT} (hc : PT X c tc) (ha : PSs X a t) (hb : PSs X b u) : PS X (.If c a b pos) (tIfS tc t u) := by
  intro pins s σ H D I h
  refine wpAny_If (thn (hc pins s σ H _ I h) fun d s1 ⟨H1, I1, q1⟩ => ?_)
  cases d with
  | true => exact ha pins s1 σ H1 D I1 q1
  | false => exact hb pins s1 σ H1 D I1 q1

end
noncomputable abbrev TG := V → St → Hp → (St → Hp → Prop) → Prop
noncomputable abbrev TGs := List V → St → Hp → (St → Hp → Prop) → Prop
noncomputable def PG (X : Cx) (target : Expr) (t : TG) : Prop :=
  ∀ (pins : List (Addr × Obj)) (s : Shared) (σ : St) (H : Hp) (v : V) (u : Value) (Q : St → Hp → Prop), Inv X pins σ H s → RelV v u → t v σ H Q →
    wpAny (model X.prog X.w) X.A (assign target X.env u) (fun _ s' => ∃ σ' H', Inv X pins σ' H' s' ∧ Q σ' H') X.xe s

noncomputable def PGs (X : Cx) (ts : List Expr) (t : TGs) : Prop :=
  ∀ (pins : List (Addr × Obj)) (s : Shared) (σ : St) (H : Hp) (vs : List V) (us : List Value) (Q : St → Hp → Prop), Inv X pins σ H s → Vals vs us → t vs σ H Q →
    wpAny (model X.prog X.w) X.A (assignInOrder ((assignEach ts X.env).map (·.2)) us) (fun _ s' => ∃ σ' H', Inv X pins σ' H' s' ∧ Q σ' H') X.xe s

section
variable {X : Cx} {pos : Pos}
noncomputable def gName (i : Nat) : TG := fun v σ H Q => Q (σ.set i (some v)) H
theorem pg_name {i : Nat} {x : Str} (hN : X.N.Nodup) (hi : X.N[i]? = some x) (hx : Loc X.env.scope x) (hf : X.fn x = true ∨ X.env.scope.names.lookup x = some .local := by first | exact .inl rfl | exact .inr rfl | assumption) : PG X (.Name x pos) (gName i) := by
  intro pins s σ H v u Q I r h
  exact wpAny_assign_Name (store_ok I hN hi hx r (fun s' I' => ⟨_, H, I', h⟩) hf)
noncomputable def gNil : TGs := fun vs σ H Q => vs = [] ∧ Q σ H
noncomputable def gCons (t : TG) (u : TGs) : TGs := fun vs σ H Q => ∃ v r, vs = v :: r ∧ t v σ H fun σ' H' => u r σ' H' Q
theorem pgs_nil : PGs X [] gNil := by
  intro pins s σ H vs us Q I r h
  obtain ⟨e, h⟩ := h
  subst e
  cases r
  exact assignInOrder_nil ⟨σ, H, I, h⟩
theorem pgs_cons {e : Expr} {es : List Expr} {t : TG} {u : TGs} (h1 : PG X e t) (h2 : PGs X es u)
    (hs : (assignEach (e :: es) X.env).map (·.2) = assign e X.env :: (assignEach es X.env).map (·.2) := by rfl) : PGs X (e :: es) (gCons t u) := by
  intro pins s σ H vs us Q I r h
  obtain ⟨v, vr, e1, h⟩ := h
  subst e1
  cases r with
  | cons r rr =>
    rw [hs]
    refine assignInOrder_cons (thn (h1 pins s σ H _ _ _ I r h) fun _ s1 ⟨σ1, H1, I1, q1⟩ => ?_)
    exact h2 pins s1 σ1 H1 _ _ Q I1 rr q1

noncomputable def gTup (K : PySem.W.Frag) (n : Nat) (t : TGs) : TG := fun v σ H Q => ∃ a xs, v = .ref a ∧ SqT K H a xs ∧ xs.length = n ∧ t xs σ H Q
theorem pg_tup {es : List Expr} {k : Nat} {t : TGs} {n : Nat} (hc : X.calm = true) (h : PGs X es t)
    (hn : (assignEach es X.env).length = n := by rfl) (hst : (assignEach es X.env).findIdx? (·.1) = none := by rfl) : PG X (.Tuple es k pos) (gTup X.K n t) := by
  intro pins s σ H v u Q I r hw
  obtain ⟨a, xs, e1, hq, hl, hw⟩ := hw
  subst e1
  cases r
  obtain ⟨its, rv, ht, hz⟩ := I.tuple hq
  refine assign_Tuple_tuple (I.ok.hd hc) ht (by simp [hn, ← hl, rv.length]) hst fun h' hx => ?_
  have I1 : Inv X pins σ H { s with heap := h' } := I.kept (t' := s.toks) fun b o e => hx b o (Nat.ne_of_lt (Heap.lt_size e)) e
  exact h pins _ σ H xs _ Q I1 (by simpa using rv) hw

noncomputable def tAsg (te : TE) (g : TG) : TS := fun D σ H => te σ H fun x H1 => g x σ H1 D.nx
theorem ps_set {i : Nat} {x : Str} {e : Expr} {te : TE} {pos' : Pos} (hN : X.N.Nodup) (hi : X.N[i]? = some x) (hx : Loc X.env.scope x) (he : PE X e te) (hs : swapsWith e (some (.Name x pos')) pos.line X.env = pure false := by rfl) (hf : X.fn x = true ∨ X.env.scope.names.lookup x = some .local := by first | exact .inl rfl | exact .inr rfl | assumption) :
    PS X (.Assign [.Name x pos'] e pos) (tAsg te (gName i)) := by
  intro pins s σ H D I h
  refine wpAny_Assign_Name (thn (he pins s σ H _ I h) fun v s1 ⟨y, H1, I1, r1, q1⟩ => ?_) hs
  exact store_ok I1 hN hi hx r1 (fun s2 I2 => ⟨_, H1, I2, q1⟩) hf

end
section
variable {X : Cx} {pos : Pos}
end
structure It where
  go : Nat → Hp → Prop
  yld : Nat → Hp → V → Hp → Prop
  stop : Nat → Hp → Prop

noncomputable def FpOk (X : Cx) (pins : List (Addr × Obj)) (H : Hp) (b : Addr) : Prop :=
  H b = none ∧ b ≠ X.env.locals ∧ b ∉ X.fs ∧ (b ∈ X.ex ∨ X.s₀.heap.objs.size ≤ b) ∧ (∀ x c, X.env.cells.lookup x = some c → c ≠ b) ∧ ∀ p ∈ X.pn ++ pins, p.1 ≠ b
theorem Inv.fpOk {X : Cx} {pins : List (Addr × Obj)} {σ : St} {H H' : Hp} {s : Shared} {b : Addr} (I : Inv X pins σ H s) (hb : s.heap.objs.size ≤ b) (hn : H' b = none) : FpOk X pins H' b := by
  refine ⟨hn, Nat.ne_of_gt (Nat.lt_of_lt_of_le I.lt hb), I.nofs hb, .inr (Nat.le_trans I.sz hb), fun x c e z => ?_, fun p hp z => ?_⟩
  · obtain ⟨v, q⟩ := I.cell x c e
    exact absurd (Nat.lt_of_lt_of_le q.lt (by rw [z]; exact hb)) (Nat.lt_irrefl _)
  · exact absurd (Nat.lt_of_lt_of_le (Heap.lt_size (I.pin p hp).1) (by rw [z]; exact hb)) (Nat.lt_irrefl _)
structure Turn (P : Program) (w : World) (K : PySem.W.Frag) (tg : Expr) (J : It) (fp : List Addr) (it : Addr) (tn : Nat → Heap → Prop) : Prop where
  mem : it ∈ fp
  obj : ∀ i h, tn i h → ∀ b ∈ fp, ∃ o, h.get? b = some o ∧ ∀ v, o.data ≠ .cell v
  keep : ∀ i h h', tn i h → (∀ b ∈ fp, ∀ o, h.get? b = some o → h'.get? b = some o) → tn i h'
  item : ∀ (X : Cx), X.prog = P → X.w = w → X.K = K → X.calm = true → ∀ (i : Nat) (pins : List (Addr × Obj)) (s : Shared) (σ : St) (H : Hp) (E : Value → Shared → Prop), Inv X pins σ H s → (∀ b ∈ fp, FpOk X pins H b) → tn i s.heap → J.go i H →
    wpAny (model P w) X.A (pyNext (.ref it)) (fun r s1 => ∃ u, r = some u ∧
      wpAny (model P w) X.A (letOwnedTupleGo tg (.ref it) u) (fun _ s2 => ∃ x H', Inv X pins σ H' s2 ∧ RelV x u ∧ J.yld i H x H' ∧ tn (i + 1) s2.heap ∧ ∀ b ∈ fp, H' b = none) E s1) E s
  done : ∀ (X : Cx), X.prog = P → X.w = w → X.K = K → X.calm = true → ∀ (i : Nat) (pins : List (Addr × Obj)) (s : Shared) (σ : St) (H : Hp) (E : Value → Shared → Prop), Inv X pins σ H s → (∀ b ∈ fp, FpOk X pins H b) → tn i s.heap → J.stop i H →
    wpAny (model P w) X.A (pyNext (.ref it)) (fun r s1 => r = none ∧ Inv X pins σ H s1) E s
  self : ∀ (A : Around) (i : Nat) (s : Shared) (Q : Value → Shared → Prop) (E : Value → Shared → Prop), tn i s.heap → Q (.ref it) s → wpAny (model P w) A (pyIter (.ref it)) Q E s
noncomputable abbrev TI := St → Hp → (It → Hp → Prop) → Prop

noncomputable def PIE (X : Cx) (pins : List (Addr × Obj)) (σ : St) (tg : Expr) (R : It → Hp → Prop) (itv : Value) (s2 : Shared) : Prop :=
  ∃ (it : Addr) (fp : List Addr) (tn : Nat → Heap → Prop) (J : It) (H' : Hp), itv = .ref it ∧ Inv X pins σ H' s2 ∧ Turn X.prog X.w X.K tg J fp it tn ∧ tn 0 s2.heap ∧ (∀ b ∈ fp, FpOk X pins H' b) ∧ R J H'
noncomputable def PI (X : Cx) (tg iter : Expr) (wi : TI) : Prop :=
  ∀ (pins : List (Addr × Obj)) (s : Shared) (σ : St) (H : Hp) (R : It → Hp → Prop), Inv X pins σ H s → wi σ H R →
    wpAny (model X.prog X.w) X.A (eval iter X.env) (fun v s1 => wpAny (model X.prog X.w) X.A (pyIter v) (PIE X pins σ tg R) X.xe s1) X.xe s


theorem go_of {M : Model} {A : Around} {E : Value → Shared → Prop} {s : Shared} {tg : Expr} {it : Addr} {u : Value} {o : Obj} {n : String} {vs : Array Value} {Q : Unit → Shared → Prop} (ho : s.heap.get? it = some o) (hc : o.cls = .type n) (hd : o.data = .fields vs)
    (hn : ["enumerate", "zip", "dict_itemiterator", "dict_reverseitemiterator", "odict_iterator", "itertools.zip_longest", "itertools.pairwise"].contains n = false) (hQ : Q () s) : wpAny M A (letOwnedTupleGo tg (.ref it) u) Q E s := by
  unfold letOwnedTupleGo
  cases tg <;> first
    | exact wpAny_pure hQ
    | (cases u <;> first
        | exact wpAny_pure hQ
        | (refine wpAny_bind (wpAny_load ho ?_)
           rw [hc, hd]
           show wpAny M A (if (["enumerate", "zip", "dict_itemiterator", "dict_reverseitemiterator", "odict_iterator", "itertools.zip_longest", "itertools.pairwise"].contains n && vs[0]? == some (rawInt _)) = true then _ else _) Q E s
           rw [if_neg (by intro h; rw [hn, Bool.false_and] at h; cases h)]
           exact wpAny_pure hQ))


noncomputable def Itl (K : PySem.W.Frag) (a : Addr) : It :=
  ⟨fun i H => ∃ xs x, SqL K H a xs ∧ xs[i]? = some x, fun i H x H' => H' = H ∧ ∀ xs, SqL K H a xs → xs[i]? = some x, fun i H => ∃ xs, SqL K H a xs ∧ xs.length ≤ i⟩
noncomputable def Itt (K : PySem.W.Frag) (a : Addr) : It :=
  ⟨fun i H => ∃ xs x, SqT K H a xs ∧ xs[i]? = some x, fun i H x H' => H' = H ∧ ∀ xs, SqT K H a xs → xs[i]? = some x, fun i H => ∃ xs, SqT K H a xs ∧ xs.length ≤ i⟩

noncomputable def Itr (lo : Int) (n : Nat) : It := ⟨fun i _ => i < n, fun i H x H' => H' = H ∧ x = .int (lo + i), fun i _ => n ≤ i⟩
theorem turn_list {P : Program} {w : World} {K : PySem.W.Frag} {tg : Expr} (a it : Addr) : Turn P w K tg (Itl K a) [it] it (fun i h => h.IsListIter it a i) where
  mem := by simp
  obj := fun i h st b hb => by
    have e : b = it := by simpa using hb
    subst e
    obtain ⟨o, e, c, d⟩ := st
    exact ⟨o, e, fun v z => by rw [d] at z; cases z⟩
  keep := fun i h h' st k => st.at fun o e => k it (by simp) o e
  item := by
    intro X hP hw hK hc i pins s σ H E I hf st hg
    subst hP hw hK
    obtain ⟨xs, x, hq, hx⟩ := hg
    obtain ⟨its, rv, p, hz⟩ := I.list hq
    obtain ⟨u, hu, ru⟩ := rv.get hx
    obtain ⟨f0, f1, f2, f3, f4, f5⟩ := hf it (by simp)
    refine wpAny_pyNext_list_item st p.isList (x := u) (by simpa using hu) fun h' st' sb => ?_
    have I1 : Inv X pins σ H { s with heap := h' } := I.turned (t' := s.toks) (fun b o hb e => (sb.2 b hb).trans e) f0 f1 f3 f4 f5
    obtain ⟨o, e, c, d⟩ := id st'
    exact ⟨u, rfl, go_of (s := { s with heap := h' }) e c d (by decide) ⟨x, H, I1, ru, ⟨rfl, fun ys hy => by rw [I.list_inj hy hq]; exact hx⟩, st', fun b hb => (hf b hb).1⟩⟩
  done := by
    intro X hP hw hK hc i pins s σ H E I hf st hg
    subst hP hw hK
    obtain ⟨xs, hq, hx⟩ := hg
    obtain ⟨its, rv, p, hz⟩ := I.list hq
    obtain ⟨f0, f1, f2, f3, f4, f5⟩ := hf it (by simp)
    have hl := rv.length
    exact wpAny_pyNext_list_end (I.ok.hd hc) st p.isList (by simp; omega) fun h' eb => ⟨rfl, I.turned (t' := s.toks) (fun b o hb e => eb b o hb e) f0 f1 f3 f4 f5⟩
  self := fun _ _ _ _ _ st h => wpAny_pyIter_listiter st h
theorem turn_tuple {P : Program} {w : World} {K : PySem.W.Frag} {tg : Expr} (a it : Addr) : Turn P w K tg (Itt K a) [it] it (fun i h => h.IsTupleIter it a i) where
  mem := by simp
  obj := fun i h st b hb => by
    have e : b = it := by simpa using hb
    subst e
    obtain ⟨o, e, c, d⟩ := st
    exact ⟨o, e, fun v z => by rw [d] at z; cases z⟩
  keep := fun i h h' st k => st.at fun o e => k it (by simp) o e
  item := by
    intro X hP hw hK hc i pins s σ H E I hf st hg
    subst hP hw hK
    obtain ⟨xs, x, hq, hx⟩ := hg
    obtain ⟨its, rv, p, hz⟩ := I.tuple hq
    obtain ⟨u, hu, ru⟩ := rv.get hx
    obtain ⟨f0, f1, f2, f3, f4, f5⟩ := hf it (by simp)
    refine wpAny_pyNext_tuple_item st (show s.heap.IsTuple a its.toArray from p) (x := u) (by simpa using hu) fun h' st' sb => ?_
    have I1 : Inv X pins σ H { s with heap := h' } := I.turned (t' := s.toks) (fun b o hb e => (sb.2 b hb).trans e) f0 f1 f3 f4 f5
    obtain ⟨o, e, c, d⟩ := id st'
    exact ⟨u, rfl, go_of (s := { s with heap := h' }) e c d (by decide) ⟨x, H, I1, ru, ⟨rfl, fun ys hy => by rw [I.tuple_inj hy hq]; exact hx⟩, st', fun b hb => (hf b hb).1⟩⟩
  done := by
    intro X hP hw hK hc i pins s σ H E I hf st hg
    subst hP hw hK
    obtain ⟨xs, hq, hx⟩ := hg
    obtain ⟨its, rv, p, hz⟩ := I.tuple hq
    obtain ⟨f0, f1, f2, f3, f4, f5⟩ := hf it (by simp)
    have hl := rv.length
    exact wpAny_pyNext_tuple_end (I.ok.hd hc) st (show s.heap.IsTuple a its.toArray from p) (by simp; omega) fun h' eb => ⟨rfl, I.turned (t' := s.toks) (fun b o hb e => eb b o hb e) f0 f1 f3 f4 f5⟩
  self := fun _ _ _ _ _ st h => wpAny_pyIter_tupleiter st h
theorem turn_range {P : Program} {w : World} {K : PySem.W.Frag} {tg : Expr} (it : Addr) (lo : Int) (n : Nat) : Turn P w K tg (Itr lo n) [it] it (fun i h => IsRangeIter h it (lo + (i : Nat) * 1) ((n : Int) - (i : Nat)) 1) where
  mem := by simp
  obj := fun i h st b hb => by
    have e : b = it := by simpa using hb
    subst e
    exact ⟨_, st, fun v z => by
      have z' : Data.fields _ = Data.cell v := z
      cases z'⟩
  keep := fun i h h' st k => k it (by simp) _ st
  item := by
    intro X hP hw hK hc i pins s σ H E I hf st hg
    subst hP hw hK
    obtain ⟨f0, f1, f2, f3, f4, f5⟩ := hf it (by simp)
    have W := Walks.range (prog := X.prog) (w := X.w) (I.ok.hd hc) it lo 1 n
    refine W.item i s _ _ hg st fun v h' tk hv st' kk => ?_
    obtain ⟨t, rfl⟩ := hv
    have I1 : Inv X pins σ H { s with heap := h', toks := tk } := I.turned (fun b o hb e => kk b o (by simpa using hb) e) f0 f1 f3 f4 f5
    refine ⟨_, rfl, go_of (s := { s with heap := h', toks := tk }) (n := "range_iterator") st' rfl rfl (by decide) ⟨.int (lo + i), H, I1, ⟨t, ?_⟩, ⟨rfl, rfl⟩, st', fun b hb => (hf b hb).1⟩⟩
    rw [Int.mul_one]
  done := by
    intro X hP hw hK hc i pins s σ H E I hf st hg
    subst hP hw hK
    obtain ⟨f0, f1, f2, f3, f4, f5⟩ := hf it (by simp)
    exact wpAny_pyNext_range_end (I.ok.hd hc) st (by have : n ≤ i := hg; omega) fun h' eb => ⟨rfl, I.turned (t' := s.toks) (fun b o hb e => eb b o hb e) f0 f1 f3 f4 f5⟩
  self := fun _ _ _ _ _ st h => wpAny_pyIter_rangeiter st h
end L2
namespace L2
open PySem PySem.Spec PyProof.Rows
section
variable {X : Cx} {tg : Expr}
noncomputable def iList (K : PySem.W.Frag) (tl : TE) : TI := fun σ H R => tl σ H fun x H1 => ∃ a, x = .ref a ∧ (∃ xs, SqL K H1 a xs) ∧ R (Itl K a) H1
noncomputable def iTup (K : PySem.W.Frag) (tl : TE) : TI := fun σ H R => tl σ H fun x H1 => ∃ a, x = .ref a ∧ (∃ xs, SqT K H1 a xs) ∧ R (Itt K a) H1
theorem pi_list {l : Expr} {tl : TE} (hl : PE X l tl) : PI X tg l (iList X.K tl) := by
  intro pins s σ H R I h
  refine thn (hl pins s σ H _ I h) fun v s1 ⟨x, H1, I1, r1, q1⟩ => ?_
  obtain ⟨a, e, ⟨xs, hq⟩, q⟩ := q1
  subst e
  cases r1
  obtain ⟨its, rv, p, hz⟩ := I1.list hq
  refine wpAny_pyIter_list p.isList ?_
  refine ⟨s1.heap.objs.size, [s1.heap.objs.size], _, _, H1, rfl, I1.kept (t' := s1.toks) fun b o e => Heap.get?_push_of_some _ e, turn_list a _, ⟨_, Heap.get?_push_size _ rfl, rfl, rfl⟩, fun b hb => ?_, q⟩
  have e : b = s1.heap.objs.size := by simpa using hb
  subst e
  exact I1.fpOk (Nat.le_refl _) (I1.hok.fresh (Nat.le_refl _))
theorem pi_tup {l : Expr} {tl : TE} (hl : PE X l tl) : PI X tg l (iTup X.K tl) := by
  intro pins s σ H R I h
  refine thn (hl pins s σ H _ I h) fun v s1 ⟨x, H1, I1, r1, q1⟩ => ?_
  obtain ⟨a, e, ⟨xs, hq⟩, q⟩ := q1
  subst e
  cases r1
  obtain ⟨its, rv, p, hz⟩ := I1.tuple hq
  refine wpAny_pyIter_tuple (show s1.heap.IsTuple a its.toArray from p) ?_
  refine ⟨s1.heap.objs.size, [s1.heap.objs.size], _, _, H1, rfl, I1.kept (t' := s1.toks) fun b o e => Heap.get?_push_of_some _ e, turn_tuple a _, ⟨_, Heap.get?_push_size _ rfl, rfl, rfl⟩, fun b hb => ?_, q⟩
  have e : b = s1.heap.objs.size := by simpa using hb
  subst e
  exact I1.fpOk (Nat.le_refl _) (I1.hok.fresh (Nat.le_refl _))

theorem range_it {pins : List (Addr × Obj)} {σ : St} {H : Hp} {s : Shared} {R : It → Hp → Prop} {E : Value → Shared → Prop} {lo hi : Int} {t u v : Tok} {tk : Nat} (I : Inv X pins σ H s) (h1 : -(2 ^ 62) ≤ lo) (h2 : lo < 2 ^ 62) (h3 : -(2 ^ 62) ≤ hi) (h4 : hi < 2 ^ 62)
    (q : R (Itr lo (hi - lo).toNat) H) : wpAny (model X.prog X.w) X.A (pyIter (.ref s.heap.objs.size)) (PIE X pins σ tg R) E { s with heap := s.heap.push { cls := .type "range", data := .fields #[.int lo t, .int hi u, .int 1 v] }, toks := tk } := by
  refine wpAny_pyIter_range (IsRange.new ..) (small_one h1 h2 h3 h4) ?_
  have I1 : Inv X pins σ H { s with heap := s.heap.push { cls := .type "range", data := .fields #[.int lo t, .int hi u, .int 1 v] }, toks := tk } := I.kept fun b o e => Heap.get?_push_of_some _ e
  refine ⟨(s.heap.push { cls := .type "range", data := .fields #[.int lo t, .int hi u, .int 1 v] }).objs.size, [(s.heap.push { cls := .type "range", data := .fields #[.int lo t, .int hi u, .int 1 v] }).objs.size], _, _, H, rfl,
    I1.kept (t' := tk) fun b o e => Heap.get?_push_of_some _ e, turn_range _ lo (hi - lo).toNat, ?_, fun b hb => ?_, q⟩
  · have e1 : lo + ((0 : Nat) : Int) * 1 = lo := by simp
    have e2 : (((hi - lo).toNat : Nat) : Int) - ((0 : Nat) : Int) = Builtin.Range.rangeSize lo hi 1 := by rw [rangeSize_one]; split <;> omega
    show IsRangeIter _ _ (lo + ((0 : Nat) : Int) * 1) ((((hi - lo).toNat : Nat) : Int) - ((0 : Nat) : Int)) 1
    rw [e1, e2]
    exact Heap.get?_push_size _ rfl
  · have e : b = (s.heap.push { cls := .type "range", data := .fields #[.int lo t, .int hi u, .int 1 v] }).objs.size := by simpa using hb
    subst e
    exact I1.fpOk (Nat.le_refl _) (I1.hok.fresh (Nat.le_refl _))
noncomputable def iRng1 (ta : TA) : TI := fun σ H R => ta σ H fun vs H1 => ∃ j : Int, vs = [.int j] ∧ -(2 ^ 62) ≤ j ∧ j < 2 ^ 62 ∧ R (Itr 0 j.toNat) H1
noncomputable def iRng2 (ta : TA) : TI := fun σ H R => ta σ H fun vs H1 => ∃ i j : Int, vs = [.int i, .int j] ∧ (-(2 ^ 62) ≤ i ∧ i < 2 ^ 62 ∧ -(2 ^ 62) ≤ j ∧ j < 2 ^ 62) ∧ R (Itr i (j - i).toNat) H1
theorem pi_range1 {a : Expr} {ta : TA} {p pos : Pos} (hg : Gl X "range") (hm : X.mg "range" = none) (ha : PA X [a] ta) (hs : starEach [a] X.env = [(false, eval a X.env)] := by rfl) : PI X tg (.Call (.Name "range" p) [a] [] pos) (iRng1 ta) := by
  intro pins s σ H R I h
  refine Call_ (ld_blt I hg hm boot_range (PyProof.Rows.callWith_type1 (thn (ha pos pins s σ H _ I h) fun us s1 ⟨vs, H1, I1, r1, q1⟩ => ?_) hs rfl))
  obtain ⟨j, e, q1, q2, q⟩ := q1
  subst e
  cases r1 with
  | cons r rr =>
    cases rr
    obtain ⟨t, rfl⟩ := r
    exact call_range_1 (range_it I1 (by omega) (by omega) q1 q2 (by simpa using q))
theorem pi_range2 {a b : Expr} {ta : TA} {p pos : Pos} (hg : Gl X "range") (hm : X.mg "range" = none) (ha : PA X [a, b] ta) (hs : starEach [a, b] X.env = [(false, eval a X.env), (false, eval b X.env)] := by rfl) (hs2 : starEach [b] X.env = [(false, eval b X.env)] := by rfl) :
    PI X tg (.Call (.Name "range" p) [a, b] [] pos) (iRng2 ta) := by
  intro pins s σ H R I h
  refine Call_ (ld_blt I hg hm boot_range (PyProof.Rows.callWith_type1 (thn (ha pos pins s σ H _ I h) fun us s1 ⟨vs, H1, I1, r1, q1⟩ => ?_) (by rw [hs, hs2]) (by rw [hs2]; rfl)))
  obtain ⟨i, j, e, ⟨q1, q2, q3, q4⟩, q⟩ := q1
  subst e
  cases r1 with
  | cons r rr =>
    cases rr with
    | cons r' rr =>
      cases rr
      obtain ⟨t, rfl⟩ := r
      obtain ⟨t', rfl⟩ := r'
      exact call_range_2 (range_it I1 q1 q2 q3 q4 q)



noncomputable def tFor (wi : TI) (g : TG) (tb : TS) : TS := fun D σ H => wi σ H fun J H1 => ∃ W : Nat → Nat → St → Hp → Prop, (∃ m, W 0 m σ H1) ∧ ∀ i m σ H, W i m σ H →
  (J.stop i H ∧ D.nx σ H) ∨ (J.go i H ∧ ∃ N : St → Hp → Prop, (∀ σ' H', N σ' H' → ∃ m', m' < m ∧ W (i + 1) m' σ' H') ∧ ∀ x H', J.yld i H x H' → g x σ H' fun σ2 H2 => tb { D with nx := N, ct := N, bk := D.nx } σ2 H2)

noncomputable def pinsAt (fp : List Addr) (h : Heap) : List (Addr × Obj) := fp.filterMap fun b => (h.get? b).map fun o => (b, o)
theorem mem_pinsAt {fp : List Addr} {h : Heap} {b : Addr} {o : Obj} (hb : b ∈ fp) (e : h.get? b = some o) : (b, o) ∈ pinsAt fp h := List.mem_filterMap.mpr ⟨b, hb, by rw [e]; rfl⟩
theorem of_pinsAt {fp : List Addr} {h : Heap} {p : Addr × Obj} (hp : p ∈ pinsAt fp h) : p.1 ∈ fp ∧ h.get? p.1 = some p.2 := by
  obtain ⟨b, hb, e⟩ := List.mem_filterMap.mp hp
  cases q : h.get? b with
  | none => rw [q] at e; cases e
  | some o =>
    rw [q] at e
    have e' : (b, o) = p := Option.some.inj e
    subst e'
    exact ⟨hb, q⟩
theorem Inv.pinned {pins : List (Addr × Obj)} {σ : St} {H : Hp} {s : Shared} {fp : List Addr} (I : Inv X pins σ H s) (hf : ∀ b ∈ fp, FpOk X pins H b) (ho : ∀ b ∈ fp, ∃ o, s.heap.get? b = some o ∧ ∀ v, o.data ≠ .cell v) : Inv X (pins ++ pinsAt fp s.heap) σ H s :=
  I.pins_of fun p hp => (List.mem_append.mp hp).elim (fun z => I.pin p (List.mem_append_right _ z)) fun z => by
    obtain ⟨hb, e⟩ := of_pinsAt z
    obtain ⟨f0, f1, f2, _⟩ := hf p.1 hb
    obtain ⟨o, e', d⟩ := ho p.1 hb
    rw [e] at e'; cases e'
    exact ⟨e, f0, f1, f2, d⟩
theorem Inv.unpinned {pins pl : List (Addr × Obj)} {σ : St} {H : Hp} {s : Shared} (I : Inv X (pins ++ pl) σ H s) : Inv X pins σ H s := I.pins_of fun p hp => I.pin p (List.mem_append_right _ (List.mem_append_left _ hp))
theorem ps_for {iter : Expr} {body : List Stmt} {wi : TI} {g : TG} {tb : TS} {pos : Pos} (hp : PassesOwn (model X.prog X.w) X.A X.env X.xe) (hc : X.calm = true) (hi : PI X tg iter wi) (hg : PG X tg g) (hb : PSs X body tb)
    (hs : ∀ x, foldedSetIterable iter X.env x = pure x := by intro _; rfl) : PS X (.For tg iter body [] pos) (tFor wi g tb) := by
  intro pins s σ H D I h
  refine wpAny_For (thn (hi pins s σ H _ I h) fun v s1 h1 => thn h1 fun itv s2 h2 => ?_) hs
  obtain ⟨it, fp, tn, J, H2, e, I2, T, st2, f2, W, ⟨m0, w0⟩, turn⟩ := h2
  subst e
  have stat : ∀ {H' : Hp}, (∀ b ∈ fp, H' b = none) → ∀ b ∈ fp, FpOk X pins H' b := fun hn b hb => ⟨hn b hb, (f2 b hb).2⟩
  refine codeAny_forLoop_any (fun n s' => ∃ i σ' H', Inv X pins σ' H' s' ∧ tn i s'.heap ∧ (∀ b ∈ fp, H' b = none) ∧ W i n σ' H') ?_ m0 ⟨0, σ, H2, I2, st2, fun b hb => (f2 b hb).1, w0⟩
  rintro n s3 ⟨i, σ3, H3, I3, st3, fr3, w3⟩
  rcases turn i n σ3 H3 w3 with ⟨stop, qn⟩ | ⟨go, N, hN, step⟩
  · refine wpAny_passesOwn hp (thn (T.done X rfl rfl rfl hc i pins s3 σ3 H3 X.xe I3 (stat fr3) st3 stop) fun r s4 ⟨hr, I4⟩ => ?_)
    subst hr
    exact wpAny_execs_nil ⟨σ3, H3, I4, qn⟩
  · refine wpAny_passesOwn hp (thn (T.item X rfl rfl rfl hc i pins s3 σ3 H3 X.xe I3 (stat fr3) st3 go) fun r s4 ⟨u, hr, h4⟩ => ?_)
    subst hr
    refine wpAny_passesOwn hp (thn h4 fun _ s5 ⟨x, H5, I5, r5, y5, st5, fr5⟩ => ?_)
    have I5' := I5.pinned (stat fr5) (T.obj _ _ st5)
    refine wpAny_passesOwn hp (thn (hg _ s5 σ3 H5 x u _ I5' r5 (step x H5 y5)) fun _ s6 ⟨σ6, H6, I6, q6⟩ => ?_)
    refine wpAny_passesOwn hp (thn (hb _ s6 σ6 H6 _ I6 q6) fun f s7 q7 => ?_)
    have again : ∀ {σ7 : St} {H7 : Hp}, Inv X (pins ++ pinsAt fp s5.heap) σ7 H7 s7 → N σ7 H7 → ∃ m, m < n ∧ ∃ i σ' H', Inv X pins σ' H' s7 ∧ tn i s7.heap ∧ (∀ b ∈ fp, H' b = none) ∧ W i m σ' H' := fun {σ7 H7} I7 n7 => by
      obtain ⟨m', hm, w7⟩ := hN σ7 H7 n7
      refine ⟨m', hm, i + 1, σ7, H7, I7.unpinned, T.keep _ _ _ st5 fun b hb o e => (I7.pin (b, o) (List.mem_append_right _ (List.mem_append_right _ (mem_pinsAt hb e)))).1, fun b hb => ?_, w7⟩
      obtain ⟨o, e, d⟩ := T.obj _ _ st5 b hb
      exact (I7.pin (b, o) (List.mem_append_right _ (List.mem_append_right _ (mem_pinsAt hb e)))).2.1
    cases f with
    | next => obtain ⟨σ7, H7, I7, n7⟩ := q7; exact again I7 n7
    | cont => obtain ⟨σ7, H7, I7, n7⟩ := q7; exact again I7 n7
    | brk => obtain ⟨σ7, H7, I7, q7⟩ := q7; exact ⟨σ7, H7, I7.unpinned, q7⟩
    | ret v => obtain ⟨x7, σ7, H7, I7, r7, q7⟩ := q7; exact ⟨x7, σ7, H7, I7.unpinned, r7, q7⟩
end
end L2
namespace L2
open PySem PySem.Spec PyProof.Rows
noncomputable abbrev R2 := V → V → Hp → VK → Prop

noncomputable def OpR (X : Cx) (f : Value → Value → Sem Value) (r : R2) : Prop :=
  ∀ (pins : List (Addr × Obj)) (s : Shared) (σ : St) (H : Hp) (x y : V) (v u : Value) (Q : VK), Inv X pins σ H s → RelV x v → RelV y u → r x y H Q →
    wpAny (model X.prog X.w) X.A (f v u) (EP X pins σ Q) X.xe s

noncomputable def UnR (X : Cx) (f : Value → Sem Value) (r : V → Hp → VK → Prop) : Prop :=
  ∀ (pins : List (Addr × Obj)) (s : Shared) (σ : St) (H : Hp) (x : V) (v : Value) (Q : VK), Inv X pins σ H s → RelV x v → r x H Q →
    wpAny (model X.prog X.w) X.A (f v) (EP X pins σ Q) X.xe s

noncomputable def CallR (X : Cx) (f : Value) (r : List V → Hp → VK → Prop) : Prop :=
  ∀ (pins : List (Addr × Obj)) (s : Shared) (σ : St) (H : Hp) (xs : List V) (us : List Value) (Q : VK), Inv X pins σ H s → Vals xs us → r xs H Q →
    wpAny (model X.prog X.w) X.A (call f us) (EP X pins σ Q) X.xe s

noncomputable def TruR (X : Cx) (r : V → Hp → (Bool → Hp → Prop) → Prop) : Prop :=
  ∀ (pins : List (Addr × Obj)) (s : Shared) (σ : St) (H : Hp) (x : V) (v : Value) (Q : Bool → Hp → Prop), Inv X pins σ H s → RelV x v → r x H Q →
    wpAny (model X.prog X.w) X.A (truthy v) (TP X pins σ Q) X.xe s

noncomputable def tOp (r : R2) (ta tb : TE) : TE := fun σ H Q => ta σ H fun x H1 => tb σ H1 fun y H2 => r x y H2 Q
noncomputable def tUn (r : V → Hp → VK → Prop) (ta : TE) : TE := fun σ H Q => ta σ H fun x H1 => r x H1 Q

noncomputable def rI (C : Int → Int → Prop) (g : Int → Int → V) : R2 := fun x y H Q => ∃ i j, x = .int i ∧ y = .int j ∧ C i j ∧ Q (g i j) H
noncomputable def rI0 (g : Int → Int → V) : R2 := fun x y H Q => ∃ i j, x = .int i ∧ y = .int j ∧ Q (g i j) H
noncomputable def rU (g : Int → V) : V → Hp → VK → Prop := fun x H Q => ∃ i, x = .int i ∧ Q (g i) H

section
variable {X : Cx} {a b c : Expr} {ta tb tc : TE} {pos : Pos}
theorem binT (ha : PE X a ta) (hb : PE X b tb) {pins : List (Addr × Obj)} {s : Shared} {σ : St} {H : Hp} {R : V → V → Hp → Prop} (I : Inv X pins σ H s)
    (h : ta σ H fun x H1 => tb σ H1 fun y H2 => R x y H2) {Q : Value → Shared → Prop} {f : Value → Value → Sem Value}
    (hf : ∀ v u s2 x y H2, Inv X pins σ H2 s2 → RelV x v → RelV y u → R x y H2 → wpAny (model X.prog X.w) X.A (f v u) Q X.xe s2) :
    wpAny (model X.prog X.w) X.A (eval a X.env) (fun v s₁ => wpAny (model X.prog X.w) X.A (eval b X.env) (fun u s₂ => wpAny (model X.prog X.w) X.A (f v u) Q X.xe s₂) X.xe s₁) X.xe s := by
  refine thn (ha pins s σ H _ I h) fun v s1 ⟨x, H1, I1, r1, q1⟩ => ?_
  refine thn (hb pins s1 σ H1 _ I1 q1) fun u s2 ⟨y, H2, I2, r2, q2⟩ => ?_
  exact hf v u s2 x y H2 I2 r1 r2 q2

theorem pe_op {op : Operator} {r : R2} (ho : OpR X (binaryOp op) r) (ha : PE X a ta) (hb : PE X b tb) : PE X (.BinOp a op b pos) (tOp r ta tb) := by
  intro pins s σ H Q I h
  exact wpAny_BinOp (binT ha hb I h fun v u s2 x y H2 I2 rx ry q => ho pins s2 σ H2 x y v u Q I2 rx ry q)
theorem pe_un {op : UnaryOp} {r : V → Hp → VK → Prop} (ho : UnR X (unaryOp op) r) (ha : PE X a ta) : PE X (.UnaryOp op a pos) (tUn r ta) := by
  intro pins s σ H Q I h
  exact UnaryOp_ (thn (ha pins s σ H _ I h) fun v s1 ⟨x, H1, I1, r1, q1⟩ => ho pins s1 σ H1 x v Q I1 r1 q1)

theorem opI {f : Value → Value → Sem Value} {C : Int → Int → Prop} {g : Int → Int → Int}
    (rule : ∀ (i j : Int) (t u : Tok) (s : Shared) (Q : Value → Shared → Prop) (E : Value → Shared → Prop), C i j → Q (.int (g i j) s.toks) { s with toks := s.toks + 1 } → wpAny (model X.prog X.w) X.A (f (.int i t) (.int j u)) Q E s) :
    OpR X f (rI C fun i j => .int (g i j)) := by
  intro pins s σ H x y v u Q I rx ry h
  obtain ⟨i, j, rfl, rfl, hc, q⟩ := h
  obtain ⟨t, rfl⟩ := rx
  obtain ⟨t', rfl⟩ := ry
  exact rule i j t t' s _ _ hc ⟨.int (g i j), H, I.tok _, ⟨_, rfl⟩, q⟩
theorem opI0 {f : Value → Value → Sem Value} {g : Int → Int → Int}
    (rule : ∀ (i j : Int) (t u : Tok) (s : Shared) (Q : Value → Shared → Prop) (E : Value → Shared → Prop), Q (.int (g i j) s.toks) { s with toks := s.toks + 1 } → wpAny (model X.prog X.w) X.A (f (.int i t) (.int j u)) Q E s) :
    OpR X f (rI0 fun i j => .int (g i j)) := by
  intro pins s σ H x y v u Q I rx ry h
  obtain ⟨i, j, rfl, rfl, q⟩ := h
  obtain ⟨t, rfl⟩ := rx
  obtain ⟨t', rfl⟩ := ry
  exact rule i j t t' s _ _ ⟨.int (g i j), H, I.tok _, ⟨_, rfl⟩, q⟩
theorem opB0 {f : Value → Value → Sem Value} {g : Int → Int → Bool}
    (rule : ∀ (i j : Int) (t u : Tok) (s : Shared) (Q : Value → Shared → Prop) (E : Value → Shared → Prop), Q (.bool (g i j)) s → wpAny (model X.prog X.w) X.A (f (.int i t) (.int j u)) Q E s) :
    OpR X f (rI0 fun i j => .bl (g i j)) := by
  intro pins s σ H x y v u Q I rx ry h
  obtain ⟨i, j, rfl, rfl, q⟩ := h
  obtain ⟨t, rfl⟩ := rx
  obtain ⟨t', rfl⟩ := ry
  exact rule i j t t' s _ _ ⟨.bl (g i j), H, I, rfl, q⟩

noncomputable def CDiv (i j : Int) : Prop := 0 < j ∧ j < 1073741824
noncomputable def CPow (i j : Int) : Prop := 0 ≤ j ∧ j ≤ 1000000 ∧ i.natAbs < 2 ^ 64
noncomputable def CMul (i j : Int) : Prop := (-(2 ^ 64) < i ∧ i < 2 ^ 64) ∨ (-(2 ^ 64) < j ∧ j < 2 ^ 64)
theorem CMul.ok {i j : Int} (h : CMul i j) : IntMulOk i j := by
  rcases h with ⟨h1, h2⟩ | ⟨h1, h2⟩
  · exact .of_left (intBits_le_64 h1 h2)
  · exact .of_right (intBits_le_64 h1 h2)
theorem two_pow_nn (k : Nat) : (0 : Int) ≤ 2 ^ k := by
  rw [two_pow_cast]
  exact Int.natCast_nonneg _

theorem op_add : OpR X (binaryOp .Add) (rI0 fun i j => .int (i + j)) := opI0 fun _ _ _ _ _ _ _ q => add_int q
theorem op_sub : OpR X (binaryOp .Sub) (rI0 fun i j => .int (i - j)) := opI0 fun _ _ _ _ _ _ _ q => sub_int q
theorem op_mul : OpR X (binaryOp .Mult) (rI CMul fun i j => .int (i * j)) := opI fun _ _ _ _ _ _ _ hc q => mul_int q hc.ok

theorem op_fdiv : OpR X (binaryOp .FloorDiv) (rI CDiv fun i j => .int (i / j)) := opI fun i j _ _ _ _ _ hc q => by
  have h1 : (0 : Int) < j := hc.1
  have h2 : j < 1073741824 := hc.2
  exact floordiv_int (by omega) (by rw [Int.fdiv_eq_ediv_of_nonneg i (by omega)]; exact q) (.inl (PyProof.noPylong_small (by omega)))
theorem op_mod : OpR X (binaryOp .Mod) (rI (fun _ j => 0 < j) fun i j => .int (i % j)) := opI fun i j _ _ _ _ _ hc q => by
  have h1 : (0 : Int) < j := hc
  exact mod_int' (by omega) (by rw [Int.fmod_eq_emod_of_nonneg i (by omega)]; exact q)
theorem op_pow : OpR X (binaryOp .Pow) (rI CPow fun i j => .int (i ^ j.toNat)) := opI fun _ _ _ _ _ _ _ hc q => pow_int_small hc.1 hc.2.1 hc.2.2 q
theorem op_shr : OpR X (binaryOp .RShift) (rI (fun _ j => 0 ≤ j) fun i j => .int (i / 2 ^ j.toNat)) := opI fun i j _ _ _ _ _ hc q =>
  rshift_int hc (by rw [Int.fdiv_eq_ediv_of_nonneg i (two_pow_nn _)]; exact q)
theorem op_and : OpR X (binaryOp .BitAnd) (rI0 fun i j => .int (Builtin.bitAnd i j)) := opI0 fun _ _ _ _ _ _ _ q => and_int q
theorem unI {f : Value → Sem Value} {g : Int → Int}
    (rule : ∀ (i : Int) (t : Tok) (s : Shared) (Q : Value → Shared → Prop) (E : Value → Shared → Prop), Q (.int (g i) s.toks) { s with toks := s.toks + 1 } → wpAny (model X.prog X.w) X.A (f (.int i t)) Q E s) :
    UnR X f (rU fun i => .int (g i)) := by
  intro pins s σ H x v Q I rx h
  obtain ⟨i, rfl, q⟩ := h
  obtain ⟨t, rfl⟩ := rx
  exact rule i t s _ _ ⟨.int (g i), H, I.tok _, ⟨_, rfl⟩, q⟩
theorem un_neg : UnR X (unaryOp .USub) (rU fun i => .int (-i)) := unI fun _ _ _ _ _ q => neg_int q
end
noncomputable def scal : V → V → Bool
  | .non, .non => true | .non, .int _ => true | .int _, .non => true | .non, .bl _ => true | .bl _, .non => true | .non, .str _ => true | .str _, .non => true
  | .int _, .int _ => true | .bl _, .bl _ => true | .str _, .str _ => true | .byt _, .byt _ => true
  | .int _, .str _ => true | .str _, .int _ => true | .bl _, .str _ => true | .str _, .bl _ => true
  | _, _ => false
noncomputable def rEq : R2 := fun x y H Q => scal x y = true ∧ Q (.bl (decide (x = y))) H
noncomputable def rNe : R2 := fun x y H Q => scal x y = true ∧ Q (.bl (!decide (x = y))) H

theorem dec_int {i j : Int} : decide (V.int i = V.int j) = (i == j) := by
  rw [Bool.eq_iff_iff]
  simp
theorem dec_bl {i j : Bool} : decide (V.bl i = V.bl j) = (i == j) := by
  rw [Bool.eq_iff_iff]
  simp
theorem dec_str {i j : Str} : decide (V.str i = V.str j) = (i == j) := by
  rw [Bool.eq_iff_iff]
  simp
theorem dec_byt {i j : Array UInt8} : decide (V.byt i = V.byt j) = (i.toList == j.toList) := by
  rw [Bool.eq_iff_iff]
  cases i
  cases j
  simp

section
variable {X : Cx} {a b c : Expr} {ta tb tc : TE} {pos : Pos}
theorem fin_bl {pins : List (Addr × Obj)} {σ : St} {H : Hp} {s : Shared} {Q : VK} {k k' : Bool} (I : Inv X pins σ H s) (q : Q (.bl k) H) (e : k = k') : EP X pins σ Q (.bool k') s := by
  subst e
  exact ⟨.bl k, H, I, rfl, q⟩
theorem op_eq : OpR X (compareOp .Eq) rEq := by
  intro pins s σ H x y v u Q I rx ry h
  obtain ⟨hs, q⟩ := h
  cases x with
  | non =>
    cases rx
    cases y with
    | non => cases ry; exact PySem.EqNone.eq_none_none (fin_bl I q (by simp))
    | bl j => cases ry; exact PySem.EqNone.eq_none_bool (fin_bl I q (by simp))
    | int j => obtain ⟨t', rfl⟩ := ry; exact PySem.EqNone.eq_none_int (fin_bl I q (by simp))
    | str j => obtain ⟨t', rfl⟩ := ry; exact PySem.EqNone.eq_none_str (fin_bl I q (by simp))
    | _ => exact absurd (show false = true from hs) Bool.false_ne_true
  | bl i =>
    cases rx
    cases y with
    | non => cases ry; exact PySem.EqNone.eq_bool_none (fin_bl I q (by simp))
    | bl j => cases ry; exact eq_bool (fin_bl I q dec_bl)
    | str j => obtain ⟨t', rfl⟩ := ry; exact PySem.EqMixed.eq_bool_str (fin_bl I q (by simp))
    | _ => exact absurd (show false = true from hs) Bool.false_ne_true
  | int i =>
    obtain ⟨t, rfl⟩ := rx
    cases y with
    | non => cases ry; exact PySem.EqNone.eq_int_none (fin_bl I q (by simp))
    | int j => obtain ⟨t', rfl⟩ := ry; exact eq_int (fin_bl I q dec_int)
    | str j => obtain ⟨t', rfl⟩ := ry; exact PySem.EqMixed.eq_int_str (fin_bl I q (by simp))
    | _ => exact absurd (show false = true from hs) Bool.false_ne_true
  | str i =>
    obtain ⟨t, rfl⟩ := rx
    cases y with
    | non => cases ry; exact PySem.EqNone.eq_str_none (fin_bl I q (by simp))
    | bl j => cases ry; exact PySem.EqMixed.eq_str_bool (fin_bl I q (by simp))
    | int j => obtain ⟨t', rfl⟩ := ry; exact PySem.EqMixed.eq_str_int (fin_bl I q (by simp))
    | str j => obtain ⟨t', rfl⟩ := ry; exact eq_str (fin_bl I q dec_str)
    | _ => exact absurd (show false = true from hs) Bool.false_ne_true
  | byt i =>
    obtain ⟨t, rfl⟩ := rx
    cases y with
    | byt j => obtain ⟨t', rfl⟩ := ry; exact PySem.W.eq_bytes (fin_bl I q dec_byt)
    | _ => exact absurd (show false = true from hs) Bool.false_ne_true
  | _ => cases y <;> exact absurd (show false = true from hs) Bool.false_ne_true
theorem op_ne : OpR X (compareOp .NotEq) rNe := by
  intro pins s σ H x y v u Q I rx ry h
  obtain ⟨hs, q⟩ := h
  cases x with
  | non =>
    cases rx
    cases y with
    | non => cases ry; exact PySem.EqNone.ne_none_none (fin_bl I q (by simp))
    | bl j => cases ry; exact PySem.EqNone.ne_none_bool (fin_bl I q (by simp))
    | int j => obtain ⟨t', rfl⟩ := ry; exact PySem.EqNone.ne_none_int (fin_bl I q (by simp))
    | str j => obtain ⟨t', rfl⟩ := ry; exact PySem.EqNone.ne_none_str (fin_bl I q (by simp))
    | _ => exact absurd (show false = true from hs) Bool.false_ne_true
  | bl i =>
    cases rx
    cases y with
    | non => cases ry; exact PySem.EqNone.ne_bool_none (fin_bl I q (by simp))
    | bl j => cases ry; exact ne_bool (fin_bl I q (congrArg not dec_bl))
    | str j => obtain ⟨t', rfl⟩ := ry; exact PySem.EqMixed.ne_bool_str (fin_bl I q (by simp))
    | _ => exact absurd (show false = true from hs) Bool.false_ne_true
  | int i =>
    obtain ⟨t, rfl⟩ := rx
    cases y with
    | non => cases ry; exact PySem.EqNone.ne_int_none (fin_bl I q (by simp))
    | int j => obtain ⟨t', rfl⟩ := ry; exact ne_int (fin_bl I q (congrArg not dec_int))
    | str j => obtain ⟨t', rfl⟩ := ry; exact PySem.EqMixed.ne_int_str (fin_bl I q (by simp))
    | _ => exact absurd (show false = true from hs) Bool.false_ne_true
  | str i =>
    obtain ⟨t, rfl⟩ := rx
    cases y with
    | non => cases ry; exact PySem.EqNone.ne_str_none (fin_bl I q (by simp))
    | bl j => cases ry; exact PySem.EqMixed.ne_str_bool (fin_bl I q (by simp))
    | int j => obtain ⟨t', rfl⟩ := ry; exact PySem.EqMixed.ne_str_int (fin_bl I q (by simp))
    | str j => obtain ⟨t', rfl⟩ := ry; exact ne_str (fin_bl I q (congrArg not dec_str))
    | _ => exact absurd (show false = true from hs) Bool.false_ne_true
  | byt i =>
    obtain ⟨t, rfl⟩ := rx
    cases y with
    | byt j => obtain ⟨t', rfl⟩ := ry; exact PySem.W.ne_bytes (fin_bl I q (congrArg not dec_byt))
    | _ => exact absurd (show false = true from hs) Bool.false_ne_true
  | _ => cases y <;> exact absurd (show false = true from hs) Bool.false_ne_true

theorem op_lt : OpR X (compareOp .Lt) (rI0 fun i j => .bl (decide (i < j))) := opB0 fun _ _ _ _ _ _ _ q => lt_int q
theorem op_le : OpR X (compareOp .LtE) (rI0 fun i j => .bl (decide (i ≤ j))) := opB0 fun _ _ _ _ _ _ _ q => le_int q
theorem op_ge : OpR X (compareOp .GtE) (rI0 fun i j => .bl (decide (j ≤ i))) := opB0 fun _ _ _ _ _ _ _ q => ge_int q
theorem op_isN : OpR X (compareOp .Is) (fun x y H Q => y = .non ∧ Q (.bl (decide (x = .non))) H) := by
  intro pins s σ H x y v u Q I rx ry h
  obtain ⟨rfl, q⟩ := h
  cases ry
  refine is_none_gen (fin_bl I q ?_)
  cases x <;> first
    | (cases rx; rfl)
    | (obtain ⟨t, rfl⟩ := rx; rfl)
theorem OpR.or {f : Value → Value → Sem Value} {r r' : R2} (h : OpR X f r) (h' : OpR X f r') : OpR X f (fun x y H Q => r x y H Q ∨ r' x y H Q) := by
  intro pins s σ H x y v u Q I rx ry q
  rcases q with q | q
  · exact h pins s σ H x y v u Q I rx ry q
  · exact h' pins s σ H x y v u Q I rx ry q

theorem nomark (b : Expr) {op : CmpOp} (h : op ≠ .In := by decide) (h2 : op ≠ .NotIn := by decide) : behindInMarks op b = false := by
  have e1 : (op == CmpOp.In) = false := by cases op <;> first | rfl | exact absurd rfl h
  have e2 : (op == CmpOp.NotIn) = false := by cases op <;> first | rfl | exact absurd rfl h2
  cases b <;> simp [behindInMarks, e1, e2]

theorem pe_cmpR {op : CmpOp} {r : R2} (ho : OpR X (compareOp op) r) (ha : PE X a ta) (hb : PE X b tb) (hm : behindInMarks op b = false) : PE X (.Compare a [op] [b] pos) (tOp r ta tb) := by
  intro pins s σ H Q I h
  exact wpAny_Compare1 (binT ha hb I h fun v u s2 x y H2 I2 rx ry q => ho pins s2 σ H2 x y v u Q I2 rx ry q) hm

noncomputable def tTest (t : TE) : TT := fun σ H Q => t σ H fun x H' => ∃ k, x = .bl k ∧ Q k H'
theorem pt_cmpR {op : CmpOp} {r : R2} (ho : OpR X (compareOp op) r) (ha : PE X a ta) (hb : PE X b tb) (hm : behindInMarks op b = false) : PT X (.Compare a [op] [b] pos) (tTest (tOp r ta tb)) := by
  intro pins s σ H Q I h
  refine wpAny_isTrue_Compare1 (thn (ha pins s σ H _ I h) fun v s1 ⟨x, H1, I1, r1, q1⟩ => thn (hb pins s1 σ H1 _ I1 q1) fun u s2 ⟨y, H2, I2, r2, q2⟩ =>
    thn (ho pins s2 σ H2 x y v u _ I2 r1 r2 q2) fun c s3 ⟨z, H3, I3, r3, k, e, q3⟩ => ?_) hm
  subst e
  cases r3
  exact wpAny_truthy_bool ⟨H3, I3, q3⟩

noncomputable def TruV (K : PySem.W.Frag) (x : V) (H : Hp) (k : Bool) : Prop :=
  match x with
  | .non => k = false
  | .bl b => k = b
  | .int i => k = (i != 0)
  | .str y => y.length ≤ sizeLine ∧ k = ((y.length : Int) != 0)
  | .byt y => y.size ≤ sizeLine ∧ k = ((y.size : Int) != 0)
  | .ref p => (∃ xs, SqL K H p xs ∧ k = !xs.isEmpty) ∨ (∃ xs, SqT K H p xs ∧ k = !xs.isEmpty) ∨ ∃ kvs, H p = some (.dK kvs) ∧ k = !kvs.isEmpty
  | _ => False
theorem isEmpty_kv {κ : Type} {kvs : List (κ × V)} {vs : List (κ × Value)} (r : KV kvs vs) : (!vs.isEmpty) = !kvs.isEmpty := by
  cases r <;> rfl
theorem isEmpty_of {xs : List V} {its : List Value} (r : Vals xs its) : (!its.toArray.isEmpty) = !xs.isEmpty := by
  cases r <;> simp
theorem line63 : (sizeLine : Nat) < 2 ^ 63 := by rw [sizeLine_eq]; decide
theorem tru_ok : TruR X (fun x H Q => ∃ k, TruV X.K x H k ∧ Q k H) := by
  intro pins s σ H x v Q I rx h
  obtain ⟨k, e, q⟩ := h
  have hl := line63
  have hs : sizeLine = 16777216 := sizeLine_eq
  cases x with
  | non =>
    cases rx
    have e' : k = false := e
    subst e'
    exact truthy_none ⟨H, I, q⟩
  | bl b =>
    cases rx
    have e' : k = b := e
    subst e'
    exact wpAny_truthy_bool ⟨H, I, q⟩
  | int i =>
    obtain ⟨t, rfl⟩ := rx
    have e' : k = (i != 0) := e
    subst e'
    exact PySem.P.truthy_int ⟨H, I, q⟩
  | str y =>
    obtain ⟨t, rfl⟩ := rx
    obtain ⟨hy, e'⟩ : y.length ≤ sizeLine ∧ k = ((y.length : Int) != 0) := e
    subst e'
    exact PySem.P.truthy_str (by omega) ⟨H, I.tok _, q⟩
  | byt y =>
    obtain ⟨t, rfl⟩ := rx
    obtain ⟨hy, e'⟩ : y.size ≤ sizeLine ∧ k = ((y.size : Int) != 0) := e
    subst e'
    exact PySem.W.truthy_bytes (by omega) ⟨H, I.tok _, q⟩
  | ref p =>
    cases rx
    have e' : (∃ xs, SqL X.K H p xs ∧ k = !xs.isEmpty) ∨ (∃ xs, SqT X.K H p xs ∧ k = !xs.isEmpty) ∨ ∃ kvs, H p = some (.dK kvs) ∧ k = !kvs.isEmpty := e
    rcases e' with ⟨xs, hx, e'⟩ | ⟨xs, hx, e'⟩ | ⟨kvs, hx, e'⟩
    · subst e'
      obtain ⟨its, r, pl, hz⟩ := I.list hx
      have hlen := r.length
      exact wpAny_truthy_list pl.isList (by simp only [List.size_toArray]; omega) ⟨H, I.tok _, by rw [isEmpty_of r]; exact q⟩
    · subst e'
      obtain ⟨its, r, pl, hz⟩ := I.tuple hx
      have hlen := r.length
      exact truthy_tuple pl (by simp only [List.size_toArray]; omega) ⟨H, I.tok _, by rw [isEmpty_of r]; exact q⟩
    · subst e'
      obtain ⟨hz, hS, vs, r, m⟩ : kvs.length ≤ sizeLine ∧ (p == sysModules) = false ∧ ∃ vs, KV kvs vs ∧ s.heap.DictOf (mixKind X.prog X.w) p vs := I.hok p _ hx
      have hlen : kvs.length = vs.length := Paired.length r
      exact wpAny_truthy_dict hS m (by omega) ⟨H, I.tok _, by rw [isEmpty_kv r]; exact q⟩
  | _ => exact (show False from e).elim

theorem pt_truth (ha : PE X a ta) (he : ∀ whole, isTrue a X.env whole = (do let v ← whole; standAt a.pos; holding [v] (truthy v))) :
    PT X a (fun σ H Q => ta σ H fun x H' => ∃ k, TruV X.K x H' k ∧ Q k H') := by
  intro pins s σ H Q I h
  exact isTrue_plain (thn (ha pins s σ H _ I h) fun v s1 ⟨x, H1, I1, r1, q1⟩ => tru_ok pins s1 σ H1 x v Q I1 r1 q1) (he _)


theorem op_add_str : OpR X (binaryOp .Add) (fun x y H Q => ∃ i j, x = .str i ∧ y = .str j ∧ i.length + j.length ≤ sizeLine ∧ Q (.str (i ++ j)) H) := by
  intro pins s σ H x y v u Q I rx ry h
  obtain ⟨i, j, rfl, rfl, hz, q⟩ := h
  obtain ⟨t, rfl⟩ := rx
  obtain ⟨t', rfl⟩ := ry
  exact add_str (fun t' tk => ⟨.str (i ++ j), H, I.tok _, ⟨_, rfl⟩, q⟩) hz
theorem vals1 {x : V} {us : List Value} (r : Vals [x] us) : ∃ u, us = [u] ∧ RelV x u := by
  cases r with
  | cons r1 r2 => cases r2; exact ⟨_, rfl, r1⟩
theorem vals2 {x y : V} {us : List Value} (r : Vals [x, y] us) : ∃ u w', us = [u, w'] ∧ RelV x u ∧ RelV y w' := by
  cases r with
  | cons r1 r2 =>
    cases r2 with
    | cons r3 r4 => cases r4; exact ⟨_, _, rfl, r1, r3⟩
end
end L2
namespace L2
open PySem PySem.Spec PyProof.Rows
structure ObjM (h : Heap) (x dx C : Addr) (mA : Str → Option Value) : Prop where
  obj : h.get? x = some (PySem.W.instObj C dx)
  ns : h.Ns1 dx mA
  ne : dx ≠ x

theorem lookIn_ns {h : Heap} {dx : Addr} {mA : Str → Option Value} (n : h.Ns1 dx mA) : ∃ od, h.get? dx = some od ∧ ∀ name, PySem.W.lookIn name od = some (mA name) := by
  obtain ⟨o, es, ep, ho, hd, hk, _, hm⟩ := n
  refine ⟨o, ho, fun name => ?_⟩
  have e := hm name
  unfold nsFind findBy at e
  rw [← Array.find?_toList] at e
  unfold PySem.W.lookIn
  rw [hd]
  dsimp only
  split
  · rename_i y q
    rw [q] at e
    exact congrArg some e
  · rename_i q
    rw [q] at e
    have a : es.toList.any (·.refKey) = false := by
      rw [List.any_eq_false]
      intro y hy
      obtain ⟨z, t, hkey⟩ := hk y (Array.mem_toList_iff.mp hy)
      simp [DictEntry.refKey, hkey]
    have a' : ¬ es.toList.any (·.refKey) = true := by rw [a]; exact Bool.false_ne_true
    rw [if_neg a']
    exact congrArg some e

theorem ObjM.look {h : Heap} {x dx C : Addr} {mA : Str → Option Value} (I : ObjM h x dx C mA) : ∃ od, PySem.W.InstAt h x (PySem.W.instObj C dx) C (some od) ∧ ∀ name, PySem.W.lookIn name od = some (mA name) :=
  let ⟨od, ho, hl⟩ := lookIn_ns I.ns
  ⟨od, ⟨I.obj, rfl, rfl, ho⟩, hl⟩

section
variable {prog : Program} {w : World} {A : Around} {E : Value → Shared → Prop} {s : Shared} {K : PySem.W.Frag} {x dx C f : Addr} {mA : Str → Option Value} {name : Str} {v : Value}
theorem get_map {expr : Bool} {Q : Value → Shared → Prop} (X : K.In s.heap) (I : ObjM s.heap x dx C mA) (hg : PySem.W.plainGet K C name = true) (hh : PySem.W.hasDictIn K C = true)
    (ha : PySem.W.findIn K (.ref C) name = some none) (hv : mA name = some v) (hv' : PySem.W.handedIn v = true) (h : Q v { s with toks := s.toks + 1 }) :
    wpAny (model prog w) A (getAttr (.ref x) name expr) Q E s := by
  obtain ⟨od, J, hl⟩ := I.look
  exact PySem.W.get_value X J (PySem.W.plainGet_of hg).1 (PySem.W.findObj_own hh ha rfl (by rw [hl, hv])) hv' h

theorem get_meth {pl : Sem Bool} {Q : Value × List Value → Shared → Prop} (X : K.In s.heap) (I : ObjM s.heap x dx C mA) (hg : PySem.W.plainGet K C name = true)
    (hf : PySem.W.findIn K (.ref C) name = some (some (.ref f))) (ht : PySem.W.isFn K (.ref f) = true) (hv : mA name = none) (h : Q (.ref f, [.ref x]) s) :
    wpAny (model prog w) A (getMethod (.ref x) name pl) Q E s := by
  obtain ⟨od, J, hl⟩ := I.look
  exact PySem.W.method_fn X J (PySem.W.plainGet_of hg).1 (PySem.W.plainGet_of hg).2 hf (beq_iff_eq.mp ht) (by show (PySem.W.lookIn name od).map (·.isSome) = some false; rw [hl, hv]; rfl) h

theorem set_map {ns : List Str} {Q : Unit → Shared → Prop} (X : K.In s.heap) (I : ObjM s.heap x dx C mA)
    (hs : PySem.W.findIn K (.ref C) "__setattr__" = some (some (.builtin "object.__setattr__"))) (hp : PySem.W.plainOver K C = true) (ht : PySem.W.takerIn K C name = some none) (hh : PySem.W.hasDictIn K C = true)
    (hw : PySem.Within mA ns) (hsz : ns.length ≤ sizeLine)
    (h : ∀ h', ObjM h' x dx C (fun y => if y = name then some v else mA y) → Heap.SameBut dx s.heap h' → Q () { s with heap := h', toks := s.toks + 2 }) :
    wpAny (model prog w) A (setAttr (.ref x) name v) Q E s := by
  obtain ⟨od, J, hl⟩ := I.look
  refine PySem.W.set_plain X J hs (PySem.W.osa_open (s := { s with toks := s.toks + 1 }) (r := none) X J hp ht fun b => ?_)
  obtain ⟨cd, hc, hd'⟩ := PySem.W.any_some hh
  have hx : s.heap.get? x = some ⟨.ref C, some dx, .plain, #[]⟩ := I.obj
  refine wpAny_bind (wpAny_pure (wpAny_bind (wpAny_bind (wpAny_loadPart hx (wpAny_bind (PySem.W.Looks.here (s := { s with toks := s.toks + 1 }) (PySem.W.looks_clsIn X hc) ?_))))))
  rw [hd']
  refine wpAny_pure (a := some dx) (wpAny_bind (wpAny_pure (wpAny_bind ?_)))
  refine wpAny_nsSet1 (s := { s with toks := s.toks + 1 }) I.ns fun h' hn2 hs2 => ?_
  obtain ⟨oD, esD, epD, hoD, hdD, hcD⟩ := hn2.count (PySem.Within.cons name v hw)
  refine wpAny_bind (wpAny_lookBehind hoD (by rw [hdD]; exact pastItsLine_dict (Nat.le_trans hcD (by rw [List.length_cons]; omega))) ?_)
  exact wpAny_pure (h _ ⟨(hs2.2 _ (Ne.symm I.ne)).trans I.obj, hn2, I.ne⟩ hs2)


theorem make_map {R : Result → Shared → Prop} {vs : List Value} {kw : List (Str × Value)} (X : K.In s.heap) (hm : PySem.W.makesIn K C = true)
    (hi : PySem.W.findIn K (.ref C) "__init__" = some (some (.ref f))) (hf : PySem.W.typeIn K (.ref f) = some (.type "function"))
    (h : codeAny (model prog w) (A.under (.builtin "type.__call__" ⟨.ref C :: vs, kw⟩)) (.call (.ref f) ⟨.ref (s.heap.objs.size + 1) :: vs, kw⟩) (PySem.W.InitBack (s.heap.objs.size + 1) R)
      { s with heap := (s.heap.push PySem.W.emptyDict).push (PySem.W.instObj C s.heap.objs.size) }) :
    codeAny (model prog w) A (.call (.ref C) ⟨vs, kw⟩) R s := by
  obtain ⟨hh, g, d, t, os⟩ := s
  exact PySem.W.make_core (PySem.W.makes_of X hm) (PySem.W.looks_findIn X hi) (fun self => PySem.W.bind_fn X self hf) (.inl rfl) h

end
noncomputable def putF (f : Str) (v : V) : List (Str × V) → List (Str × V)
  | [] => [(f, v)]
  | (g, x) :: r => if g = f then (g, v) :: r else (g, x) :: putF f v r
theorem lookup_putF (f g : Str) (v : V) : ∀ fs : List (Str × V), (putF f v fs).lookup g = if g = f then some v else fs.lookup g
  | [] => by
    show List.lookup g [(f, v)] = _
    by_cases h : g = f
    · have hb : (g == f) = true := beq_iff_eq.mpr h
      simp only [List.lookup, hb, if_pos h]
    · have hb : (g == f) = false := beq_eq_false_iff_ne.mpr h
      simp only [List.lookup, hb, if_neg h]
  | (k, x) :: r => by
    have ih := lookup_putF f g v r
    rw [show putF f v ((k, x) :: r) = (if k = f then (k, v) :: r else (k, x) :: putF f v r) from rfl]
    by_cases hk : k = f
    · rw [if_pos hk]
      by_cases h : g = k
      · have hb : (g == k) = true := beq_iff_eq.mpr h
        simp only [List.lookup, hb, if_pos (h.trans hk)]
      · have hb : (g == k) = false := beq_eq_false_iff_ne.mpr h
        simp only [List.lookup, hb, if_neg (fun e : g = f => h (e.trans hk.symm))]
    · rw [if_neg hk]
      by_cases h : g = k
      · have hb : (g == k) = true := beq_iff_eq.mpr h
        simp only [List.lookup, hb, if_neg (fun e : g = f => hk (h.symm.trans e))]
      · have hb : (g == k) = false := beq_eq_false_iff_ne.mpr h
        simp only [List.lookup, hb]
        exact ih
theorem keys_putF (f : Str) (v : V) : ∀ fs : List (Str × V), f ∈ (putF f v fs).map (·.1) ∧ ∀ g, g ∈ fs.map (·.1) → g ∈ (putF f v fs).map (·.1)
  | [] => ⟨by simp [putF], fun g h => by simp at h⟩
  | (k, x) :: r => by
    obtain ⟨i1, i2⟩ := keys_putF f v r
    rw [show putF f v ((k, x) :: r) = (if k = f then (k, v) :: r else (k, x) :: putF f v r) from rfl]
    by_cases hk : k = f
    · rw [if_pos hk]
      subst hk
      exact ⟨by simp, fun g h => by simpa using h⟩
    · rw [if_neg hk]
      refine ⟨?_, fun g h => ?_⟩
      · rw [List.map_cons]
        exact List.mem_cons_of_mem _ i1
      · rw [List.map_cons] at h ⊢
        rcases List.mem_cons.mp h with e | e
        · exact List.mem_cons.mpr (.inl e)
        · exact List.mem_cons_of_mem _ (i2 g e)
theorem length_putF (f : Str) (v : V) : ∀ fs : List (Str × V), (putF f v fs).length ≤ fs.length + 1
  | [] => by simp [putF]
  | (k, x) :: r => by
    have ih := length_putF f v r
    rw [show putF f v ((k, x) :: r) = (if k = f then (k, v) :: r else (k, x) :: putF f v r) from rfl]
    by_cases hk : k = f
    · rw [if_pos hk, List.length_cons, List.length_cons]; omega
    · rw [if_neg hk, List.length_cons, List.length_cons]; omega

theorem RelO.some_of {v : V} {o : Option Value} (r : RelO (some v) o) : ∃ u, o = some u ∧ RelV v u := by
  cases o with
  | none => exact (show False from r).elim
  | some u => exact ⟨u, rfl, r⟩
theorem RelO.none_of {o : Option Value} (r : RelO none o) : o = none := by
  cases o with
  | none => rfl
  | some u => exact (show False from r).elim
theorem handed_of {v : V} {u : Value} (r : RelV v u) : PySem.W.handedIn u = true := by
  cases v with
  | non => cases (show u = Value.none from r); rfl
  | bl b => cases (show u = Value.bool b from r); rfl
  | int i => obtain ⟨t, e⟩ := (show ∃ t, u = Value.int i t from r); cases e; rfl
  | str x => obtain ⟨t, e⟩ := (show ∃ t, u = Value.str x t from r); cases e; rfl
  | byt b => obtain ⟨t, e⟩ := (show ∃ t, u = Value.bytes b t from r); cases e; rfl
  | flt b => obtain ⟨t, e⟩ := (show ∃ t, u = Value.float b t from r); cases e; rfl
  | ref a => cases (show u = Value.ref a from r); rfl
  | ty n => cases (show u = Value.type n from r); rfl

section
variable {P : Program} {w : World} {H H' : Hp} {h h' : Heap} {a C dx : Addr} {fs fs' : List (Str × V)}
theorem ins_get (hok : HOk P w H h) (e : H a = some (.ins C dx fs)) : ∃ mA, ObjM h a dx C mA ∧ (∀ f, RelO (fs.lookup f) (mA f)) ∧ PySem.Within mA (fs.map (·.1)) ∧ fs.length ≤ 1000 ∧ H dx = some (.own a) := by
  obtain ⟨d, z, ne, ob, mA, n, r, q⟩ := (show ObjOk P w H h a (.ins C dx fs) from hok a _ e)
  exact ⟨mA, ⟨ob, n, ne⟩, r, q, z, d⟩
end
structure Cls (K : PySem.W.Frag) (C : Addr) : Prop where
  pg : PySem.W.plainGet K C Str.empty = true
  hd : PySem.W.hasDictIn K C = true
  po : PySem.W.plainOver K C = true
  sa : PySem.W.findIn K (.ref C) "__setattr__" = some (some (.builtin "object.__setattr__"))
theorem Cls.get {K : PySem.W.Frag} {C : Addr} (c : Cls K C) (f : Str) : PySem.W.plainGet K C f = true := c.pg

noncomputable def NoAttr (K : PySem.W.Frag) (C : Addr) (f : Str) : Prop := PySem.W.findIn K (.ref C) f = some none
theorem NoAttr.taker {K : PySem.W.Frag} {C : Addr} {f : Str} (n : NoAttr K C f) : PySem.W.takerIn K C f = some none := by
  unfold PySem.W.takerIn
  rw [show PySem.W.findIn K (.ref C) f = some none from n]
  rfl

structure Meth (K : PySem.W.Frag) (C : Addr) (m : Str) (f : Addr) : Prop where
  at_ : PySem.W.findIn K (.ref C) m = some (some (.ref f))
  fn : PySem.W.isFn K (.ref f) = true
  kp : PySem.W.keepIn K (.ref f) = true

section
variable {X : Cx} {pins : List (Addr × Obj)} {σ : St} {H : Hp} {s : Shared} {a C dx : Addr} {fs : List (Str × V)} {f : Str} {v : V} {A : Around} {E : Value → Shared → Prop}
theorem getattr_ok {b : Bool} {Q : Value → Shared → Prop} (I : Inv X pins σ H s) (e : H a = some (.ins C dx fs)) (c : Cls X.K C) (n : NoAttr X.K C f) (l : fs.lookup f = some v)
    (h : ∀ u s', Inv X pins σ H s' → RelV v u → Q u s') : wpAny (model X.prog X.w) A (getAttr (.ref a) f b) Q E s := by
  obtain ⟨mA, O, r, _, _, _⟩ := ins_get I.hok e
  obtain ⟨u, hu, ru⟩ := RelO.some_of (v := v) (o := mA f) (by rw [← l]; exact r f)
  exact get_map I.kIn O (c.get f) c.hd n hu (handed_of ru) (h u _ (I.tok _) ru)

theorem getmeth_ok {m : Str} {g : Addr} {pl : Sem Bool} {Q : Value × List Value → Shared → Prop} (I : Inv X pins σ H s) (e : H a = some (.ins C dx fs)) (c : Cls X.K C) (k : Meth X.K C m g) (l : fs.lookup m = none)
    (h : Q (.ref g, [.ref a]) s) : wpAny (model X.prog X.w) A (getMethod (.ref a) m pl) Q E s := by
  obtain ⟨mA, O, r, _, _, _⟩ := ins_get I.hok e
  have hn : mA m = none := RelO.none_of (by rw [← l]; exact r m)
  exact get_meth I.kIn O (c.get m) k.at_ k.fn hn h

theorem setattr_ok {y : V} {u : Value} {Q : Unit → Shared → Prop} (I : Inv X pins σ H s) (e : H a = some (.ins C dx fs)) (c : Cls X.K C) (n : NoAttr X.K C f) (hl : fs.length < 1000) (ry : RelV y u)
    (h : ∀ s', Inv X pins σ (upd H a (.ins C dx (putF f y fs))) s' → Q () s') : wpAny (model X.prog X.w) A (setAttr (.ref a) f u) Q E s := by
  obtain ⟨mA, O, r, wi, _, ho⟩ := ins_get I.hok e
  have hz : (fs.map (·.1)).length ≤ sizeLine := by rw [List.length_map, sizeLine_eq]; omega
  refine set_map I.kIn O c.sa c.po n.taker c.hd wi hz fun h' O' sb => h _ ?_
  have hd : ∃ o, h'.get? dx = some o := let ⟨o, _, _, e', _⟩ := O'.ns; ⟨o, e'⟩
  refine I.write (x := a) (e := dx) (by rw [e]; exact True.intro) (.inr ho) (fun b q hb z => (sb.2 b hb).trans z) hd ?_
  refine ⟨by rw [upd_ne O.ne]; exact ho, ?_, O.ne, O'.obj, _, O'.ns, fun g => ?_, fun g hg => ?_⟩
  · have := length_putF f y fs; omega
  · show RelO ((putF f y fs).lookup g) (if g = f then some u else mA g)
    rw [lookup_putF]
    by_cases q : g = f
    · rw [if_pos q, if_pos q]; exact ry
    · rw [if_neg q, if_neg q]; exact r g
  · by_cases q : g = f
    · rw [q]; exact (keys_putF f y fs).1
    · refine (keys_putF f y fs).2 g (wi g fun z => hg ?_)
      show (if g = f then some u else mA g) = none
      rw [if_neg q]; exact z


theorem Inv.made (I : Inv X pins σ H s) : Inv X pins σ (upd (upd H s.heap.objs.size (.own (s.heap.objs.size + 1))) (s.heap.objs.size + 1) (.ins C s.heap.objs.size []))
    { s with heap := (s.heap.push PySem.W.emptyDict).push (PySem.W.instObj C s.heap.objs.size) } := by
  have e1 : (s.heap.push PySem.W.emptyDict).get? s.heap.objs.size = some PySem.W.emptyDict := Heap.get?_push_size s.heap rfl
  have e2 : ((s.heap.push PySem.W.emptyDict).push (PySem.W.instObj C s.heap.objs.size)).get? (s.heap.objs.size + 1) = some (PySem.W.instObj C s.heap.objs.size) := by
    have := Heap.get?_push_size (s.heap.push PySem.W.emptyDict) (o := PySem.W.instObj C s.heap.objs.size) rfl
    rwa [Heap.size_push] at this
  have e3 : (s.heap.push PySem.W.emptyDict).Ns s.heap.objs.size (fun _ => none) := ⟨PySem.W.emptyDict, #[], _, e1, rfl, (fun e he => absurd he (by simp)), fun _ => rfl⟩
  have I1 := I.laid (a := s.heap.objs.size) (o := .own (s.heap.objs.size + 1)) (h' := s.heap.push PySem.W.emptyDict) (t' := s.toks) (fun b u q => Heap.get?_push_of_some _ q) (Nat.le_refl _) ⟨_, e1⟩
  refine I1.laid (a := s.heap.objs.size + 1) (o := .ins C s.heap.objs.size []) (t' := s.toks) (fun b u q => Heap.get?_push_of_some _ q) (Nat.le_of_eq (Heap.size_push _ _)) ?_
  have ne : s.heap.objs.size ≠ s.heap.objs.size + 1 := Nat.ne_of_lt (Nat.lt_succ_self _)
  refine ⟨by rw [upd_ne ne, upd_same], Nat.zero_le _, ne, e2, fun _ => none, (Heap.Ns1.of_empty e3).at fun o q => Heap.get?_push_of_some _ q, fun _ => True.intro, fun y hy => absurd rfl hy⟩


theorem attr_of {prog : Program} {w : World} {env : Env} {e : Expr} {f : Str} {pos : Pos} {s : Shared} {Q : Value → Shared → Prop} (hb : attributeBase e f env (eval e env) = eval e env)
    (h : wpAny (model prog w) A (eval e env) (fun o s₁ => wpAny (model prog w) A (getAttr o f true) Q E s₁) E s) : wpAny (model prog w) A (eval (.Attribute e f pos) env) Q E s :=
  Attribute_any_ h (by rw [arm_eval_Attribute, hb])
end
noncomputable def tFld (K : PySem.W.Frag) (ta : TE) (f : Str) : TE := fun σ H Q => ta σ H fun x H1 => ∃ a C dx fs v, x = .ref a ∧ H1 a = some (.ins C dx fs) ∧ Cls K C ∧ NoAttr K C f ∧ fs.lookup f = some v ∧ Q v H1

noncomputable def sFld (K : PySem.W.Frag) (ta tv : TE) (f : Str) : TS := fun D σ H => tv σ H fun y H1 => ta σ H1 fun x H2 => ∃ a C dx fs, x = .ref a ∧ H2 a = some (.ins C dx fs) ∧ Cls K C ∧ NoAttr K C f ∧ fs.length < 1000 ∧
  D.nx σ (upd H2 a (.ins C dx (putF f y fs)))

section
variable {X : Cx} {o e value : Expr} {f : Str} {pos pos' tpos : Pos} {ta tv : TE}
theorem pe_fld (he : PE X e ta) (hb : attributeBase e f X.env (eval e X.env) = eval e X.env) : PE X (.Attribute e f pos) (tFld X.K ta f) := by
  intro pins s σ H Q I h
  refine attr_of hb (thn (he pins s σ H _ I h) fun u s1 ⟨x, H1, I1, rx, a, C, dx, fs, v, ex, ea, c, n, l, q⟩ => ?_)
  subst ex
  obtain rfl : u = Value.ref a := rx
  exact getattr_ok I1 ea c n l fun u' s2 I2 ru => ⟨v, H1, I2, ru, q⟩
theorem ps_fld (ha : PE X o ta) (hv : PE X value tv) (hs : swapsWith value (some (.Attribute o f pos')) pos.line X.env = pure false) : PS X (.Assign [.Attribute o f pos'] value pos) (sFld X.K ta tv f) := by
  intro pins s σ H D I h
  refine plainObj_wpAny_Assign_Attribute (thn (hv pins s σ H _ I h) fun u s1 ⟨y, H1, I1, ry, q⟩ => thn (ha pins s1 σ H1 _ I1 q) fun ov s2 ⟨x, H2, I2, rx, a, C, dx, fs, ex, ea, c, n, l, q2⟩ => ?_) hs
  subst ex
  obtain rfl : ov = Value.ref a := rx
  exact setattr_ok I2 ea c n l ry fun s3 I3 => ⟨σ, _, I3, q2⟩
end
section
variable {X : Cx} {pins : List (Addr × Obj)} {σ : St} {H : Hp} {s : Shared} {A : Around} {E : Value → Shared → Prop} {Q : Value → Shared → Prop} {c : Value} {b : Bool}
inductive TyOf (K : PySem.W.Frag) (H : Hp) : V → Value → Prop where
  | non : TyOf K H .non (.type "NoneType")
  | bl (x : Bool) : TyOf K H (.bl x) (.type "bool")
  | int (i : Int) : TyOf K H (.int i) (.type "int")
  | str (x : Str) : TyOf K H (.str x) (.type "str")
  | flt (x : UInt64) : TyOf K H (.flt x) (.type "float")
  | lst {a : Addr} {xs : List V} (e : H a = some (.lst xs)) : TyOf K H (.ref a) (.type "list")
  | frz {a : Addr} {o : Obj} {xs : List V} (e : H a = some (.frz o (.lst xs))) : TyOf K H (.ref a) (.type "list")
  | tup {a : Addr} {xs : List V} (e : H a = some (.tup xs)) : TyOf K H (.ref a) (.type "tuple")
  | dK {a : Addr} {kvs : List (Key × V)} (e : H a = some (.dK kvs)) : TyOf K H (.ref a) (.type "dict")
  | dT {a : Addr} {kvs : List (List Key × V)} (e : H a = some (.dT kvs)) : TyOf K H (.ref a) (.type "dict")
  | ins {a C dx : Addr} {fs : List (Str × V)} (e : H a = some (.ins C dx fs)) (cl : Cls K C) (ha : PySem.W.findIn K (.ref C) "__class__" = some (some (.builtin "object.__class__")))
      (hn : PySem.W.specialIn K (.builtin "object.__class__") "__get__" = some (some (.builtin "getset_descriptor.__get__"))) (htk : PySem.W.takesIn K (.builtin "object.__class__") = some true)
      (hm : PySem.W.mroIn K C (.type "object") = some true) : TyOf K H (.ref a) (.ref C)

theorem isinst_ok {x : V} {u t : Value} (I : Inv X pins σ H s) (rx : RelV x u) (ty : TyOf X.K H x t) (e : PySem.W.kitOne X.K t c = some b) (h : ∀ tk, Q (.bool b) { s with toks := tk }) :
    wpAny (model X.prog X.w) A (call (.builtin "isinstance") [u, c]) Q E s := by
  cases ty with
  | non => cases (show u = Value.none from rx); exact PySem.W.kia_one PySem.W.kitx_none I.kIn True.intro e (fun z => nomatch z) h
  | bl y => cases (show u = Value.bool y from rx); exact PySem.W.kia_one PySem.W.kitx_bool I.kIn True.intro e (fun z => nomatch z) h
  | int i => obtain ⟨t, q⟩ := (show ∃ t, u = Value.int i t from rx); cases q; exact PySem.W.kia_one PySem.W.kitx_int I.kIn True.intro e (fun z => nomatch z) h
  | str y => obtain ⟨t, q⟩ := (show ∃ t, u = Value.str y t from rx); cases q; exact PySem.W.kia_one PySem.W.kitx_str I.kIn True.intro e (fun z => nomatch z) h
  | flt y => obtain ⟨t, q⟩ := (show ∃ t, u = Value.float y t from rx); cases q; exact PySem.W.kia_one PySem.W.kitx_float I.kIn True.intro e (fun z => nomatch z) h
  | @lst a xs ea =>
    cases (show u = Value.ref a from rx)
    obtain ⟨_, _, n, _, h1⟩ := (show ObjOk X.prog X.w H s.heap a (.lst xs) from I.hok a _ ea)
    exact PySem.W.kia_one PySem.W.kitx_list I.kIn ⟨_, h1, rfl⟩ e (fun z => nomatch z) h
  | @frz a ob xs ea =>
    cases (show u = Value.ref a from rx)
    obtain ⟨_, _, _, n, _, h1⟩ := (show ObjOk X.prog X.w H s.heap a (.frz ob (.lst xs)) from I.hok a _ ea)
    exact PySem.W.kia_one PySem.W.kitx_list I.kIn ⟨_, h1, rfl⟩ e (fun z => nomatch z) h
  | @tup a xs ea =>
    cases (show u = Value.ref a from rx)
    obtain ⟨_, _, _, p⟩ := (show ObjOk X.prog X.w H s.heap a (.tup xs) from I.hok a _ ea)
    obtain ⟨o, h1, h2, _⟩ := p
    exact PySem.W.kia_one PySem.W.kitx_tuple I.kIn ⟨o, h1, h2⟩ e (fun z => nomatch z) h
  | @dK a kvs ea =>
    cases (show u = Value.ref a from rx)
    obtain ⟨_, _, vs, _, p⟩ := (show ObjOk X.prog X.w H s.heap a (.dK kvs) from I.hok a _ ea)
    obtain ⟨o, es, ep, h1, h2, _⟩ := p
    exact PySem.W.kia_one PySem.W.kitx_dict I.kIn ⟨o, h1, h2.1⟩ e (fun z => nomatch z) h
  | @dT a kvs ea =>
    cases (show u = Value.ref a from rx)
    obtain ⟨_, _, xs, _, o, es, ep, h1, h2, _⟩ := (show ObjOk X.prog X.w H s.heap a (.dT kvs) from I.hok a _ ea)
    exact PySem.W.kia_one PySem.W.kitx_dict I.kIn ⟨o, h1, h2.1⟩ e (fun z => nomatch z) h
  | @ins a C dx fs ea cl ha hn htk hm =>
    cases (show u = Value.ref a from rx)
    obtain ⟨mA, O, _⟩ := ins_get I.hok ea
    obtain ⟨od, J, _⟩ := O.look
    exact PySem.W.kia_one (PySem.W.kitx_own (cl.get _) cl.hd ha hn htk hm) I.kIn J e (fun z => nomatch z) h
end
end L2
namespace L2
open PySem PySem.Spec PyProof.Rows
structure Room (k : Nat) (A : Around) : Prop where
  hd : A.handled = none
  dp : A.depth + 3 * k + 5 < recursionLimit
  un : A.units + 16 * k + 200 < cLine
theorem Room.mono {j k : Nat} {A : Around} (r : Room k A) (h : j ≤ k) : Room j A := ⟨r.hd, by have := r.dp; omega, by have := r.un; omega⟩
theorem Room.deeper {k : Nat} {A : Around} (r : Room (k + 1) A) (env : Env) : Room k (A.deeper env) :=
  ⟨r.hd, by have := r.dp; show A.depth + 1 + 3 * k + 5 < _; omega, by have := r.un; show A.units + 3 + 16 * k + 200 < _; omega⟩
theorem Room.in1 {k : Nat} {A : Around} (r : Room (k + 1) A) : Room k A.in1 :=
  ⟨r.hd, by have := r.dp; show A.depth + 3 * k + 5 < _; omega, by have := r.un; show A.units + 1 + 16 * k + 200 < _; omega⟩
theorem make_depth {A : Around} {C : Addr} {us : List Value} {kw : List (Str × Value)} : (A.under (.builtin "type.__call__" ⟨.ref C :: us, kw⟩)).depth = A.depth + 1 := by
  first | rfl | simp [Around.under, Code.weight, Code.isCreation, Code.isGuard, Code.isCaller, Code.frames, Code.isFrame, guardIds]
theorem make_units {A : Around} {C : Addr} {us : List Value} {kw : List (Str × Value)} : (A.under (.builtin "type.__call__" ⟨.ref C :: us, kw⟩)).units = A.units + 1 := by
  first | rfl | simp [Around.under, Code.cUnits, Code.frames, Code.isFrame]
theorem Room.make {k : Nat} {A : Around} (r : Room (k + 1) A) (C : Addr) (us : List Value) (kw : List (Str × Value)) : Room k (A.under (.builtin "type.__call__" ⟨.ref C :: us, kw⟩)) :=
  ⟨r.hd, by have := r.dp; rw [make_depth]; omega, by have := r.un; rw [make_units]; omega⟩
theorem Room.depth {k : Nat} {A : Around} (r : Room k A) : A.depth < recursionLimit := by have := r.dp; omega
theorem Room.units {k : Nat} {A : Around} (r : Room k A) : A.units + 64 < cLine := by have := r.un; omega
noncomputable def tNil : TA := fun _ H Q => Q [] H
noncomputable def tCons (ta : TE) (tr : TA) : TA := fun σ H Q => ta σ H fun x H1 => tr σ H1 fun xs H2 => Q (x :: xs) H2
section
variable {X : Cx} {e : Expr} {es : List Expr} {te : TE} {t : TA} {pos : Pos}
theorem pa_nil : PA X [] tNil := fun _ _ _ _ H Q I h => Calls.spliced_nil ⟨[], H, I, .nil, h⟩
theorem pa_cons (ha : PE X e te) (hr : PA X es t) (hs : starEach (e :: es) X.env = (false, eval e X.env) :: starEach es X.env := by rfl) : PA X (e :: es) (tCons te t) := by
  intro pos pins s σ H Q I h
  rw [hs]
  show wpAny _ _ (spliced ((false, eval e X.env) :: backTo pos (starEach es X.env))) _ _ s
  refine Calls.spliced_cons (thn (ha pins s σ H _ I h) fun u s1 ⟨x, H1, I1, r1, q1⟩ => ?_)
  exact thn (hr pos pins s1 σ H1 _ I1 q1) fun us s2 ⟨xs, H2, I2, r2, q2⟩ => ⟨x :: xs, H2, I2, .cons r1 r2, q2⟩


noncomputable def tTup (t : TA) : TE := fun σ H Q => t σ H fun xs H1 => xs.length ≤ sizeLine ∧ ∀ p, H1 p = none → Q (.ref p) (upd H1 p (.tup xs))
noncomputable def tLst (t : TA) : TE := fun σ H Q => t σ H fun xs H1 => xs.length ≤ sizeLine ∧ ∀ p, H1 p = none → Q (.ref p) (upd H1 p (.lst xs))
theorem pe_tup {x1} (h : PA X es t) : PE X (.Tuple es x1 pos) (tTup t) := by
  intro pins s σ H Q I hq
  refine wpAny_Tuple_spliced (thn (h pos pins s σ H _ I hq) fun us s1 ⟨xs, H1, I1, r, z, q⟩ => ⟨by rw [← r.length]; exact z, ?_⟩)
  have hf : H1 s1.heap.objs.size = none := I1.hok.fresh (Nat.le_refl _)
  refine ⟨.ref s1.heap.objs.size, upd H1 s1.heap.objs.size (.tup xs), I1.laid (t' := s1.toks) (fun b u e => Heap.get?_push_of_some _ e) (Nat.le_refl _) ?_, rfl, q _ hf⟩
  exact ⟨z, us, r, ⟨_, Heap.get?_push_size _ rfl, rfl, _, rfl⟩⟩
theorem pe_lst (h : PA X es t) : PE X (.List es pos) (tLst t) := by
  intro pins s σ H Q I hq
  refine wpAny_List_spliced (thn (h pos pins s σ H _ I hq) fun us s1 ⟨xs, H1, I1, r, z, q⟩ => ⟨by rw [← r.length]; exact z, ?_⟩)
  have hf : H1 s1.heap.objs.size = none := I1.hok.fresh (Nat.le_refl _)
  refine ⟨.ref s1.heap.objs.size, upd H1 s1.heap.objs.size (.lst xs), I1.laid (t' := s1.toks) (fun b u e => Heap.get?_push_of_some _ e) (Nat.le_refl _) ?_, rfl, q _ hf⟩
  exact ⟨z, us, 0, r, Heap.get?_push_size _ rfl⟩
end
noncomputable abbrev Sp := List V → Hp → VK → XK → Prop

noncomputable abbrev CXT := List Env → Hp → Shared → XK → Value → Shared → Prop


structure Env0 (P : Program) (w : World) (K : PySem.W.Frag) (mg : Str → Option Value) (base : Heap) (A : Around) (outer : List Env) (s : Shared) (H : Hp) : Prop where
  frames : A.frames = some outer
  mod : Mod K mg base
  bs : ∀ b o, base.get? b = some o → s.heap.get? b = some o ∧ H b = none
  bsz : base.objs.size ≤ s.heap.objs.size
  funs : s.heap.FunFrames base outer
  frf : ∀ b ∈ frs outer, H b = none
  hok : HOk P w H s.heap
  bare : AllBare s.gens

noncomputable def CE (outer : List Env) (P : Program) (w : World) (H : Hp) (s : Shared) (Q : VK) (u : Value) (s' : Shared) : Prop :=
  ∃ v H', s'.os = s.os ∧ AllBare s'.gens ∧ Un (frs outer) [] H H' s.heap s'.heap ∧ HOk P w H' s'.heap ∧ RelV v u ∧ Q v H'
noncomputable def CR (CX : CXT) (outer : List Env) (P : Program) (w : World) (H : Hp) (s : Shared) (Q : VK) (E : XK) (r : Result) (s' : Shared) : Prop :=
  match r with
  | .ok (.ret u) => CE outer P w H s Q u s'
  | .ok _ => False
  | .error e => CX outer H s E e s'
structure FnOk (P : Program) (w : World) (K : PySem.W.Frag) (mg : Str → Option Value) (base : Heap) (CX : CXT) (k : Nat) (f : Addr) (fd : FuncData) (ps : List Str) (sp : Sp) : Prop where
  len : ∀ vs H Q E, sp vs H Q E → vs.length = ps.length
  run : ∀ (A : Around) (outer : List Env) (s : Shared) (H : Hp) (args : Args) (us : List Value) (vs : List V) (Q : VK) (E : XK), Room k A → Env0 P w K mg base A outer s H → BindsTo s fd args (ps.zip us) → Vals vs us → sp vs H Q E →
    codeAny (model P w) A (.call (.ref f) args) (CR CX outer P w H s Q E) s
theorem FnOk.mono {P : Program} {w : World} {K : PySem.W.Frag} {mg : Str → Option Value} {base : Heap} {CX : CXT} {j k : Nat} {f : Addr} {fd : FuncData} {ps : List Str} {sp : Sp} (F : FnOk P w K mg base CX j f fd ps sp) (h : j ≤ k) :
    FnOk P w K mg base CX k f fd ps sp := ⟨F.len, fun A outer s H args us vs Q E hr => F.run A outer s H args us vs Q E (hr.mono h)⟩

theorem FnOk.imp {P : Program} {w : World} {K : PySem.W.Frag} {mg : Str → Option Value} {base : Heap} {CX : CXT} {k : Nat} {f : Addr} {fd : FuncData} {ps : List Str} {sp sp' : Sp} (F : FnOk P w K mg base CX k f fd ps sp)
    (h : ∀ vs H Q E, sp' vs H Q E → sp vs H Q E) : FnOk P w K mg base CX k f fd ps sp' :=
  ⟨fun vs H Q E q => F.len vs H Q E (h _ _ _ _ q), fun A outer s H args us vs Q E hr he hb hv hs => F.run A outer s H args us vs Q E hr he hb hv (h _ _ _ _ hs)⟩

theorem Env0.make {P : Program} {w : World} {K : PySem.W.Frag} {mg : Str → Option Value} {base : Heap} {A : Around} {outer : List Env} {s : Shared} {H : Hp} (e : Env0 P w K mg base A outer s H) (C : Addr) (us : List Value) (kw : List (Str × Value)) :
    Env0 P w K mg base (A.under (.builtin "type.__call__" ⟨.ref C :: us, kw⟩)) outer s H := ⟨by first | exact e.frames | (simpa [Around.under, Code.envs, Code.isFrame, pushEnvs] using e.frames), e.mod, e.bs, e.bsz, e.funs, e.frf, e.hok, e.bare⟩
theorem Env0.in1 {P : Program} {w : World} {K : PySem.W.Frag} {mg : Str → Option Value} {base : Heap} {A : Around} {outer : List Env} {s : Shared} {H : Hp} (e : Env0 P w K mg base A outer s H) :
    Env0 P w K mg base A.in1 outer s H := ⟨e.frames, e.mod, e.bs, e.bsz, e.funs, e.frf, e.hok, e.bare⟩

section
variable {X : Cx} {pins : List (Addr × Obj)} {σ : St} {H : Hp} {s s' : Shared}
theorem Inv.env0 (I : Inv X pins σ H s) : Env0 X.prog X.w X.K X.mg X.base X.A X.stack s H :=
  ⟨I.ok.frames, I.ok.mod, I.bs, Nat.le_trans I.ok.bsz I.sz, I.stack, I.stkFree, I.hok, I.bare⟩

theorem Inv.after {Q : VK} {u : Value} (I : Inv X pins σ H s) (h : CE X.stack X.prog X.w H s Q u s') : EP X pins σ Q u s' := by
  obtain ⟨v, H', os, bare, un, hok, r, q⟩ := h
  obtain ⟨hh, g, d, t, os'⟩ := s'
  obtain rfl : os' = s.os := os
  exact ⟨v, H', I.call (h' := hh) (g' := g) (d' := d) (t' := t) (ch := []) un hok bare (fun b z => absurd z (by simp)), r, q⟩
end
noncomputable def tCall (sp : Sp) (dvs : List V) (E : XK) (t : TA) : TE := fun σ H Q => t σ H fun vs H1 => sp (vs ++ dvs) H1 Q E

noncomputable def tMeth (C : Addr) (m : Str) (sp : Sp) (dvs : List V) (E : XK) (ta : TE) (t : TA) : TE := fun σ H Q => ta σ H fun x H1 => ∃ a dx fs, x = .ref a ∧ H1 a = some (.ins C dx fs) ∧ fs.lookup m = none ∧
  t σ H1 fun vs H2 => sp (x :: (vs ++ dvs)) H2 Q E

noncomputable def tMake (C : Addr) (sp : Sp) (dvs : List V) (E : XK) (t : TA) : TE := fun σ H Q => t σ H fun vs H1 => ∀ x dx, H1 x = none → H1 dx = none → dx ≠ x →
  sp (.ref x :: (vs ++ dvs)) (upd (upd H1 dx (.own x)) x (.ins C dx [])) (fun v H2 => v = .non ∧ Q (.ref x) H2) E


noncomputable def Binds (K : PySem.W.Frag) (fd : FuncData) (ps : List Str) (ds : List Value) : Prop :=
  ∀ (s : Shared) (us : List Value), K.In s.heap → (us ++ ds).length = ps.length → BindsTo s fd ⟨us, []⟩ (ps.zip (us ++ ds))

theorem Binds.all {K : PySem.W.Frag} {fd : FuncData} {ps : List Str} (h : ∀ us : List Value, us.length = ps.length → bindArgs fd ⟨us, []⟩ = pure (ps.zip us)) : Binds K fd ps [] := fun s us _ hl => by
  rw [List.append_nil] at hl ⊢
  exact .of_eq (h us hl)


noncomputable def Passes (CX : CXT) (X : Cx) (E : XK) : Prop := ∀ (pins : List (Addr × Obj)) (σ : St) (H : Hp) (s : Shared) (e : Value) (s' : Shared), Inv X pins σ H s → CX X.stack H s E e s' → X.xe e s'

section
variable {X : Cx} {CX : CXT} {k : Nat} {f C : Addr} {fd : FuncData} {ps : List Str} {sp : Sp} {dvs : List V} {ds : List Value} {E : XK} {x m : Str} {p pos apos : Pos} {e o : Expr} {es : List Expr} {ta : TE} {t : TA}
theorem run_fn {pins : List (Addr × Obj)} {σ : St} {H : Hp} {s : Shared} {Q : VK} {us : List Value} {vs : List V} (F : FnOk X.prog X.w X.K X.mg X.base CX k f fd ps sp) (hr : Room k X.A) (hb : Binds X.K fd ps ds) (hd : Vals dvs ds) (hx : Passes CX X E)
    (I : Inv X pins σ H s) (r : Vals vs us) (h : sp (vs ++ dvs) H Q E) : wpAny (model X.prog X.w) X.A (call (.ref f) us) (EP X pins σ Q) X.xe s := by
  have r2 : Vals (vs ++ dvs) (us ++ ds) := r.append hd
  have hl : (us ++ ds).length = ps.length := by rw [← r2.length]; exact F.len _ _ _ _ h
  refine wpAny_call (codeAny_mono (F.run X.A X.stack s H ⟨us, []⟩ (us ++ ds) (vs ++ dvs) Q E hr I.env0 (hb s us I.kIn hl) r2 h) fun r s' hq => ?_)
  cases r with
  | error e => exact hx pins σ H s e s' I hq
  | ok fl =>
    cases fl with
    | ret u => exact I.after hq
    | next => exact False.elim hq
    | brk => exact False.elim hq
    | cont => exact False.elim hq

theorem pe_call (F : FnOk X.prog X.w X.K X.mg X.base CX k f fd ps sp) (hr : Room k X.A) (hg : Gl X x) (hm : X.mg x = some (.ref f)) (hk : PySem.W.keepIn X.K (.ref f) = true) (hb : Binds X.K fd ps ds) (hd : Vals dvs ds) (hx : Passes CX X E)
    (ha : PA X (e :: es) t) (hdb : (x == ("__debug__" : Str)) = false := by decide) (he : starEach (e :: es) X.env = (false, eval e X.env) :: starEach es X.env := by rfl) (hpl : (backTo pos (starEach es X.env)).any (·.1) = false := by rfl) :
    PE X (.Call (.Name x p) (e :: es) [] pos) (tCall sp dvs E t) := by
  intro pins s σ H Q I h
  refine wpAny_Call_Name_kw (ld_glob I hg hm ?_ hdb)
  refine PySem.W.callWith_K (h₀ := X.base) I.ok.mod.kin hk (thn (ha pos pins s σ H _ I h) fun us s1 ⟨vs, H1, I1, r, q⟩ => ⟨I1.kIn, ?_⟩) he hpl
  exact run_fn F hr hb hd hx I1 r q
theorem pe_meth {pl : Sem Bool} (he : PE X o ta) (c : Cls X.K C) (hm : Meth X.K C m f) (F : FnOk X.prog X.w X.K X.mg X.base CX k f fd ps sp) (hr : Room k X.A) (hb : Binds X.K fd ps ds) (hd : Vals dvs ds) (hx : Passes CX X E) (ha : PA X (e :: es) t)
    (hst : starEach (e :: es) X.env = (false, eval e X.env) :: starEach es X.env := by rfl) (hpl : (backTo pos (starEach es X.env)).any (·.1) = false := by rfl)
    (ht : eval (.Call (.Attribute o m apos) (e :: es) [] pos) X.env = (do
      let ov ← eval o X.env
      standAt apos.atName
      let (f, first) ← holding [ov] (getMethod ov m pl)
      callWith pos f first (backTo pos (starEach (e :: es) X.env)) (backToKw pos (keywordEach [] X.env))) := by rfl) :
    PE X (.Call (.Attribute o m apos) (e :: es) [] pos) (tMeth C m sp dvs E ta t) := by
  intro pins s σ H Q I h
  refine PySem.W.methodCall_KW (pl := pl) (thn (he pins s σ H _ I h) fun u s1 ⟨x, H1, I1, rx, a, dx, fs, ex, ea, l, q⟩ => ?_) ht
  subst ex
  obtain rfl : u = Value.ref a := rx
  refine getmeth_ok I1 ea c hm l ?_
  refine PySem.W.callWith_K (first := [.ref a]) (h₀ := X.base) I.ok.mod.kin hm.kp (thn (ha pos pins s1 σ H1 _ I1 q) fun us s2 ⟨vs, H2, I2, r, q2⟩ => ⟨I2.kIn, ?_⟩) hst hpl
  exact run_fn (us := .ref a :: us) (vs := .ref a :: vs) F hr hb hd hx I2 (.cons rfl r) q2

theorem pe_meth0 {pl : Sem Bool} (he : PE X o ta) (c : Cls X.K C) (hm : Meth X.K C m f) (F : FnOk X.prog X.w X.K X.mg X.base CX k f fd ps sp) (hr : Room k X.A) (hb : Binds X.K fd ps ds) (hd : Vals dvs ds) (hx : Passes CX X E)
    (ht : eval (.Call (.Attribute o m apos) [] [] pos) X.env = (do
      let ov ← eval o X.env
      standAt apos.atName
      let (f, first) ← holding [ov] (getMethod ov m pl)
      callWith pos f first (backTo pos (starEach [] X.env)) (backToKw pos (keywordEach [] X.env))) := by rfl) :
    PE X (.Call (.Attribute o m apos) [] [] pos) (tMeth C m sp dvs E ta tNil) := by
  intro pins s σ H Q I h
  refine PySem.W.methodCall_KW (pl := pl) (thn (he pins s σ H _ I h) fun u s1 ⟨x, H1, I1, rx, a, dx, fs, ex, ea, l, q⟩ => ?_) ht
  subst ex
  obtain rfl : u = Value.ref a := rx
  refine getmeth_ok I1 ea c hm l ?_
  exact PySem.W.callWith_K0 (first := [.ref a]) I1.kIn hm.kp (run_fn (us := [.ref a]) (vs := [.ref a]) F hr hb hd hx I1 (.cons rfl .nil) q)


structure Mk (K : PySem.W.Frag) (C f : Addr) : Prop where
  makes : PySem.W.makesIn K C = true
  init : PySem.W.findIn K (.ref C) "__init__" = some (some (.ref f))
  fn : PySem.W.isFn K (.ref f) = true
  kp : PySem.W.keepIn K (.ref C) = true

theorem run_make {pins : List (Addr × Obj)} {σ : St} {H : Hp} {s : Shared} {Q : VK} {us : List Value} {vs : List V} (M : Mk X.K C f) (F : FnOk X.prog X.w X.K X.mg X.base CX k f fd ps sp) (hr : Room (k + 1) X.A) (hb : Binds X.K fd ps ds) (hd : Vals dvs ds)
    (hx : Passes CX X E) (I : Inv X pins σ H s) (r : Vals vs us)
    (h : ∀ x dx, H x = none → H dx = none → dx ≠ x → sp (.ref x :: (vs ++ dvs)) (upd (upd H dx (.own x)) x (.ins C dx [])) (fun v H2 => v = .non ∧ Q (.ref x) H2) E) :
    wpAny (model X.prog X.w) X.A (call (.ref C) us) (EP X pins σ Q) X.xe s := by
  have hq := h (s.heap.objs.size + 1) s.heap.objs.size (I.hok.fresh (Nat.le_succ _)) (I.hok.fresh (Nat.le_refl _)) (Nat.ne_of_lt (Nat.lt_succ_self _))
  have I2 := Inv.made (C := C) I
  have r2 : Vals (V.ref (s.heap.objs.size + 1) :: (vs ++ dvs)) (Value.ref (s.heap.objs.size + 1) :: (us ++ ds)) := .cons rfl (r.append hd)
  have hl : (Value.ref (s.heap.objs.size + 1) :: us ++ ds).length = ps.length := by
    have e := r2.length
    rw [F.len _ _ _ _ hq] at e
    exact e.symm
  refine wpAny_call (make_map (f := f) I.kIn M.makes M.init (beq_iff_eq.mp M.fn) (codeAny_mono (F.run _ X.stack _ _ ⟨Value.ref (s.heap.objs.size + 1) :: us, []⟩ (Value.ref (s.heap.objs.size + 1) :: (us ++ ds)) _ _ E (hr.make C us [])
    (I2.env0.make C us []) (hb _ (Value.ref (s.heap.objs.size + 1) :: us) I2.kIn hl) r2 hq) fun r s' hq' => ?_))
  cases r with
  | error e => exact hx pins σ _ _ e s' I2 hq'
  | ok fl =>
    cases fl with
    | ret u =>
      obtain ⟨v, H', I3, rv, ev, q3⟩ := I2.after hq'
      subst ev
      exact ⟨rv, ⟨V.ref (s.heap.objs.size + 1), H', I3, rfl, q3⟩⟩
    | next => exact False.elim hq'
    | brk => exact False.elim hq'
    | cont => exact False.elim hq'
theorem pe_make (M : Mk X.K C f) (F : FnOk X.prog X.w X.K X.mg X.base CX k f fd ps sp) (hr : Room (k + 1) X.A) (hg : Gl X x) (hm : X.mg x = some (.ref C)) (hb : Binds X.K fd ps ds) (hd : Vals dvs ds) (hx : Passes CX X E)
    (ha : PA X (e :: es) t) (hdb : (x == ("__debug__" : Str)) = false := by decide) (he : starEach (e :: es) X.env = (false, eval e X.env) :: starEach es X.env := by rfl) (hpl : (backTo pos (starEach es X.env)).any (·.1) = false := by rfl) :
    PE X (.Call (.Name x p) (e :: es) [] pos) (tMake C sp dvs E t) := by
  intro pins s σ H Q I h
  refine wpAny_Call_Name_kw (ld_glob I hg hm ?_ hdb)
  refine PySem.W.callWith_K (h₀ := X.base) I.ok.mod.kin M.kp (thn (ha pos pins s σ H _ I h) fun us s1 ⟨vs, H1, I1, r, q⟩ => ⟨I1.kIn, ?_⟩) he hpl
  exact run_make M F hr hb hd hx I1 r q
end
section
variable {X : Cx} {CX : CXT} {k : Nat} {f C : Addr} {fd : FuncData} {ps ks : List Str} {sp : Sp} {E : XK} {x m : Str} {p pos apos kpos : Pos} {e o : Expr} {es : List Expr} {kws : List Keyword} {te ta : TE} {t tk : TA} {nm : Option Str}
variable {g : List Value → List Value → List Value} {gV : List V → List V → List V}
end
structure FnScope (N P : List Str) (sc : Scope) : Prop where
  kind : sc.kind = .function
  co : sc.isCoroutine = false
  gen : sc.isGenerator = false
  nd : N.Nodup
  pre : N.take P.length = P
  par : ∀ x ∈ P, sc.names.lookup x = some .local ∨ sc.names.lookup x = some .cell
  nofree : ∀ y ∈ sc.names, y.2 ≠ .free

theorem bindL_out {kindOf : Str → Option NameKind} {x : Str} : ∀ {binds : List (Str × Value)} {m : Str → Option Value}, (∀ v, (x, v) ∉ binds) → bindL kindOf binds m x = m x
  | [], _, _ => rfl
  | (n, v) :: r, m, h => by
    unfold bindL
    rw [bindL_out fun w hw => h w (List.mem_cons_of_mem _ hw)]
    split
    · have : x ≠ n := by rintro rfl; exact h v List.mem_cons_self
      simp [this]
    · rfl
theorem bindC_out {kindOf : Str → Option NameKind} {x : Str} : ∀ {binds : List (Str × Value)} {m : Str → Option Value}, (∀ v, (x, v) ∉ binds) → bindC kindOf binds m x = m x
  | [], _, _ => rfl
  | (n, v) :: r, m, h => by
    unfold bindC
    rw [bindC_out fun w hw => h w (List.mem_cons_of_mem _ hw)]
    split
    · rfl
    · have : x ≠ n := by rintro rfl; exact h v List.mem_cons_self
      simp [this]
theorem bindL_get {kindOf : Str → Option NameKind} {x : Str} {v : Value} : ∀ {P : List Str} {vs : List Value} {i : Nat} {m : Str → Option Value}, P.Nodup → P[i]? = some x → vs[i]? = some v → kindOf x = some .local →
    bindL kindOf (P.zip vs) m x = some v
  | [], _, _, _, _, h, _, _ => by simp at h
  | _ :: _, [], _, _, _, _, h, _ => by simp at h
  | p :: P, w :: vs, 0, m, nd, h1, h2, hk => by
    simp at h1 h2; subst h1; subst h2
    show bindL kindOf ((p, w) :: P.zip vs) m p = _
    unfold bindL
    rw [bindL_out fun v hv => (List.nodup_cons.mp nd).1 (List.of_mem_zip hv).1, if_pos hk]
    simp
  | p :: P, w :: vs, i + 1, m, nd, h1, h2, hk => by
    show bindL kindOf ((p, w) :: P.zip vs) m x = _
    unfold bindL
    exact bindL_get (i := i) (List.nodup_cons.mp nd).2 (by simpa using h1) (by simpa using h2) hk
theorem bindC_get {kindOf : Str → Option NameKind} {x : Str} {v : Value} : ∀ {P : List Str} {vs : List Value} {i : Nat} {m : Str → Option Value}, P.Nodup → P[i]? = some x → vs[i]? = some v → kindOf x ≠ some .local →
    bindC kindOf (P.zip vs) m x = some v
  | [], _, _, _, _, h, _, _ => by simp at h
  | _ :: _, [], _, _, _, _, h, _ => by simp at h
  | p :: P, w :: vs, 0, m, nd, h1, h2, hk => by
    simp at h1 h2; subst h1; subst h2
    show bindC kindOf ((p, w) :: P.zip vs) m p = _
    unfold bindC
    rw [bindC_out fun v hv => (List.nodup_cons.mp nd).1 (List.of_mem_zip hv).1, if_neg hk]
    simp
  | p :: P, w :: vs, i + 1, m, nd, h1, h2, hk => by
    show bindC kindOf ((p, w) :: P.zip vs) m x = _
    unfold bindC
    exact bindC_get (i := i) (List.nodup_cons.mp nd).2 (by simpa using h1) (by simpa using h2) hk


noncomputable def start (N : List Str) (vs : List V) : St := vs.map some ++ List.replicate (N.length - vs.length) none


noncomputable def cxOf (CX : CXT) (P : Program) (w : World) (K : PySem.W.Frag) (mg : Str → Option Value) (base : Heap) (N : List Str) (qual : Str) (scope : Scope) (f : Addr) (cd : Value) (A : Around) (outer : List Env) (s : Shared) (H : Hp) (E : XK) : Cx where
  prog := P
  w := w
  K := K
  mg := mg
  base := base
  A := A.deeper (envOfC qual scope s.heap.objs.size f cd)
  N := N
  s₀ := s
  H₀ := H
  env := envOfC qual scope s.heap.objs.size f cd
  outer := outer
  stack := envOfC qual scope s.heap.objs.size f cd :: outer
  ex := []
  calm := true
  fn := fun _ => true
  pn := []
  xe := fun e s' => wpAny (model P w) (A.deeper (envOfC qual scope s.heap.objs.size f cd)) (leaving (envOfC qual scope s.heap.objs.size f cd) e) (fun _ s'' => CX outer H s E e s'') (fun e' s'' => CX outer H s E e' s'') s'

theorem cell_has {sc : Scope} {n : Nat} {x : Str} (h : sc.names.lookup x = some .cell) : ∃ c, (cellsFrom n sc.names []).lookup x = some c := by
  have q := PySem.W.cellsFrom_some sc.names n [] (.inl h)
  exact Option.isSome_iff_exists.mp q

theorem inv_start {CX : CXT} {P : Program} {w : World} {K : PySem.W.Frag} {mg : Str → Option Value} {base : Heap} {N ps : List Str} {qual : Str} {scope : Scope} {f : Addr} {cd : Value} {A : Around} {outer : List Env} {s s1 : Shared} {H : Hp} {E : XK} {us : List Value} {vs : List V}
    (S : FnScope N ps scope) (hd : A.handled = none) (e0 : Env0 P w K mg base A outer s H) (hl : vs.length = ps.length) (r : Vals vs us)
    (x : InCallC s s.heap.objs.size (bindL (envOfC qual scope s.heap.objs.size f cd).kindOf (ps.zip us) fun _ => none) (cellsFrom (s.heap.objs.size + 1) scope.names []) (bindC (envOfC qual scope s.heap.objs.size f cd).kindOf (ps.zip us) fun _ => none) s1) :
    Inv (cxOf CX P w K mg base N qual scope f cd A outer s H E) [] (start N vs) H s1 := by
  have hpl : ps.length ≤ N.length := by have := congrArg List.length S.pre; rw [List.length_take] at this; omega
  obtain ⟨h1, tk, rfl, hk⟩ := x.done
  have noA : ∀ b : Addr, b ∉ (cxOf CX P w K mg base N qual scope f cd A outer s H E).ex := fun b z => absurd (show b ∈ ([] : List Addr) from z) (by simp)
  refine ⟨⟨e0.mod, S.kind, rfl, rfl, Nat.le_refl _, fun y z c h1 h2 => ?_, fun y hy => ?_, fun y c _ h => ?_, fun _ => hd, Around.frames_deeper e0.frames, .inr ⟨rfl, rfl⟩, fun b z => absurd z (noA b), e0.bs, e0.bsz, fun b _ _ => noA b, fun b z => absurd z (noA b), e0.funs, e0.frf⟩,
    rfl, e0.bare, Un.kept hk, ⟨_, x.toInCall.ns, fun i y v h1 h2 h3 => ?_⟩, fun y c h => ⟨_, x.cell y c h⟩, e0.hok.fresh (Nat.le_refl _), fun y c h => ?_, fun p hp => absurd (show p ∈ ([] : List (Addr × Obj)) from hp) (by simp), e0.hok.kept hk, ?_⟩
  · exact name_of_addr x.apart (PySem.mem_of_lookup h1) (PySem.mem_of_lookup h2)
  · have hy : scope.names.lookup y = some .cell ∨ scope.names.lookup y = some .free := hy
    rcases hy with hy | hy
    · exact cell_has hy
    · exact absurd rfl (S.nofree _ (PySem.mem_of_lookup hy))
  · exact Nat.le_of_lt (x.above y c (PySem.mem_of_lookup h))
  · have hi : i < vs.length := by
      unfold start at h2
      by_cases hi : i < vs.length
      · exact hi
      · rw [List.getElem?_append_right (by simpa using hi)] at h2
        rw [List.getElem?_replicate] at h2
        split at h2 <;> cases h2
    have ha : vs[i]? = some v := by
      unfold start at h2
      rw [List.getElem?_append_left (by simpa using hi), List.getElem?_map] at h2
      cases e : vs[i]? with
      | none => rw [e] at h2; cases h2
      | some a => rw [e] at h2; cases h2; rfl
    obtain ⟨u, hu, rv⟩ := r.get ha
    have hp : ps[i]? = some y := by
      rw [← S.pre, List.getElem?_take_of_lt (by omega)]; exact h1
    have ndP : ps.Nodup := by rw [← S.pre]; exact S.nd.sublist (List.take_sublist _ _)
    refine ⟨u, rv, ?_⟩
    rcases S.par y (List.mem_of_getElem? hp) with k | k
    · exact .inl ⟨k, bindL_get ndP hp hu k⟩
    · obtain ⟨c, e⟩ := cell_has (n := s.heap.objs.size + 1) k
      refine .inr ⟨.inl k, c, e, ?_⟩
      have q := x.cell y c e
      rw [bindC_get ndP hp hu (by show scope.names.lookup y ≠ _; rw [k]; decide)] at q
      exact q
  · exact e0.hok.fresh (Nat.le_of_lt (x.above y c (PySem.mem_of_lookup h)))
  · unfold start
    show _ = N.length
    rw [List.length_append, List.length_map, List.length_replicate]
    omega


theorem fn_of {CX : CXT} {P : Program} {w : World} {K : PySem.W.Frag} {mg : Str → Option Value} {base : Heap} {k : Nat} {f : Addr} {name qual : Str} {params : Arguments} {body : List Stmt} {scope : Scope} {dV kV doc pm cdv ct oc : Value} {an od : Option Addr}
    {osl : Array (Option Value)} {N ps : List Str} {sp : Sp} (lk : K.lookup f = some ⟨oc, od, .func (PySem.W.fnOf name qual params body scope dV kV doc pm an cdv ct), osl⟩) (hcd : PySem.W.codeIn K cdv qual = true) (S : FnScope N ps scope)
    (len : ∀ vs H Q E, sp vs H Q E → vs.length = ps.length)
    (hbody : ∀ (A : Around) (outer : List Env) (s : Shared) (H : Hp) (vs : List V) (Q : VK) (E : XK), Room k (A.deeper (envOfC qual scope s.heap.objs.size f cdv)) → sp vs H Q E →
      ∃ t, PSs (cxOf CX P w K mg base N qual scope f cdv A outer s H E) body t ∧ t { nx := fun _ H' => Q .non H', rt := Q } (start N vs) H) :
    FnOk P w K mg base CX (k + 1) f (PySem.W.fnOf name qual params body scope dV kV doc pm an cdv ct) ps sp := by
  refine ⟨len, fun A outer s H args us vs Q E hr e0 hb r hsp => ?_⟩
  have hl := len _ _ _ _ hsp
  have KX : K.In s.heap := e0.mod.kin.keeps fun b o e => (e0.bs b o e).1
  have lim : s.heap.NoLimit := e0.mod.nolimit.keeps fun b o e => (e0.bs b o e).1
  have hkind : ∀ y ∈ ps.zip us, scope.names.lookup y.1 = some .local ∨ (scope.names.lookup y.1 = some .cell ∧ ((cellsFrom (s.heap.objs.size + 1) scope.names []).lookup y.1).isSome = true) := fun ⟨n, v⟩ hy => by
    rcases S.par n (List.of_mem_zip hy).1 with q | q
    · exact .inl q
    · exact .inr ⟨q, PySem.W.cellsFrom_some _ _ _ (.inl q)⟩
  refine codeAny_call_function hr.depth (KX _ _ lk) rfl S.co S.gen rfl (PySem.W.codeRec_of KX hcd) (hb _ _ _ _ ?_)
  refine wpAny_newFunctionEnv_cells S.kind hkind fun env he s1 x => ?_
  subst he
  refine ⟨lim.keeps x.toInCall.keep, codeAny_func ?_⟩
  obtain ⟨t, ht, hq⟩ := hbody A outer s H vs Q E (hr.deeper _) hsp
  have I : Inv (cxOf CX P w K mg base N qual scope f cdv A outer s H E) [] (start N vs) H s1 := inv_start S hr.hd e0 hl r x
  refine wpAny_mono (ht [] s1 (start N vs) H _ I hq) (fun fl s' hs => ?_) fun e s' hs => hs
  have fin : ∀ {σ' : St} {H' : Hp} {v : V} {u : Value}, Inv (cxOf CX P w K mg base N qual scope f cdv A outer s H E) [] σ' H' s' → RelV v u → Q v H' → CE outer P w H s Q u s' :=
    fun {σ' H' v u} J rv q => ⟨v, H', J.os, J.bare, J.base, J.hok, rv, q⟩
  cases fl with
  | ret u =>
    obtain ⟨v, σ', H', J, rv, q⟩ := hs
    exact fin J rv q
  | next =>
    obtain ⟨σ', H', J, q⟩ := hs
    exact fin (v := V.non) (u := Value.none) J rfl q
  | brk =>
    obtain ⟨_, _, _, q⟩ := hs
    exact False.elim q
  | cont =>
    obtain ⟨_, _, _, q⟩ := hs
    exact False.elim q
end L2
namespace L2
open PySem PySem.Spec PyProof.Rows
section
variable {X : Cx} {x : Str} {p pos : Pos} {e : Expr} {es : List Expr} {t : TA} {id T : String} {r : List V → Hp → VK → Prop}
noncomputable def tCB (r : List V → Hp → VK → Prop) (t : TA) : TE := fun σ H Q => t σ H fun vs H1 => r vs H1 Q

theorem pe_callB (hc : CallR X (.builtin id) r) (hg : Gl X x) (hm : X.mg x = none) (hv : bootBuiltins x = some (.builtin id)) (ha : PA X (e :: es) t) (hn : x ≠ "__name__" := by decide) (hdb : (x == ("__debug__" : Str)) = false := by decide)
    (he : starEach (e :: es) X.env = (false, eval e X.env) :: starEach es X.env := by rfl) (hpl : (backTo pos (starEach es X.env)).any (·.1) = false := by rfl) : PE X (.Call (.Name x p) (e :: es) [] pos) (tCB r t) := by
  intro pins s σ H Q I h
  refine wpAny_Call_Name_kw (ld_blt I hg hm hv ?_ hn hdb)
  exact PyProof.Rows.callWith_builtin1 (thn (ha pos pins s σ H _ I h) fun us s1 ⟨vs, H1, I1, r1, q1⟩ => hc pins s1 σ H1 vs us Q I1 r1 q1) he hpl

theorem pe_callTy (hc : CallR X (.type T) r) (hg : Gl X x) (hm : X.mg x = none) (hv : bootBuiltins x = some (.type T)) (ha : PA X (e :: es) t) (hn : x ≠ "__name__" := by decide) (hdb : (x == ("__debug__" : Str)) = false := by decide)
    (he : starEach (e :: es) X.env = (false, eval e X.env) :: starEach es X.env := by rfl) (hpl : (backTo pos (starEach es X.env)).any (·.1) = false := by rfl) : PE X (.Call (.Name x p) (e :: es) [] pos) (tCB r t) := by
  intro pins s σ H Q I h
  refine wpAny_Call_Name_kw (ld_blt I hg hm hv ?_ hn hdb)
  exact PyProof.Rows.callWith_type1 (thn (ha pos pins s σ H _ I h) fun us s1 ⟨vs, H1, I1, r1, q1⟩ => hc pins s1 σ H1 vs us Q I1 r1 q1) he hpl

end
end L2
namespace HT
open PySem PyProof.Rows
section
open PySem.SeqAt
open PySem.AutoSeq1 (wpAny_loadPart')
open PySem.MeetsSeq PySem.MeetsSeq2 PySem.MeetsSeq3
end
section
variable {prog : Program} {w : World} {A : Around} {E : Value → Shared → Prop} {s : Shared}
noncomputable def sIx (n d : Nat) : Option Int → Nat
  | none => d
  | some v => if v < 0 then (v + (n : Int)).toNat else min v.toNat n
end
end HT
namespace L2
open PySem PySem.Spec PyProof.Rows
noncomputable abbrev TO := St → Hp → (Option Int → Hp → Prop) → Prop

noncomputable def PO (X : Cx) (e : Option Expr) (t : TO) : Prop :=
  ∀ (pins : List (Addr × Obj)) (s : Shared) (σ : St) (H : Hp) (Q : Option Int → Hp → Prop), Inv X pins σ H s → t σ H Q →
    wpAny (model X.prog X.w) X.A (evalPart e X.env) (fun u s' => ∃ o H', Inv X pins σ H' s' ∧ IsPart u o ∧ Q o H') X.xe s
noncomputable def tPart (t : TE) : TO := fun σ H Q => t σ H fun x H1 => ∃ i, x = .int i ∧ Q (some i) H1

theorem intsAre_of {ns : List Int} : ∀ {us : List Value}, Vals (ns.map V.int) us → IntsAre us ns := by
  induction ns with
  | nil => intro us r; rw [List.map_nil] at r; cases r; exact .nil
  | cons n ns ih =>
    intro us r
    rw [List.map_cons] at r
    cases r with
    | cons r1 r2 =>
      obtain ⟨t, e⟩ := r1
      subst e
      exact .cons n t (ih r2)

section
variable {X : Cx} {e : Expr} {te : TE} {lo hi : Option Expr} {tl th : TO} {pos p2 : Pos}
theorem po_some (h : PE X e te) : PO X (some e) (tPart te) := by
  intro pins s σ H Q I hw
  rw [evalPart_some]
  refine thn (h pins s σ H _ I hw) fun u s1 ⟨x, H1, I1, r1, q1⟩ => ?_
  obtain ⟨i, rfl, q⟩ := q1
  obtain ⟨t, rfl⟩ := r1
  exact ⟨some i, H1, I1, .int i t, q⟩


noncomputable def SlR (X : Cx) (r : V → Option Int → Option Int → Hp → VK → Prop) : Prop :=
  ∀ (pins : List (Addr × Obj)) (s : Shared) (σ : St) (H : Hp) (x : V) (v vl vu : Value) (lo hi : Option Int) (sl : Addr) (Q : VK), Inv X pins σ H s → RelV x v → s.heap.IsSliceOf sl vl vu .none → IsPart vl lo → IsPart vu hi → r x lo hi H Q →
    ∃ T id, typeLookup (.type T) "__getitem__" = pure (some (.builtin id)) ∧ s.TypeIs v T ∧ wpAny (model X.prog X.w) X.A (getItem v (.ref sl)) (EP X pins σ Q) X.xe s
theorem SlR.or {r r' : V → Option Int → Option Int → Hp → VK → Prop} (h : SlR X r) (h' : SlR X r') : SlR X (fun x lo hi H Q => r x lo hi H Q ∨ r' x lo hi H Q) := by
  intro pins s σ H x v vl vu lo hi sl Q I rx hs pl pu q
  rcases q with q | q
  · exact h pins s σ H x v vl vu lo hi sl Q I rx hs pl pu q
  · exact h' pins s σ H x v vl vu lo hi sl Q I rx hs pl pu q
noncomputable def tSl (r : V → Option Int → Option Int → Hp → VK → Prop) (te : TE) (tl th : TO) : TE := fun σ H Q => te σ H fun x H1 => tl σ H1 fun l H2 => th σ H2 fun u H3 => r x l u H3 Q

theorem pe_slice {r : V → Option Int → Option Int → Hp → VK → Prop} (hr : SlR X r) (he : PE X e te) (hl : PO X lo tl) (hu : PO X hi th) : PE X (.Subscript e (.Slice lo hi none p2) pos) (tSl r te tl th) := by
  intro pins s σ H Q I h
  refine Subscript_ (thn (he pins s σ H _ I h) fun v s1 ⟨x, H1, I1, r1, q1⟩ => ?_)
  refine wpAny_Slice (thn (hl pins s1 σ H1 _ I1 q1) fun vl s2 ⟨l, H2, I2, pl, q2⟩ => thn (hu pins s2 σ H2 _ I2 q2) fun vu s3 ⟨u, H3, I3, pu, q3⟩ => ?_)
  rw [evalPart_none]
  refine wpAny_pure ?_
  have I4 : Inv X pins σ H3 { s3 with heap := s3.heap.push { cls := .type "slice", data := .fields #[vl, vu, .none] } } := I3.kept (t' := s3.toks) fun b ob q => Heap.get?_push_of_some _ q
  obtain ⟨T, id, hT, ht, hg⟩ := hr pins { s3 with heap := s3.heap.push { cls := .type "slice", data := .fields #[vl, vu, .none] } } σ H3 x v vl vu l u s3.heap.objs.size Q I4 r1 (Heap.IsSliceOf.new ..) pl pu q3
  show wpAny (model X.prog X.w) X.A (subscriptTail e (.Slice lo hi none p2) v (.ref s3.heap.objs.size)) (EP X pins σ Q) X.xe { s3 with heap := s3.heap.push { cls := .type "slice", data := .fields #[vl, vu, .none] } }
  exact tail_any (ops := [.ref s3.heap.objs.size, v]) ht hT hg (by with_unfolding_all rfl)


noncomputable def cutV (xs : List V) (lo hi : Option Int) : List V := (xs.drop (HT.sIx xs.length 0 lo)).take (HT.sIx xs.length xs.length hi - HT.sIx xs.length 0 lo)
theorem cutV_length (xs : List V) (lo hi : Option Int) : (cutV xs lo hi).length ≤ xs.length := by
  unfold cutV
  rw [List.length_take, List.length_drop]
  omega

end
end L2
namespace L2
open PySem PySem.Spec PyProof.Rows
noncomputable def ixN (n : Nat) (i : Int) : Option Nat := if 0 ≤ i then (if i < n then some i.toNat else none) else if -(n : Int) ≤ i then some (i + n).toNat else none
noncomputable def atI {α : Type} (xs : List α) (i : Int) : Option α := (ixN xs.length i).bind fun j => xs[j]?
theorem ixN_seq {n : Nat} {i : Int} {j : Nat} (h : ixN n i = some j) : seqIndex? i n = some j ∧ j < n ∧ -(n : Int) ≤ i ∧ i < n := by
  unfold ixN at h
  by_cases h0 : 0 ≤ i
  · rw [if_pos h0] at h
    by_cases h1 : i < n
    · rw [if_pos h1] at h
      have e : i.toNat = j := Option.some.inj h
      exact ⟨by rw [seqIndex_of h0 h1, e], by omega, by omega, h1⟩
    · rw [if_neg h1] at h; cases h
  · rw [if_neg h0] at h
    by_cases h1 : -(n : Int) ≤ i
    · rw [if_pos h1] at h
      have e : (i + n).toNat = j := Option.some.inj h
      exact ⟨by rw [seqIndex_neg (by omega) h1, e], by omega, h1, by omega⟩
    · rw [if_neg h1] at h; cases h
theorem atI_get {α : Type} {xs : List α} {i : Int} {v : α} (h : atI xs i = some v) : ∃ j, seqIndex? i xs.length = some j ∧ xs[j]? = some v ∧ j < xs.length ∧ -(xs.length : Int) ≤ i ∧ i < xs.length := by
  unfold atI at h
  cases e : ixN xs.length i with
  | none => rw [e] at h; cases h
  | some j =>
    rw [e] at h
    obtain ⟨h1, h2, h3, h4⟩ := ixN_seq e
    exact ⟨j, h1, h, h2, h3, h4⟩
theorem atI_nat {α : Type} {xs : List α} {j : Nat} {v : α} (h : xs[j]? = some v) : atI xs (j : Int) = some v := by
  have hj : j < xs.length := (List.getElem?_eq_some_iff.mp h).1
  have e : ixN xs.length (j : Int) = some j := by
    unfold ixN
    rw [if_pos (by omega), if_pos (by omega)]; simp
  unfold atI; rw [e]; exact h
noncomputable def PlainIx (b : Expr) : Prop := ∀ o i, subscripted b false o i = operate [o, i] (getItem o i)

noncomputable def IxR (X : Cx) (r : R2) : Prop :=
  ∀ (value slice : Expr) (pins : List (Addr × Obj)) (s : Shared) (σ : St) (H : Hp) (x y : V) (v u : Value) (Q : VK), Inv X pins σ H s → RelV x v → RelV y u → r x y H Q →
    subscripted slice false v u = operate [v, u] (getItem v u) → wpAny (model X.prog X.w) X.A (subscriptTail value slice v u) (EP X pins σ Q) X.xe s

noncomputable def MtR (X : Cx) (id : String) (r : V → List V → Hp → VK → Prop) : Prop :=
  ∀ (pins : List (Addr × Obj)) (s : Shared) (σ : St) (H : Hp) (x : V) (xs : List V) (v : Value) (us : List Value) (Q : VK), Inv X pins σ H s → RelV x v → Vals xs us → r x xs H Q →
    wpAny (model X.prog X.w) X.A (call (.builtin id) (v :: us)) (EP X pins σ Q) X.xe s
section
variable {X : Cx} {a b : Expr} {ta tb : TE} {pos : Pos}
theorem IxR.or {r r' : R2} (h : IxR X r) (h' : IxR X r') : IxR X (fun x y H Q => r x y H Q ∨ r' x y H Q) := by
  intro value slice pins s σ H x y v u Q I rx ry q hs
  rcases q with q | q
  · exact h value slice pins s σ H x y v u Q I rx ry q hs
  · exact h' value slice pins s σ H x y v u Q I rx ry q hs
theorem MtR.or {id : String} {r r' : V → List V → Hp → VK → Prop} (h : MtR X id r) (h' : MtR X id r') : MtR X id (fun x xs H Q => r x xs H Q ∨ r' x xs H Q) := by
  intro pins s σ H x xs v us Q I rx rs q
  rcases q with q | q
  · exact h pins s σ H x xs v us Q I rx rs q
  · exact h' pins s σ H x xs v us Q I rx rs q

theorem pe_ix {r : R2} (hr : IxR X r) (ha : PE X a ta) (hb : PE X b tb) (hs : PlainIx b) : PE X (.Subscript a b pos) (tOp r ta tb) := by
  intro pins s σ H Q I h
  exact Subscript_ (binT ha hb I h fun v u s2 x y H2 I2 rx ry q => hr a b pins s2 σ H2 x y v u Q I2 rx ry q (hs _ _))

noncomputable def rIxL (K : PySem.W.Frag) : R2 := fun x y H Q => ∃ p xs i v, x = .ref p ∧ y = .int i ∧ SqL K H p xs ∧ atI xs i = some v ∧ Q v H
noncomputable def rIxT (K : PySem.W.Frag) : R2 := fun x y H Q => ∃ p xs i v, x = .ref p ∧ y = .int i ∧ SqT K H p xs ∧ atI xs i = some v ∧ Q v H
theorem ix_list : IxR X (rIxL X.K) := by
  intro value slice pins s σ H x y v u Q I rx ry h hs
  obtain ⟨p, xs, i, z, rfl, rfl, hq, he, q⟩ := h
  cases rx
  obtain ⟨t, rfl⟩ := ry
  obtain ⟨its, r, pl, hz⟩ := I.list hq
  obtain ⟨j, h1, h2, h3, h4, h5⟩ := atI_get he
  obtain ⟨w, ew, rw'⟩ := r.get h2
  have hl := r.length
  have hn := line63
  have fin : EP X pins σ Q w s := ⟨z, H, I, rw', q⟩
  by_cases h0 : 0 ≤ i
  · have hj : i.toNat = j := by
      rw [seqIndex_of h0 h5] at h1
      exact Option.some.inj h1
    exact item_listR pl.isList h0 (by omega) (by rw [hj]; simpa using ew) fin hs
  · have hj : (i + (its.toArray.size : Int)).toNat = j := by
      rw [seqIndex_neg (by omega) h4] at h1
      rw [List.size_toArray, ← hl]
      exact Option.some.inj h1
    exact subscriptTail_builtinR (x := w) pl.isList.typeIs slot_list_getitem.lookup
      (wpAny_getItem_list_neg (Q := fun r s' => r = w ∧ EP X pins σ Q r s') pl.isList (by omega) (by rw [List.size_toArray] <;> omega) (by omega) (by rw [hj]; simpa using ew) ⟨rfl, fin⟩) hs
theorem ix_tup : IxR X (rIxT X.K) := by
  intro value slice pins s σ H x y v u Q I rx ry h hs
  obtain ⟨p, xs, i, z, rfl, rfl, hq, he, q⟩ := h
  cases rx
  obtain ⟨t, rfl⟩ := ry
  obtain ⟨its, r, pl, hz⟩ := I.tuple hq
  obtain ⟨j, h1, h2, h3, h4, h5⟩ := atI_get he
  obtain ⟨w, ew, rw'⟩ := r.get h2
  have hl := r.length
  have hn := line63
  have fin : EP X pins σ Q w s := ⟨z, H, I, rw', q⟩
  exact subscriptTail_builtinR (x := w) pl.typeIs slot_tuple_getitem.lookup
    (getItem_tuple (j := j) (Q := fun r s' => r = w ∧ EP X pins σ Q r s') pl (by omega) (by omega) (by rw [List.size_toArray, ← hl]; exact h1) (by simpa using ew) ⟨rfl, fin⟩) hs
theorem Inv.lst {pins : List (Addr × Obj)} {σ : St} {H : Hp} {s : Shared} {p : Addr} {xs : List V} (I : Inv X pins σ H s) (h : H p = some (.lst xs)) :
    ∃ (its : List Value) (n : Nat), Vals xs its ∧ s.heap.get? p = some { cls := .type "list", data := .seq its.toArray n } ∧ xs.length ≤ sizeLine := by
  obtain ⟨z, its, n, r, e⟩ := I.hok p _ h
  exact ⟨its, n, r, e, z⟩

theorem slice_bounds (lo hi : Option Int) (n : Nat) : (sliceBounds lo hi none n).1 = ((HT.sIx n 0 lo : Nat) : Int) ∧ (sliceBounds lo hi none n).2.1 = ((HT.sIx n n hi : Nat) : Int) ∧ (sliceBounds lo hi none n).2.2 = 1 := by
  refine ⟨?_, ?_, rfl⟩
  · cases lo with
    | none => simp [sliceBounds, HT.sIx]
    | some i =>
      simp only [sliceBounds, HT.sIx, Option.getD_none, show (1 : Int) > 0 by decide, if_true]
      by_cases h : i < 0
      · simp only [h, if_true] <;> omega
      · simp only [h, if_false] <;> omega
  · cases hi with
    | none => simp [sliceBounds, HT.sIx]
    | some i =>
      simp only [sliceBounds, HT.sIx, Option.getD_none, show (1 : Int) > 0 by decide, if_true]
      by_cases h : i < 0
      · simp only [h, if_true] <;> omega
      · simp only [h, if_false] <;> omega
theorem slicePick_cut (its : List Value) (lo hi : Option Int) : slicePick its.toArray lo hi none = ((its.drop (HT.sIx its.length 0 lo)).take (HT.sIx its.length its.length hi - HT.sIx its.length 0 lo)).toArray := by
  obtain ⟨h1, h2, h3⟩ := slice_bounds lo hi its.toArray.size
  unfold slicePick
  rw [h1, h2, h3]
  simp only [sliceRange_one, pick_run, List.size_toArray] <;> rfl

noncomputable def rSlL (K : PySem.W.Frag) : V → Option Int → Option Int → Hp → VK → Prop := fun x lo hi H Q => ∃ a xs, x = .ref a ∧ SqL K H a xs ∧ ∀ p, H p = none → Q (.ref p) (upd H p (.lst (cutV xs lo hi)))
theorem sl_list : SlR X (rSlL X.K) := by
  intro pins s σ H x v vl vu lo hi sl Q I rx hs pl pu h
  obtain ⟨a, xs, rfl, hx, q⟩ := h
  cases rx
  obtain ⟨its, r, ht, hz⟩ := I.list hx
  have hlen := r.length
  refine ⟨"list", _, slot_list_getitem.lookup, ht.isList.typeIs, ?_⟩
  refine wpAny_getItem_list_slice ht.isList hs pl pu .none (by simp) ?_ (by rw [List.size_toArray] <;> omega)
  rw [slicePick_cut, ← hlen]
  refine ⟨.ref s.heap.objs.size, _, I.laid (t' := s.toks) (o := .lst (cutV xs lo hi)) (fun b ob q => Heap.get?_push_of_some _ q) (Nat.le_refl _) ?_, rfl, q _ (I.hok.fresh (Nat.le_refl _))⟩
  exact ⟨Nat.le_trans (cutV_length xs lo hi) hz, _, 0, (r.drop (HT.sIx xs.length 0 lo)).take (HT.sIx xs.length xs.length hi - HT.sIx xs.length 0 lo), Heap.get?_push_size _ rfl⟩


noncomputable def flatV : V → Bool
  | .non => true
  | .bl _ => true
  | .int _ => true
  | .str _ => true
  | _ => false

noncomputable def eqV : V → V → Bool
  | .non, .non => true
  | .bl a, .bl b => a == b
  | .bl a, .int b => (if a then 1 else 0) == b
  | .int a, .bl b => a == (if b then 1 else 0)
  | .int a, .int b => a == b
  | .str a, .str b => a == b
  | _, _ => false
theorem eqAt_V {A : Around} {s : Shared} {y x : V} {u v : Value} (ry : RelV y u) (rx : RelV x v) (fy : flatV y = true) (fx : flatV x = true) : SeqAt.EqAt A s u v (eqV y x) := by
  cases y with
  | non =>
    cases ry
    cases x with
    | non => cases rx; exact SeqAt.EqAt.same _
    | bl b => cases rx; exact SeqAt.EqAt.none_bool b
    | int b => obtain ⟨t, rfl⟩ := rx; exact SeqAt.EqAt.none_int b t
    | str b => obtain ⟨t, rfl⟩ := rx; exact SeqAt.EqAt.none_str b t
    | _ => exact absurd (show false = true from fx) Bool.false_ne_true
  | bl a =>
    cases ry
    cases x with
    | non => cases rx; exact SeqAt.EqAt.bool_none a
    | bl b => cases rx; exact SeqAt.EqAt.bool_bool a b
    | int b => obtain ⟨t, rfl⟩ := rx; exact SeqAt.EqAt.bool_int a b t
    | str b => obtain ⟨t, rfl⟩ := rx; exact SeqAt.EqAt.bool_str a b t
    | _ => exact absurd (show false = true from fx) Bool.false_ne_true
  | int a =>
    obtain ⟨t', rfl⟩ := ry
    cases x with
    | non => cases rx; exact SeqAt.EqAt.int_none a t'
    | bl b => cases rx; exact SeqAt.EqAt.int_bool a t' b
    | int b => obtain ⟨t, rfl⟩ := rx; exact SeqAt.EqAt.int_int a t' b t
    | str b => obtain ⟨t, rfl⟩ := rx; exact SeqAt.EqAt.int_str a t' b t
    | _ => exact absurd (show false = true from fx) Bool.false_ne_true
  | str a =>
    obtain ⟨t', rfl⟩ := ry
    cases x with
    | non => cases rx; exact SeqAt.EqAt.str_none a t'
    | bl b => cases rx; exact SeqAt.EqAt.str_bool a t' b
    | int b => obtain ⟨t, rfl⟩ := rx; exact SeqAt.EqAt.str_int a t' b t
    | str b => obtain ⟨t, rfl⟩ := rx; exact SeqAt.EqAt.str_str a t' b t
    | _ => exact absurd (show false = true from fx) Bool.false_ne_true
  | _ => exact absurd (show false = true from fy) Bool.false_ne_true

theorem call_len_seq : CallR X (.builtin "len") (fun xs H Q => ∃ p ys, xs = [.ref p] ∧ (SqL X.K H p ys ∨ SqT X.K H p ys) ∧ Q (.int ys.length) H) := by
  intro pins s σ H xs us Q I r h
  obtain ⟨p, ys, rfl, hq, q⟩ := h
  obtain ⟨u, rfl, rx⟩ := vals1 r
  cases rx
  have hn := line63
  rcases hq with hq | hq
  · obtain ⟨its, r', pl, hz⟩ := I.list hq
    have hlen := r'.length
    exact Calls.call_len_list pl.isList (by simp only [List.size_toArray] <;> omega) ⟨.int ys.length, H, I.tok _, ⟨s.toks + 1, by rw [List.size_toArray, hlen]⟩, q⟩
  · obtain ⟨its, r', pl, hz⟩ := I.tuple hq
    have hlen := r'.length
    exact len_tuple pl (by simp only [List.size_toArray] <;> omega) ⟨.int ys.length, H, I.tok _, ⟨s.toks + 1, by rw [List.size_toArray, hlen]⟩, q⟩
theorem call_len_str : CallR X (.builtin "len") (fun xs H Q => ∃ z, xs = [.str z] ∧ z.length ≤ sizeLine ∧ Q (.int z.length) H) := by
  intro pins s σ H xs us Q I r h
  obtain ⟨z, rfl, hz, q⟩ := h
  obtain ⟨u, rfl, t, rfl⟩ := vals1 r
  have hn := line63
  exact len_str (by omega) ⟨.int z.length, H, I.tok _, ⟨_, rfl⟩, q⟩
theorem CallR.or {f : Value} {r r' : List V → Hp → VK → Prop} (h : CallR X f r) (h' : CallR X f r') : CallR X f (fun xs H Q => r xs H Q ∨ r' xs H Q) := by
  intro pins s σ H xs us Q I rs q
  rcases q with q | q
  · exact h pins s σ H xs us Q I rs q
  · exact h' pins s σ H xs us Q I rs q
theorem call_list_of : CallR X (.type "list") (fun xs H Q => ∃ p ys, xs = [.ref p] ∧ (SqL X.K H p ys ∨ SqT X.K H p ys) ∧ ∀ l, H l = none → Q (.ref l) (upd H l (.lst ys))) := by
  intro pins s σ H xs us Q I r h
  obtain ⟨p, ys, rfl, hq, q⟩ := h
  obtain ⟨u, rfl, rx⟩ := vals1 r
  cases rx
  have fin : ∀ (its : List Value), Vals ys its → ys.length ≤ sizeLine → ∀ (h' : Heap) (c' : Nat), (∀ b o', s.heap.get? b = some o' → h'.get? b = some o') →
      h'.get? s.heap.objs.size = some { cls := .type "list", dict := none, data := .seq its.toArray c', slots := #[] } → EP X pins σ Q (.ref s.heap.objs.size) { s with heap := h' } := fun its r' hz h' c' kp e =>
    ⟨.ref s.heap.objs.size, _, I.laid (t' := s.toks) kp (Nat.le_refl _) (show ObjOk X.prog X.w _ h' _ (.lst ys) from ⟨hz, its, c', r', e⟩), rfl, q _ (I.hok.fresh (Nat.le_refl _))⟩
  rcases hq with hq | hq
  · obtain ⟨its, r', pl, hz⟩ := I.list hq
    have hlen := r'.length
    obtain ⟨o, ho, hc, n, hd⟩ := pl.isList
    exact call_list_seq p (.inl rfl) ho hc hd (fun h' c' kp e => fin its r' hz h' c' kp e) (by simp only [List.size_toArray] <;> omega)
  · obtain ⟨its, r', pl, hz⟩ := I.tuple hq
    have hlen := r'.length
    obtain ⟨o, ho, hc, n, hd⟩ := pl
    exact call_list_seq p (.inr rfl) ho hc hd (fun h' c' kp e => fin its r' hz h' c' kp e) (by simp only [List.size_toArray] <;> omega)
noncomputable def tyV (K : PySem.W.Frag) (T : String) (x : V) (H : Hp) : Prop := match x with
  | .str _ => T = "str"
  | .int _ => T = "int"
  | .ref p => (T = "list" ∧ ∃ xs, SqL K H p xs) ∨ (T = "tuple" ∧ ∃ o, K.lookup p = some o ∧ o.cls = .type "tuple" ∧ o.dict = none) ∨
      (T = "dict" ∧ ((∃ kvs, H p = some (.dK kvs)) ∨ ∃ kvs, H p = some (.dT kvs))) ∨ (T = "set" ∧ ∃ S n, H p = some (.set S n))
  | _ => False
theorem tyV_is {pins : List (Addr × Obj)} {σ : St} {H : Hp} {s : Shared} {T : String} {x : V} {v : Value} (I : Inv X pins σ H s) (r : RelV x v) (ty : tyV X.K T x H) :
    s.TypeIs v T ∧ ∀ a, v = .ref a → ∃ ob, s.heap.get? a = some ob ∧ ob.dict = none := by
  cases x with
  | str z =>
    obtain ⟨t, rfl⟩ := r
    cases (show T = "str" from ty)
    exact ⟨typeIs_str s z t, fun _ e => nomatch e⟩
  | int i =>
    obtain ⟨t, rfl⟩ := r
    cases (show T = "int" from ty)
    exact ⟨typeIs_int s i t, fun _ e => nomatch e⟩
  | ref p =>
    cases r
    rcases ty with ⟨rfl, xs, hq⟩ | ⟨rfl, o, hk, hc, hd⟩ | ⟨rfl, hk⟩ | ⟨rfl, S, n, hk⟩
    · obtain ⟨its, _, pl, _⟩ := I.list hq
      refine ⟨pl.isList.typeIs, fun a e => ?_⟩
      cases e
      obtain ⟨o, n, e, c, hd, _⟩ := pl
      exact ⟨o, e, hd⟩
    · refine ⟨⟨o, I.kIn p o hk, hc⟩, fun a e => ?_⟩
      cases e
      exact ⟨o, I.kIn _ o hk, hd⟩
    · have z : ∃ o, s.heap.get? p = some o ∧ o.ExactDict := by
        rcases hk with ⟨kvs, hk⟩ | ⟨kvs, hk⟩
        · obtain ⟨_, _, _, _, o, _, _, e, ex, _⟩ := I.hok p _ hk
          exact ⟨o, e, ex⟩
        · obtain ⟨_, _, _, _, o, _, _, e, ex, _⟩ := I.hok p _ hk
          exact ⟨o, e, ex⟩
      obtain ⟨o, e, ex⟩ := z
      refine ⟨⟨o, e, ex.1⟩, fun a e2 => ?_⟩
      cases e2
      exact ⟨o, e, ex.2.1⟩
    · obtain ⟨o, _, _, _, e, ex, _⟩ := I.hok p _ hk
      refine ⟨⟨o, e, ex.1⟩, fun a e2 => ?_⟩
      cases e2
      exact ⟨o, e, ex.2.1⟩
  | _ => exact False.elim ty
noncomputable def tBM0 (K : PySem.W.Frag) (T : String) (r : V → List V → Hp → VK → Prop) (to : TE) : TE := fun σ H Q => to σ H fun x H1 => tyV K T x H1 ∧ r x [] H1 Q
noncomputable def tBM (K : PySem.W.Frag) (T : String) (r : V → List V → Hp → VK → Prop) (to : TE) (t : TA) : TE := fun σ H Q => to σ H fun x H1 => tyV K T x H1 ∧ t σ H1 fun xs H2 => r x xs H2 Q
variable {o e : Expr} {es : List Expr} {to : TE} {t : TA} {name : Str} {apos cpos : Pos} {T id : String} {r : V → List V → Hp → VK → Prop}
theorem pe_bm0 (pa : PlainAttrs T) (slot : Slot T name id) (hty : typeOf (.builtin id) = pure (.type "method_descriptor")) (hm : MtR X id r) (ho : PE X o to)
    (hbase : attributeBase o name X.env (eval o X.env) = eval o X.env := by rfl) (hline : (apos.endLine == cpos.line) = true := by rfl) : PE X (.Call (.Attribute o name apos) [] [] cpos) (tBM0 X.K T r to) := by
  intro pins s σ H Q I h
  refine wpAny_Call_method0_late hbase hline (thn (ho pins s σ H _ I h) fun v s1 ⟨x, H1, I1, r1, ty, q1⟩ => ?_)
  obtain ⟨h1, h2⟩ := tyV_is I1 r1 ty
  exact ⟨T, id, pa, slot, hty, h1, h2, Calls.callWith_builtin rfl (PySem.evalArgs_none (hm pins s1 σ H1 x [] v [] Q I1 r1 .nil q1))⟩
theorem pe_bm (pa : PlainAttrs T) (slot : Slot T name id) (hty : typeOf (.builtin id) = pure (.type "method_descriptor")) (hm : MtR X id r) (ho : PE X o to) (ha : PA X (e :: es) t)
    (hbase : attributeBase o name X.env (eval o X.env) = eval o X.env := by rfl)
    (hfew : ((backTo cpos (starEach (e :: es) X.env)).all (fun x => !x.1) && (backToKw cpos (keywordEach [] X.env)).all (fun x => x.1.isSome)
      && decide ((e :: es).length + ([] : List Keyword).length + (if ([] : List Keyword).isEmpty then 0 else 1) < 30)) = true := by rfl)
    (hline : (apos.endLine == cpos.line) = true := by rfl) (hs : starEach (e :: es) X.env = (false, eval e X.env) :: starEach es X.env := by rfl) (hplain : (backTo cpos (starEach es X.env)).any (·.1) = false := by rfl) :
    PE X (.Call (.Attribute o name apos) (e :: es) [] cpos) (tBM X.K T r to t) := by
  intro pins s σ H Q I h
  refine wpAny_Call_method_late hbase hfew hline rfl (thn (ho pins s σ H _ I h) fun v s1 ⟨x, H1, I1, r1, ty, q1⟩ => ?_)
  obtain ⟨h1, h2⟩ := tyV_is I1 r1 ty
  refine ⟨T, id, pa, slot, hty, h1, h2, ?_⟩
  have hA := ha cpos pins s1 σ H1 _ I1 q1
  rw [hs] at hA ⊢
  refine Calls.callWith_builtin (by show (false || (backTo cpos (starEach es X.env)).any (·.1)) = false; rw [hplain] <;> rfl) (Calls.evalArgs_plain ?_)
  exact thn hA fun us s2 ⟨vs, H2, I2, r2, q2⟩ => hm pins s2 σ H2 x vs v us Q I2 r1 r2 q2

end
end L2
namespace L2
open PySem PySem.Spec PyProof.Rows
noncomputable def MtM (X : Cx) (id : String) (r : V → List V → Hp → VK → Prop) : Prop :=
  ∀ (pins : List (Addr × Obj)) (s : Shared) (σ : St) (H : Hp) (x : V) (xs : List V) (v : Value) (us : List Value) (Q : VK), Inv X pins σ H s → RelV x v → Vals xs us → r x xs H Q →
    wpAny (model X.prog X.w) X.A (call (.builtin id) (v :: us)) (EP X pins σ Q) X.xe s


theorem Vals.one : ∀ {x : V} {us : List Value}, Vals [x] us → ∃ u, us = [u] ∧ RelV x u
  | _, _, .cons r .nil => ⟨_, rfl, r⟩
theorem Vals.two : ∀ {x y : V} {us : List Value}, Vals [x, y] us → ∃ u v, us = [u, v] ∧ RelV x u ∧ RelV y v
  | _, _, _, .cons r (.cons q .nil) => ⟨_, _, rfl, r, q⟩
theorem Vals.zero : ∀ {us : List Value}, Vals [] us → us = []
  | _, .nil => rfl
theorem Vals.eraseIdx : ∀ {xs : List V} {us : List Value} (i : Nat), Vals xs us → Vals (xs.eraseIdx i) (us.eraseIdx i)
  | _, _, _, .nil => .nil
  | _, _, 0, .cons _ t => t
  | _, _, i + 1, .cons r t => .cons r (Vals.eraseIdx i t)
theorem Vals.reverse {xs : List V} {us : List Value} (h : Vals xs us) : Vals xs.reverse us.reverse := by
  induction h with
  | nil => exact .nil
  | cons r t ih => rw [List.reverse_cons, List.reverse_cons]; exact Vals.append ih (.cons r .nil)
theorem Vals.rep {xs : List V} {us : List Value} (h : Vals xs us) : ∀ k : Nat, Vals (List.replicate k xs).flatten (List.replicate k us).flatten
  | 0 => .nil
  | k + 1 => by
    rw [List.replicate_succ, List.replicate_succ, List.flatten_cons, List.flatten_cons]
    exact Vals.append h (Vals.rep h k)
section
variable {X : Cx} {pins : List (Addr × Obj)} {σ : St} {H : Hp} {s : Shared} {l b : Addr} {xs ys zs : List V}
theorem Inv.lset {its its' : List Value} {n : Nat} {f : Array Value → Array Value} {t' : Nat} (I : Inv X pins σ H s) (hH : H l = some (.lst xs))
    (e : s.heap.get? l = some { cls := .type "list", data := .seq its.toArray n }) (hf : f its.toArray = its'.toArray) (hv : Vals ys its') (hz : ys.length ≤ sizeLine) :
    Inv X pins σ (upd H l (.lst ys)) { s with heap := s.heap.update l (Obj.mapSeq f), toks := t' } := by
  have q := PySem.IsL.update e f
  rw [hf] at q
  refine I.write (x := l) (e := l) (by rw [hH]; exact trivial) (.inl rfl) (fun b' u hb hu => (Heap.get?_update_other s.heap (Obj.mapSeq f) (Ne.symm hb)).trans hu) ⟨_, q⟩ ?_
  exact ⟨hz, its', _, hv, q⟩
theorem Inv.lnew {its : List Value} {t' : Nat} (I : Inv X pins σ H s) (hv : Vals ys its) (hz : ys.length ≤ sizeLine) :
    Inv X pins σ (upd H s.heap.objs.size (.lst ys)) { s with heap := s.heap.push { cls := .type "list", data := .seq its.toArray }, toks := t' } :=
  I.laid (fun _ _ q => Heap.get?_push_of_some _ q) (Nat.le_refl _) ⟨hz, its, 0, hv, Heap.get?_push_size _ rfl⟩
theorem Inv.fresh (I : Inv X pins σ H s) : H s.heap.objs.size = none := I.hok.fresh (Nat.le_refl _)
theorem Inv.lstM (I : Inv X pins σ H s) (hH : H l = some (.lst xs)) : xs.length ≤ sizeLine ∧ ∃ (its : List Value) (n : Nat), Vals xs its ∧ xs.length = its.length ∧ s.heap.get? l = some { cls := .type "list", data := .seq its.toArray n } := by
  obtain ⟨z, its, n, r, e⟩ := I.hok l _ hH
  exact ⟨z, its, n, r, r.length, e⟩

end
section
variable {X : Cx}
noncomputable def rAppend : V → List V → Hp → VK → Prop := fun x vs H Q => ∃ l xs y, x = .ref l ∧ vs = [y] ∧ H l = some (.lst xs) ∧ xs.length < sizeLine ∧ Q .non (upd H l (.lst (xs ++ [y])))
theorem mt_append : MtM X "list.append" rAppend := by
  intro pins s σ H x vs v us Q I rx rv h
  obtain ⟨l, xs, y, rfl, rfl, hH, hz, q⟩ := h
  cases rx
  obtain ⟨u, rfl, ru⟩ := rv.one
  obtain ⟨z, its, n, r, hl, e⟩ := I.lstM hH
  refine call_meets F.slot_list_append ⟨_, e, rfl⟩ F.entry_list_append (F.args_list_append_2 _ _) (PySem.list_append l its.toArray n u (by rw [List.size_toArray]; omega)) ⟨e, ?_⟩
  refine ⟨.non, _, I.lset (its' := its ++ [u]) hH e (by simp) (r.append (.cons ru .nil)) ?_, rfl, q⟩
  rw [List.length_append, List.length_singleton]
  omega

noncomputable def rReverse : V → List V → Hp → VK → Prop := fun x vs H Q => ∃ l xs, x = .ref l ∧ vs = [] ∧ H l = some (.lst xs) ∧ Q .non (upd H l (.lst xs.reverse))
theorem mt_reverse : MtM X "list.reverse" rReverse := by
  intro pins s σ H x vs v us Q I rx rv h
  obtain ⟨l, xs, rfl, rfl, hH, q⟩ := h
  cases rx
  have hus := rv.zero
  subst hus
  obtain ⟨z, its, n, r, hl, e⟩ := I.lstM hH
  refine call_meets F.slot_list_reverse ⟨_, e, rfl⟩ F.entry_list_reverse (F.args_list_reverse_1 _) (AutoSeq1.list_reverse_list_0 l its.toArray n (by rw [List.size_toArray]; omega)) ⟨e, ?_⟩
  refine ⟨.non, _, I.lset (its' := its.reverse) hH e (by simp) r.reverse ?_, rfl, q⟩
  rw [List.length_reverse]
  omega

noncomputable def rCat : R2 := fun x y H Q => ∃ l b xs zs, x = .ref l ∧ y = .ref b ∧ H l = some (.lst xs) ∧ H b = some (.lst zs) ∧ xs.length + zs.length ≤ sizeLine ∧ ∀ p, H p = none → Q (.ref p) (upd H p (.lst (xs ++ zs)))
theorem op_cat : OpR X (binaryOp .Add) rCat := by
  intro pins s σ H x y v u Q I rx ry h
  obtain ⟨l, b, xs, zs, rfl, rfl, hH, hB, hz, q⟩ := h
  cases rx
  cases ry
  obtain ⟨z, its, n, r, hl, e⟩ := I.lstM hH
  obtain ⟨z2, its2, n2, r2, hl2, e2⟩ := I.lstM hB
  refine PySem.P.add_list e e2 ?_ (by rw [List.size_toArray, List.size_toArray]; omega)
  have ea : its.toArray ++ its2.toArray = (its ++ its2).toArray := by simp
  rw [ea]
  exact ⟨.ref _, _, I.lnew (t' := s.toks) (r.append r2) (by rw [List.length_append]; omega), rfl, q _ I.fresh⟩

end
section
variable {prog : Program} {w : World} {A : Around} {E : Value → Shared → Prop} {s : Shared}
set_option maxRecDepth 100000 in

end
section
variable {X : Cx}
end
end L2
namespace Att
open PySem PySem.W PySem.Calls PyProof.Rows
theorem ints_of_wellAll {P : Params} {h : Heap} : ∀ (ns : List Int) (vs : List Value), WellAll P h vs (ns.map WData.int) → IntsAre vs ns := by
  intro ns
  induction ns with
  | nil =>
    intro vs w
    rw [List.map_nil] at w
    cases w
    exact .nil
  | cons n ns ih =>
    intro vs w
    rw [List.map_cons] at w
    cases w with
    | cons a b =>
      cases a
      exact .cons _ _ (ih _ b)

theorem script_of {l : OpenLaw} {n : Nat} (hn : l.most = some n) {P : Params} {h : Heap} {args : List WData} {vals : List Value}
    (hpre : l.row.toRowW.claim.pre args = true) (hwl : WellAll P h vals args) :
    ∃ a vs ns, vals = [Value.ref a] ∧ args = [WData.list (ns.map WData.int)] ∧ h.get? a = some { cls := .type "list", data := .seq vs.toArray } ∧ IntsAre vs ns ∧ ns.length ≤ n := by
  have hsh : WShape.hasAll [] args [.list .int] = true := (pre_splitW hpre).1
  have hc : l.pre.holds [] { args := args } = true := (pre_splitW hpre).2
  obtain ⟨d, r, rfl, h1, h2⟩ := hasAllW_cons hsh
  obtain rfl := hasAllW_nil h2
  obtain ⟨xs, rfl, h3⟩ := hasW_list h1
  obtain ⟨ns, rfl⟩ := items_int h3
  have hlen : ns.length ≤ n := by
    unfold OpenLaw.pre at hc
    have h4 : (WTm.not (.lt (.lit (.int (n : Int))) (.len (.arg 0)))).holds [] { args := [.list (ns.map .int)] } = true := by
      have h4 := (holds_andW hc).1
      rw [hn] at h4
      exact h4
    have h5 := condW_of h4 (w_not (w_lt w_lit (w_len_list (w_arg rfl))))
    rw [List.length_map] at h5
    refine Nat.le_of_not_lt fun q => ?_
    have q' : (n : Int) < ((ns.length : Nat) : Int) := by omega
    first
      | (rw [decide_eq_true q'] at h5; exact absurd h5 (by decide))
      | (simp at h5; omega)
  cases hwl with
  | cons w1 w2 =>
    cases w2
    cases w1 with
    | list ho hall => exact ⟨_, _, ns, rfl, rfl, ho, ints_of_wellAll ns _ hall, hlen⟩

theorem post_true (l : OpenLaw) (args : List WData) : l.row.toRowW.claim.post args (.bool true) args = true :=
  postW_of (r := l.row.toRowW) (X := (true == true))
    (show WShape.has [] (.bool true) .bool = true by first | rfl | decide | simp [WShape.has, WShape.arms, WShape.armsAll])
    (show (WTm.eq .res (.lit (.bool true))).value [] { args := args, res := some (.bool true), after := args } = some (.bool (true == true)) from w_eq_bool (w_res rfl) w_lit) rfl


theorem attach_call {l : OpenLaw} {n : Nat} {q : Program} {loose : List Str} {XP : (Str → Option Value) → Heap → Prop} {YP : World → Heap → Prop} {d : DefRec}
    (hn : l.most = some n) (hdf : d.params.defaults = [])
    (call : ∀ (w : World) (s₀ s₁ : Shared) (mg mb : Str → Option Value) (fa : Addr) (o : Obj) (pm cd doc : Value) (a : Addr) (vs : List Value) (ns : List Int),
      Ground q loose [] XP w s₀ mg mb s₁.heap → YP w s₁.heap →
      s₁.heap.get? fa = some o → o.data = .func (docDef d.name d.params d.body d.scope pm cd doc) → s₁.heap.CodeRec cd d.name → mg d.name = some (.ref fa) →
      s₁.heap.get? a = some { cls := .type "list", data := .seq vs.toArray } → IntsAre vs ns → ns.length ≤ n → s₁.gens = #[] →
      codeAny (model l.prog w) callerA (.call (.ref fa) ⟨[.ref a], []⟩) (fun r s' => r = .ok (.ret (.bool true)) ∧ OldK s₁.heap s'.heap ∧ s'.os = s₁.os ∧ AllBare s'.gens) s₁) :
    WalkO q loose XP YP l.row.toRowW d [] (fun f vs => PySem.call f vs) := by
  intro w s₀ s₁ mg mb G Y fa o pm cd doc dV kV ho hd hcd hD hmg hg args vals as hpre hlay hrd hwl hlo
  obtain rfl : dV = .none := Dflts.none hD hdf
  obtain rfl : kV = .none := Dflts.noKw hD
  obtain ⟨a, vs, ns, rfl, rfl, hobj, hints, hlen⟩ := script_of hn hpre hwl
  refine enter_call (codeAny_mono (call w s₀ s₁ mg mb fa o pm cd doc a vs ns G Y ho (fd_plain hd) hcd hmg hobj hints hlen hg) fun r s' hq => ?_)
  obtain ⟨rfl, h2, h3, h4⟩ := hq
  exact ⟨.inl ⟨.bool true, .bool true, [], rfl, fun _ => rfl, .bool true, post_true l _, fun _ => ⟨List.Pairwise.nil, fun _ hm => (nomatch hm)⟩⟩, h2, h3, h4⟩


section
variable {prog : Program} {w : World} {A : Around} {E : Value → Shared → Prop} {s : Shared} {K : Frag}
end
end Att
namespace L2
open PySem PySem.Spec PyProof.Rows
theorem vals_ints : ∀ {vs : List Value} {ns : List Int}, IntsAre vs ns → Vals (ns.map V.int) vs
  | _, _, .nil => .nil
  | _, _, .cons n t h => .cons ⟨t, rfl⟩ (vals_ints h)


noncomputable def Only (H : Hp) : Prop := ∀ b, H b = none ∨ ∃ o xs, H b = some (.frz o (.lst xs))


theorem law_call {P : Program} {w : World} {K : PySem.W.Frag} {mg mb : Str → Option Value} {CX : CXT} {k : Nat} {fa a : Addr} {fd : FuncData} {x : Str} {sp : Sp} {s₁ : Shared} {vs : List Value} {ns : List Int}
    (KX : K.In s₁.heap) (hns : s₁.heap.Ns mainGlobals mg) (hb : s₁.heap.Ns builtinsNs mb) (hbb : ∀ x : Str, x ≠ "__name__" → mb x = bootBuiltins x) (hlim : s₁.heap.NoLimit) (hg : s₁.gens = #[])
    (ha : s₁.heap.get? a = some { cls := .type "list", data := .seq vs.toArray }) (hi : IntsAre vs ns) (hl : ns.length ≤ sizeLine) (hr : Room k callerA)
    (F : ∀ base : Heap, K.In base → base.Ns mainGlobals mg → FnOk P w K mg base CX k fa fd [x] sp) (hbind : ∀ (s : Shared) (u : Value), BindsTo s fd ⟨[u], []⟩ [(x, u)])
    (hsp : ∀ H : Hp, Only H → SqL K H a (ns.map V.int) → sp [.ref a] H (fun v _ => v = .bl true) fun _ _ _ => False)
    (hCX : ∀ H e s', CX [] H s₁ (fun _ _ _ => False) e s' → False) :
    codeAny (model P w) callerA (.call (.ref fa) ⟨[.ref a], []⟩) (fun r s' => r = .ok (.ret (.bool true)) ∧ OldK s₁.heap s'.heap ∧ s'.os = s₁.os ∧ AllBare s'.gens) s₁ := by
  have rv := vals_ints hi
  have lenV := hi.length
  have core : ∀ H : Hp, Only H → SqL K H a (ns.map V.int) → HOk P w H s₁.heap → (∀ b, H b ≠ none → b = a) → (H a ≠ none → K.lookup a = none) →
      codeAny (model P w) callerA (.call (.ref fa) ⟨[.ref a], []⟩) (fun r s' => r = .ok (.ret (.bool true)) ∧ OldK s₁.heap s'.heap ∧ s'.os = s₁.os ∧ AllBare s'.gens) s₁ := by
    intro H hO hS hok hA hK
    have base_of : ∀ {b : Addr} {o : Obj}, s₁.heap.get? b = some o → H b = none → (hidT s₁.heap H).get? b = some o := fun e n => hidT_get e n
    have noA : ∀ {b : Addr} {o : Obj} {es : Array DictEntry} {ep : Nat}, s₁.heap.get? b = some o → o.data = .dict es ep → H b = none := fun {b o es ep} e d => by
      cases q : H b with
      | none => rfl
      | some u =>
        have e' : b = a := hA b (by rw [q]; simp)
        subst e'
        rw [ha] at e; cases e
        have d' : Data.seq vs.toArray _ = Data.dict es ep := d
        cases d'
    have nsK : ∀ {b : Addr} {m : Str → Option Value}, s₁.heap.Ns b m → (hidT s₁.heap H).Ns b m := fun {b m} ⟨o, es, ep, e, d, r⟩ => ⟨o, es, ep, base_of e (noA e d), d, r⟩
    have hKb : K.In (hidT s₁.heap H) := fun b o e => base_of (KX b o e) (by
      cases q : H b with
      | none => rfl
      | some u =>
        have e' : b = a := hA b (by rw [q]; simp)
        subst e'
        rw [hK (by rw [q]; simp)] at e; cases e)
    have hM : Mod K mg (hidT s₁.heap H) := ⟨hKb, nsK hns, ⟨mb, nsK hb, hbb⟩, let ⟨mc, h1, h2⟩ := hlim; ⟨mc, nsK h1, h2⟩⟩
    have e0 : Env0 P w K mg (hidT s₁.heap H) callerA [] s₁ H := ⟨rfl, hM, fun b o e => of_hidT e, Nat.le_of_eq (hidT_size _ _), trivial, fun b hb => absurd (show b ∈ ([] : List Addr) from hb) (by simp), hok, .of_eq hg⟩
    refine codeAny_mono ((F _ hKb (nsK hns)).run callerA [] s₁ H ⟨[.ref a], []⟩ [.ref a] [.ref a] _ _ hr e0 (hbind s₁ (.ref a)) (.cons rfl .nil) (hsp H hO hS)) fun r s' h => ?_
    cases r with
    | error e => exact (hCX H e s' h).elim
    | ok fl =>
      cases fl with
      | next => exact False.elim h
      | brk => exact False.elim h
      | cont => exact False.elim h
      | ret u =>
        obtain ⟨v, H', os, bare, un, hok', r', q⟩ := h
        have q' : v = .bl true := q
        subst q'
        obtain rfl : u = Value.bool true := r'
        refine ⟨rfl, OldK.of_keep fun b o e => ?_, os, bare⟩
        cases q : H b with
        | none => exact un.keep b o e q (by intro z; exact absurd (show b ∈ ([] : List Addr) from z) (by simp)) (by simp)
        | some u =>
          rcases hO b with z | ⟨ob, xs, z⟩
          · rw [q] at z; cases z
          · have z2 := un.frzs b ob _ z
            obtain ⟨e1, _⟩ := hok b _ z
            obtain ⟨e2, _⟩ := hok' b _ z2
            rw [e] at e1; cases e1
            exact e2
  cases hk : K.lookup a with
  | some o =>
    have e := KX a o hk
    rw [ha] at e
    cases e
    refine core (fun _ => none) (fun _ => .inl rfl) (.inr ⟨_, vs.toArray, _, hk, rfl, rfl, rfl, by rw [List.size_toArray, lenV]; exact hl, by simpa using rv⟩) (fun b u z => by have z' : (none : Option HO) = some u := z; cases z') (fun b z => absurd rfl z) fun z => absurd rfl z
  | none =>
    refine core (fun b => if b = a then some (.frz { cls := .type "list", data := .seq vs.toArray } (.lst (ns.map V.int))) else none) (fun b => ?_) (.inl (.inr ⟨{ cls := .type "list", data := .seq vs.toArray }, if_pos rfl⟩)) (fun b u z => ?_) (fun b z => ?_) fun _ => hk
    · by_cases hb : b = a
      · exact .inr ⟨_, _, if_pos hb⟩
      · exact .inl (if_neg hb)
    · by_cases hb : b = a
      · have z' := (if_pos hb).symm.trans z
        cases z'
        subst hb
        exact ⟨ha, by rw [List.length_map]; exact hl, vs, _, rv, ha⟩
      · have z' := (if_neg hb).symm.trans z
        cases z'
    · by_cases hb : b = a
      · exact hb
      · exact absurd (if_neg hb) z
end L2
namespace L2
open PySem PySem.Spec PyProof.Rows
noncomputable abbrev KOf {K : PySem.W.Frag} {h : Heap} (_ : K.In h) : PySem.W.Frag := K


theorem walk_of {l : PySem.W.OpenLaw} {n k : Nat} {q : Program} {loose : List Str} {XP : (Str → Option Value) → Heap → Prop} {YP : World → Heap → Prop} {d : DefRec} {K : Params → PySem.W.Frag} {CX : World → CXT} {sp : World → Sp} {x : Str}
    (hn : l.most = some n) (hn2 : n ≤ sizeLine) (hdf : d.params.defaults = []) (hr : Room k callerA)
    (hY : ∀ (w : World) (h : Heap), YP w h → (K w.params).In h)
    (F : ∀ (w : World) (mg : Str → Option Value) (fa : Addr) (h : Heap), (K w.params).In h → h.Ns mainGlobals mg → mg d.name = some (.ref fa) →
      ∃ fd : FuncData, (∀ (s : Shared) (u : Value), BindsTo s fd ⟨[u], []⟩ [(x, u)]) ∧
        ∀ base : Heap, (K w.params).In base → base.Ns mainGlobals mg → FnOk l.prog w (K w.params) mg base (CX w) k fa fd [x] (sp w))
    (hsp : ∀ (w : World) (H : Hp) (a : Addr) (ns : List Int), ns.length ≤ n → Only H → SqL (K w.params) H a (ns.map V.int) → sp w [.ref a] H (fun v _ => v = .bl true) fun _ _ _ => False)
    (hCX : ∀ (w : World) (H : Hp) (s : Shared) (e : Value) (s' : Shared), CX w [] H s (fun _ _ _ => False) e s' → False) :
    PySem.W.WalkO q loose XP YP l.row.toRowW d [] (fun f vs => PySem.call f vs) := by
  refine Att.attach_call hn hdf fun w s₀ s₁ mg mb fa o pm cd doc a vs ns G Y ho hd hcd hmg hobj hints hlen hg => ?_
  have KX := hY w _ Y
  obtain ⟨fd, hb, hF⟩ := F w mg fa _ KX G.T.g hmg
  exact law_call KX G.T.g G.T.b G.T.builtins G.T.nolimit hg hobj hints (Nat.le_trans hlen hn2) hr hF hb (fun H hO hS => hsp w H a ns hlen hO hS) fun H e s' => hCX w H s₁ e s'

theorem walk_ofK {l : PySem.W.OpenLaw} {n k : Nat} {q : Program} {loose : List Str} {XP : (Str → Option Value) → Heap → Prop} {YP : World → Heap → Prop} {d : DefRec} {K : Params → PySem.W.Frag} {CX : CXT} {sp : PySem.W.Frag → Sp} {x : Str}
    (hn : l.most = some n) (hn2 : n ≤ sizeLine) (hdf : d.params.defaults = []) (hr : Room k callerA)
    (hY : ∀ (w : World) (h : Heap), YP w h → (K w.params).In h)
    (F : ∀ (w : World) (mg : Str → Option Value) (fa : Addr) (h : Heap), (K w.params).In h → h.Ns mainGlobals mg → mg d.name = some (.ref fa) →
      ∃ fd : FuncData, (∀ (s : Shared) (u : Value), BindsTo s fd ⟨[u], []⟩ [(x, u)]) ∧
        ∀ base : Heap, (K w.params).In base → base.Ns mainGlobals mg → FnOk l.prog w (K w.params) mg base CX k fa fd [x] (sp (K w.params)))
    (hsp : ∀ (K : PySem.W.Frag) (H : Hp) (a : Addr) (ns : List Int), ns.length ≤ n → Only H → SqL K H a (ns.map V.int) → sp K [.ref a] H (fun v _ => v = .bl true) fun _ _ _ => False)
    (hCX : ∀ (H : Hp) (s : Shared) (e : Value) (s' : Shared), CX [] H s (fun _ _ _ => False) e s' → False) :
    PySem.W.WalkO q loose XP YP l.row.toRowW d [] (fun f vs => PySem.call f vs) :=
  walk_of (K := K) (CX := fun _ => CX) (sp := fun w => sp (K w.params)) hn hn2 hdf hr hY F (fun w H a ns h1 h2 h3 => hsp (K w.params) H a ns h1 h2 h3) fun _ H s e s' => hCX H s e s'
end L2
namespace L2
open PySem PySem.Spec PyProof.Rows
noncomputable def inClass (s : Stmt) (j : Nat) : Stmt := match s with
  | .ClassDef _ _ _ body _ _ _ _ _ _ _ => body.getD j (.Pass ⟨0, 0, 0, 0⟩)
  | _ => .Pass ⟨0, 0, 0, 0⟩
noncomputable def defArgs (s : Stmt) : Arguments := match s with
  | .FunctionDef _ a _ _ _ _ _ _ _ _ => a
  | _ => { posonlyargs := [], args := [], vararg := none, kwonlyargs := [], kw_defaults := [], kwarg := none, defaults := [] }
noncomputable def defBody (s : Stmt) : List Stmt := match s with
  | .FunctionDef _ _ b _ _ _ _ _ _ _ => b
  | _ => []
noncomputable def defScope (s : Stmt) : Scope := match s with
  | .FunctionDef _ _ _ _ _ _ sc _ _ _ => sc
  | _ => { kind := .function, names := [], isGenerator := false, isCoroutine := false }


noncomputable abbrev CX0 : CXT := fun _ _ _ _ _ _ => False
noncomputable abbrev E0 : XK := fun _ _ _ => False
theorem pass0 {X : Cx} : Passes CX0 X E0 := fun _ _ _ _ _ _ _ h => h.elim


structure Fun (K : PySem.W.Frag) (x qual : Str) (st : Stmt) (f : Addr) (fd : FuncData) : Prop where
  ex : ∃ (oc : Value) (od : Option Addr) (kV doc pm : Value) (an : Option Addr) (cdv ct : Value) (osl : Array (Option Value)),
    fd = PySem.W.fnOf x qual (defArgs st) (defBody st) (defScope st) .none kV doc pm an cdv ct ∧ K.lookup f = some ⟨oc, od, .func fd, osl⟩ ∧ PySem.W.codeIn K cdv qual = true
  kp : PySem.W.keepIn K (.ref f) = true
section
variable {P : Program} {w : World} {K : PySem.W.Frag} {mg : Str → Option Value} {base : Heap}
theorem Fun.ok {x qual : Str} {st : Stmt} {f : Addr} {fd : FuncData} {N ps : List Str} {k : Nat} {sp : Sp} (F : Fun K x qual st f fd) (S : FnScope N ps (defScope st)) (len : ∀ vs H Q E, sp vs H Q E → vs.length = ps.length)
    (hbody : ∀ (cdv : Value) (A : Around) (outer : List Env) (s : Shared) (H : Hp) (vs : List V) (Q : VK) (E : XK), Room k (A.deeper (envOfC qual (defScope st) s.heap.objs.size f cdv)) → sp vs H Q E →
      ∃ t, PSs (cxOf CX0 P w K mg base N qual (defScope st) f cdv A outer s H E).nox (defBody st) t ∧ t { nx := fun _ H' => Q .non H', rt := Q } (start N vs) H) : FnOk P w K mg base CX0 (k + 1) f fd ps sp := by
  obtain ⟨oc, od, kV, doc, pm, an, cdv, ct, osl, rfl, lk, hcd⟩ := F.ex
  refine fn_of lk hcd S len fun A outer s H vs Q E hr hsp => ?_
  obtain ⟨t, h, q⟩ := hbody cdv A outer s H vs Q E hr hsp
  exact ⟨t, h.nox, q⟩

theorem Fun.binds {x qual : Str} {st : Stmt} {f : Addr} {fd : FuncData} {ps : List Str} (F : Fun K x qual st f fd)
    (h : ∀ (kV doc pm : Value) (an : Option Addr) (cdv ct : Value) (us : List Value), us.length = ps.length → bindArgs (PySem.W.fnOf x qual (defArgs st) (defBody st) (defScope st) .none kV doc pm an cdv ct) ⟨us, []⟩ = pure (ps.zip us)) : Binds K fd ps [] := by
  obtain ⟨oc, od, kV, doc, pm, an, cdv, ct, osl, rfl, lk, hcd⟩ := F.ex
  exact .all (h kV doc pm an cdv ct)
theorem fun_mk {x qual : Str} {st : Stmt} {f : Addr} {oc : Value} {od an : Option Addr} {osl : Array (Option Value)} {kV doc pm cdv ct : Value} (l : K.lookup f = some ⟨oc, od, .func (PySem.W.fnOf x qual (defArgs st) (defBody st) (defScope st) .none kV doc pm an cdv ct), osl⟩)
    (c : PySem.W.codeIn K cdv qual = true) (k : PySem.W.keepIn K (.ref f) = true) : Fun K x qual st f (PySem.W.fnOf x qual (defArgs st) (defBody st) (defScope st) .none kV doc pm an cdv ct) := ⟨⟨oc, od, kV, doc, pm, an, cdv, ct, osl, rfl, l, c⟩, k⟩
end
theorem small1000 {n : Nat} (h : n ≤ 1000) : n < sizeLine := Nat.lt_of_le_of_lt h (by decide)


section
variable {X : Cx}
theorem pv (i : Nat) {x : Str} {pos : Pos} (hN : X.N[i]? = some x := by rfl) (hv : Vis X.env.scope x := by first | exact Or.inl rfl | exact Or.inr (Or.inl rfl) | exact Or.inr (Or.inr rfl)) (hd : (x == ("__debug__" : Str)) = false := by decide)
    (hcd : (x == ("__classdict__" : Str)) = false := by decide) : PE X (.Name x pos) (tVar i) := pe_var hN hv hd hcd
end
theorem iteF {A B : Prop} (h : B) : if false = true then A else B := by
  rw [if_neg Bool.false_ne_true]
  exact h
theorem iteT {A B : Prop} (h : A) : if true = true then A else B := by
  rw [if_pos rfl]
  exact h
noncomputable def Same (H H' : Hp) : Prop := ∀ b o, H b = some o → H' b = some o
theorem Same.refl (H : Hp) : Same H H := fun _ _ h => h
theorem Same.trans {H H1 H2 : Hp} (a : Same H H1) (b : Same H1 H2) : Same H H2 := fun c o h => b c o (a c o h)
theorem Same.free {H H' : Hp} (e : Same H H') {l : Addr} (h : H' l = Option.none) : H l = Option.none := by
  cases q : H l with
  | none => rfl
  | some o =>
    rw [e l o q] at h
    cases h
theorem Same.seq {K : PySem.W.Frag} {H H' : Hp} {a : Addr} {xs : List V} (e : Same H H') (h : SqL K H a xs) : SqL K H' a xs := by
  rcases h with (h | ⟨o, h⟩) | h
  · exact .inl (.inl (e _ _ h))
  · exact .inl (.inr ⟨o, e _ _ h⟩)
  · exact .inr h

end L2
namespace L2
open PySem PySem.Spec PyProof.Rows
section
variable {κ : Type} [DecidableEq κ]
noncomputable def valV (kvs : List (κ × V)) (k : κ) : Option V := (kvs.find? fun kv => decide (kv.1 = k)).map (·.2)

noncomputable def putK (kvs : List (κ × V)) (k : κ) (v : V) : List (κ × V) :=
  if (kvs.any fun kv => decide (kv.1 = k)) = true then kvs.map (fun kv => if kv.1 = k then (kv.1, v) else kv) else kvs ++ [(k, v)]
noncomputable def dropK (kvs : List (κ × V)) (k : κ) : List (κ × V) := kvs.filter fun kv => decide (kv.1 ≠ k)

theorem valV_pos {p : κ × V} {r : List (κ × V)} {k : κ} (e : p.1 = k) : valV (p :: r) k = some p.2 := by simp [valV, List.find?_cons, e]
theorem valV_neg {p : κ × V} {r : List (κ × V)} {k : κ} (e : ¬ p.1 = k) : valV (p :: r) k = valV r k := by simp [valV, List.find?_cons, e]
theorem valV_any (k : κ) : ∀ kvs : List (κ × V), (kvs.any fun kv => decide (kv.1 = k)) = (valV kvs k).isSome
  | [] => rfl
  | p :: r => by
    rw [List.any_cons]
    by_cases e : p.1 = k
    · simp only [valV_pos e, decide_eq_true e, Bool.true_or, Option.isSome_some]
    · rw [valV_neg e, decide_eq_false e, Bool.false_or]; exact valV_any k r
theorem RelO.isSome_eq {o : Option V} {u : Option Value} (r : RelO o u) : o.isSome = u.isSome := by
  cases o with
  | none => cases u with
    | none => rfl
    | some _ => exact (show False from r).elim
  | some _ => cases u with
    | none => exact (show False from r).elim
    | some _ => rfl
theorem RelO.getD {o : Option V} {u : Option Value} {d : V} {d' : Value} (r : RelO o u) (rd : RelV d d') : RelV (o.getD d) (u.getD d') := by
  cases o with
  | none => cases u with
    | none => exact rd
    | some _ => exact (show False from r).elim
  | some _ => cases u with
    | none => exact (show False from r).elim
    | some _ => exact r


theorem KV.val {kvs : List (κ × V)} {vs : List (κ × Value)} (r : KV kvs vs) (k : κ) : RelO (valV kvs k) (valueAt vs k) := by
  unfold KV at r
  induction r with
  | nil => exact True.intro
  | @cons p q ps qs h t ih =>
    obtain ⟨h1, h2⟩ := h
    by_cases e : p.1 = k
    · have e' : q.1 = k := h1.symm.trans e
      have b : valueAt (q :: qs) k = some q.2 := by simp [valueAt, List.find?_cons, e']
      rw [valV_pos e, b]; exact h2
    · have e' : ¬ q.1 = k := fun z => e (h1.trans z)
      have b : valueAt (q :: qs) k = valueAt qs k := by simp [valueAt, List.find?_cons, e']
      rw [valV_neg e, b]; exact ih
theorem KV.any {kvs : List (κ × V)} {vs : List (κ × Value)} (r : KV kvs vs) (k : κ) : (kvs.any fun kv => decide (kv.1 = k)) = vs.any fun kv => decide (kv.1 = k) := by
  unfold KV at r
  induction r with
  | nil => rfl
  | cons h t ih => rw [List.any_cons, List.any_cons, ih, h.1]
theorem KV.repl {kvs : List (κ × V)} {vs : List (κ × Value)} (r : KV kvs vs) (k : κ) {y : V} {u : Value} (ry : RelV y u) :
    KV (kvs.map fun kv => if kv.1 = k then (kv.1, y) else kv) (vs.map fun kv => if kv.1 = k then (kv.1, u) else kv) := by
  unfold KV at r ⊢
  induction r with
  | nil => exact .nil
  | @cons p q ps qs h t ih =>
    rw [List.map_cons, List.map_cons]
    refine .cons ?_ ih
    obtain ⟨h1, h2⟩ := h
    by_cases e : p.1 = k
    · rw [if_pos e, if_pos (h1.symm.trans e)]; exact ⟨h1, ry⟩
    · rw [if_neg e, if_neg (fun z => e (h1.trans z))]; exact ⟨h1, h2⟩
theorem KV.put {kvs : List (κ × V)} {vs : List (κ × Value)} (r : KV kvs vs) (k : κ) {y : V} {u : Value} (ry : RelV y u) : KV (putK kvs k y) (stored vs k u) := by
  unfold putK stored
  rw [r.any k]
  by_cases e : (vs.any fun kv => decide (kv.1 = k)) = true
  · rw [if_pos e, if_pos e]; exact r.repl k ry
  · rw [if_neg e, if_neg e]; exact Paired.snoc r ⟨rfl, ry⟩
theorem KV.drop {kvs : List (κ × V)} {vs : List (κ × Value)} (r : KV kvs vs) (k : κ) : KV (dropK kvs k) (without vs k) := by
  unfold KV at r ⊢
  unfold dropK without
  induction r with
  | nil => exact .nil
  | @cons p q ps qs h t ih =>
    obtain ⟨h1, h2⟩ := h
    rw [List.filter_cons, List.filter_cons]
    by_cases e : p.1 = k
    · have a : ¬ decide (p.1 ≠ k) = true := by simp [e]
      have b : ¬ decide (q.1 ≠ k) = true := by simp [h1.symm.trans e]
      rw [if_neg a, if_neg b]; exact ih
    · have e' : ¬ q.1 = k := fun z => e (h1.trans z)
      have a : decide (p.1 ≠ k) = true := by simp [e]
      have b : decide (q.1 ≠ k) = true := by simp [e']
      rw [if_pos a, if_pos b]; exact .cons ⟨h1, h2⟩ ih
theorem KV.length {kvs : List (κ × V)} {vs : List (κ × Value)} (r : KV kvs vs) : kvs.length = vs.length := Paired.length r
end
noncomputable abbrev KT (H : Hp) : List (List Key × V) → List (List Key × Addr × Value) → Prop := Paired fun p q => p.1 = q.1 ∧ H q.2.1 = some (.tup (p.1.map kV)) ∧ RelV p.2 q.2.2
theorem KT.val {H : Hp} {kvs : List (List Key × V)} {xs : List (List Key × Addr × Value)} (r : KT H kvs xs) (k : List Key) : RelO (valV kvs k) ((atKey xs k).map (·.2)) := by
  induction r with
  | nil => exact True.intro
  | @cons p q ps qs h t ih =>
    obtain ⟨h1, _, h2⟩ := h
    by_cases e : p.1 = k
    · have e' : q.1 = k := h1.symm.trans e
      have b : atKey (q :: qs) k = some q.2 := by simp [atKey, List.find?_cons, e']
      rw [valV_pos e, b]; exact h2
    · have e' : ¬ q.1 = k := fun z => e (h1.trans z)
      have b : atKey (q :: qs) k = atKey qs k := by simp [atKey, List.find?_cons, e']
      rw [valV_neg e, b]; exact ih
theorem KT.repl {H : Hp} {kvs : List (List Key × V)} {xs : List (List Key × Addr × Value)} (r : KT H kvs xs) (k : List Key) {y : V} {u : Value} (ry : RelV y u) :
    KT H (kvs.map fun kv => if kv.1 = k then (kv.1, y) else kv) (xs.map (putAt k u)) := by
  induction r with
  | nil => exact .nil
  | @cons p q ps qs h t ih =>
    rw [List.map_cons, List.map_cons]
    refine .cons ?_ ih
    obtain ⟨h1, h2, h3⟩ := h
    unfold putAt
    by_cases e : p.1 = k
    · rw [if_pos e, if_pos (h1.symm.trans e)]; exact ⟨h1, h2, ry⟩
    · rw [if_neg e, if_neg (fun z => e (h1.trans z))]; exact ⟨h1, h2, h3⟩
theorem KT.put {H : Hp} {kvs : List (List Key × V)} {xs : List (List Key × Addr × Value)} (r : KT H kvs xs) (k : List Key) {b : Addr} {y : V} {u : Value} (hb : H b = some (.tup (k.map kV))) (ry : RelV y u) :
    KT H (putK kvs k y) (storedH xs k b u) := by
  have e : (kvs.any fun kv => decide (kv.1 = k)) = (atKey xs k).isSome := by
    rw [valV_any, (r.val k).isSome_eq, Option.isSome_map]
  unfold putK storedH
  rw [e]
  by_cases q : (atKey xs k).isSome = true
  · rw [if_pos q, if_pos q]; exact r.repl k ry
  · rw [if_neg q, if_neg q]; exact Paired.snoc r ⟨rfl, hb, ry⟩
theorem KT.keeps {H H' : Hp} {kvs : List (List Key × V)} {xs : List (List Key × Addr × Value)} (r : KT H kvs xs) (ht : ∀ b ys, H b = some (.tup ys) → H' b = some (.tup ys)) : KT H' kvs xs :=
  Paired.mapP r fun _ _ z => ⟨z.1, ht _ _ z.2.1, z.2.2⟩

section
variable {P : Program} {w : World} {H : Hp} {h : Heap} {a : Addr}
end
noncomputable def DGet (H : Hp) (a : Addr) (y : V) (r : Option V) : Prop :=
  (∃ kvs k, Rd H a (.dK kvs) ∧ y = kV k ∧ r = valV kvs k) ∨ ∃ kvs k b, Rd H a (.dT kvs) ∧ y = .ref b ∧ H b = some (.tup (k.map kV)) ∧ r = valV kvs k

noncomputable def DPut (H : Hp) (a : Addr) (y v : V) (H' : Hp) : Prop :=
  (∃ kvs k, H a = some (.dK kvs) ∧ y = kV k ∧ kvs.length < sizeLine ∧ H' = upd H a (.dK (putK kvs k v))) ∨
  ∃ kvs k b, H a = some (.dT kvs) ∧ y = .ref b ∧ H b = some (.tup (k.map kV)) ∧ kvs.length < sizeLine ∧ H' = upd H a (.dT (putK kvs k v))
theorem DGet.k {H : Hp} {a : Addr} {kvs : List (Key × V)} {k : Key} (e : H a = some (.dK kvs)) : DGet H a (kV k) (valV kvs k) := .inl ⟨kvs, k, .inl e, rfl, rfl⟩
theorem DGet.t {H : Hp} {a b : Addr} {kvs : List (List Key × V)} {k : List Key} (e : H a = some (.dT kvs)) (eb : H b = some (.tup (k.map kV))) : DGet H a (.ref b) (valV kvs k) := .inr ⟨kvs, k, b, .inl e, rfl, eb, rfl⟩
theorem DPut.k {H : Hp} {a : Addr} {kvs : List (Key × V)} {k : Key} {v : V} (e : H a = some (.dK kvs)) (hl : kvs.length < sizeLine) : DPut H a (kV k) v (upd H a (.dK (putK kvs k v))) := .inl ⟨kvs, k, e, rfl, hl, rfl⟩
theorem DPut.t {H : Hp} {a b : Addr} {kvs : List (List Key × V)} {k : List Key} {v : V} (e : H a = some (.dT kvs)) (eb : H b = some (.tup (k.map kV))) (hl : kvs.length < sizeLine) :
    DPut H a (.ref b) v (upd H a (.dT (putK kvs k v))) := .inr ⟨kvs, k, b, e, rfl, eb, hl, rfl⟩


section
variable {X : Cx} {pins : List (Addr × Obj)} {σ : St} {H : Hp} {s : Shared} {a : Addr} {y v : V} {u r : Value} {o : Option V} {A : Around} {E : Value → Shared → Prop}
end
section
variable {X : Cx} {pins : List (Addr × Obj)} {σ : St} {H : Hp} {s : Shared} {a : Addr} {kvs : List (Key × V)} {k : Key} {u : Value} {A : Around} {E : Value → Shared → Prop}
end
section
variable {X : Cx} {o i e value : Expr} {pos pos' tpos : Pos} {td ty tv : TE}
end
section
variable {X : Cx} {pos : Pos}
end
section
variable {X : Cx} {pins : List (Addr × Obj)} {σ : St} {H : Hp} {s : Shared} {a : Addr} {y d : V} {u r : Value} {o : Option V} {A : Around} {E : Value → Shared → Prop}
end
section
variable {X : Cx} {o e f : Expr} {apos cpos : Pos} {td ty tx : TE}
end
section
variable {X : Cx} {pins : List (Addr × Obj)} {σ : St} {H : Hp} {s : Shared} {a : Addr} {kvs : List (Key × V)} {A : Around} {E : Value → Shared → Prop}
end
section
variable {X : Cx} {pins : List (Addr × Obj)} {σ : St} {H : Hp} {s : Shared} {a : Addr} {y : V} {u : Value} {A : Around} {E : Value → Shared → Prop}
end
end L2
namespace L2
open PySem PySem.Spec PyProof.Rows
section
variable {κ : Type} [DecidableEq κ]
end
end L2
set_option maxHeartbeats 4000000
namespace L2
open PySem
theorem forIn_cl {env : Env} (f : (Str × NameKind) → List (Str × Addr) → Sem (ForInStep (List (Str × Addr))))
    (h1 : ∀ n k r, k ≠ NameKind.free → f (n, k) r = pure (.yield r))
    (h2 : ∀ n r c, env.cells.lookup n = some c → f (n, .free) r = pure (.yield ((n, c) :: r))) :
    ∀ (l : List (Str × NameKind)) (acc : List (Str × Addr)), (∀ x ∈ l, x.2 = .free → ∃ c, env.cells.lookup x.1 = some c) →
      (∀ x c, acc.lookup x = some c → env.cells.lookup x = some c) →
      ∃ cl, forIn l acc f = (pure cl : Sem _) ∧ (∀ x c, cl.lookup x = some c → env.cells.lookup x = some c) ∧
        (∀ x, ((∃ c, acc.lookup x = some c) ∨ (x, NameKind.free) ∈ l) → ∃ c, cl.lookup x = some c)
  | [], acc, _, ha => ⟨acc, rfl, ha, fun x hx => hx.elim id (fun z => nomatch z)⟩
  | (n, k) :: l, acc, hl, ha => by
    have hl' : ∀ x ∈ l, x.2 = .free → ∃ c, env.cells.lookup x.1 = some c := fun x hx => hl x (List.mem_cons_of_mem _ hx)
    by_cases hk : k = .free
    · subst hk
      obtain ⟨c, hc⟩ := hl (n, .free) List.mem_cons_self rfl
      have hc' : env.cells.lookup n = some c := hc
      have ha' : ∀ x c', ((n, c) :: acc).lookup x = some c' → env.cells.lookup x = some c' := fun x c' hx => by
        rw [List.lookup_cons] at hx
        cases e : x == n with
        | true =>
          rw [e] at hx
          cases hx
          rw [eq_of_beq e]; exact hc'
        | false =>
          rw [e] at hx
          exact ha x c' hx
      obtain ⟨cl, e, a1, a2⟩ := forIn_cl f h1 h2 l ((n, c) :: acc) hl' ha'
      refine ⟨cl, ?_, a1, fun x hx => a2 x ?_⟩
      · rw [List.forIn_cons, h2 n acc c hc', pure_bind]
        exact e
      · have here : ∀ c', acc.lookup x = some c' → ∃ c'', ((n, c) :: acc).lookup x = some c'' := fun c' z => by
          rw [List.lookup_cons]
          cases e : x == n with
          | true => exact ⟨c, rfl⟩
          | false => exact ⟨c', z⟩
        rcases hx with ⟨c', z⟩ | hx
        · exact .inl (here c' z)
        · rcases List.mem_cons.mp hx with z | z
          · cases z
            refine .inl ⟨c, ?_⟩
            rw [List.lookup_cons, beq_self_eq_true]
          · exact .inr z
    · obtain ⟨cl, e, a1, a2⟩ := forIn_cl f h1 h2 l acc hl' ha
      refine ⟨cl, ?_, a1, fun x hx => a2 x ?_⟩
      · rw [List.forIn_cons, h1 n k acc hk, pure_bind]
        exact e
      · rcases hx with hx | hx
        · exact .inl hx
        · rcases List.mem_cons.mp hx with z | z
          · cases z; exact absurd rfl hk
          · exact .inr z

theorem closure_is {scope : Scope} {env : Env} (h : ∀ x ∈ scope.names, x.2 = .free → ∃ c, env.cells.lookup x.1 = some c) :
    ∃ cl, closureFor scope env = pure cl ∧ (∀ x c, cl.lookup x = some c → env.cells.lookup x = some c) ∧ (∀ x, (x, NameKind.free) ∈ scope.names → ∃ c, cl.lookup x = some c) := by
  unfold closureFor
  obtain ⟨cl, e, a1, a2⟩ := forIn_cl (env := env) (fun (x : Str × NameKind) (r : List (Str × Addr)) => (match x with
      | (name, kind) => if (kind == NameKind.free) = true then (do let a ← cellOf env name; pure (ForInStep.yield ((name, a) :: r))) else (pure (ForInStep.yield r) : Sem _)))
    (fun n k r hk => by
      have : (k == NameKind.free) = false := by simpa using hk
      simp only [this, Bool.false_eq_true, if_false])
    (fun n r c hc => by
      simp only [beq_self_eq_true, if_true, cellOf, hc, pure_bind])
    scope.names [] h (fun x c z => by cases z)
  refine ⟨cl, ?_, a1, fun x hx => a2 x (.inr hx)⟩
  refine (congrArg (fun (t : Sem (List (Str × Addr))) => t >>= pure) ?_).trans ((congrArg (fun (t : Sem (List (Str × Addr))) => t >>= pure) e).trans (pure_bind _ _))
  rfl

section
variable {prog : Program} {w : World} {A : Around} {R : Result → Shared → Prop} {s : Shared}
noncomputable abbrev E00 : Value → Shared → Prop := fun _ _ => False
theorem compLoop_go {elt target iter : Expr} {ifs : List Expr} {scope : Scope} {pos : Pos} {it acc : Value} {env : Env} (I : Nat → Shared → Prop)
    (turn : ∀ n s, I n s → wpAny (model prog w) A (pyNext it) (fun r s₁ => match r with
      | none => R (.ok .next) s₁
      | some v => wpAny (model prog w) A (letOwnedTupleGo target it v) (fun _ s₁' => wpAny (model prog w) A (assign target env v) (fun _ s₂ =>
          wpAny (model prog w) A (forIn ifs true fun c r => if r = true then do let ok ← isTrue c env (eval c env); pure (ForInStep.yield ok) else pure (ForInStep.yield r)) (fun ok s₃ =>
            if ok = true then wpAny (model prog w) A (eval elt env) (fun x s₄ =>
              wpAny (model prog w) A (call (.builtin "list.append") [acc, x]) (fun _ s₅ => ∃ m, m < n ∧ I m s₅) E00 s₄) E00 s₃
            else ∃ m, m < n ∧ I m s₃) E00 s₂) E00 s₁') E00 s₁) E00 s)
    (n : Nat) (h : I n s) :
    codeAny (model prog w) A (.compLoop (.ListComp elt [⟨target, iter, ifs, 0⟩] scope pos) 0 it acc env) R s := by
  refine codeAny_loop rfl I (fun n s hI => ?_) n h
  show wpAny _ A ((compTurn (.ListComp elt [⟨target, iter, ifs, 0⟩] scope pos) 0 it acc env).onRaise (fun x => do noteFrame x env; theTreesLotGoes x)) _ _ s
  refine wpAny_noted ?_
  rw [compTurn_list]
  refine wpAny_mono (E := E00) ?_ (fun _ _ z => z) (fun _ _ z => z.elim)
  refine wpAny_bind (wpAny_standAt (wpAny_bind (wpAny_mono (turn n s hI) (fun r s₁ h₁ => ?_) fun _ _ h' => h')))
  cases r with
  | none => exact wpAny_pure h₁
  | some v =>
    refine wpAny_bind (wpAny_mono h₁ (fun _ s₁' h₁' => ?_) fun _ _ h' => h')
    refine wpAny_bind (wpAny_mono h₁' (fun _ s₂ h₂ => wpAny_bind (wpAny_mono h₂ (fun ok s₃ h₃ => ?_) fun _ _ h' => h')) fun _ _ h' => h')
    cases ok with
    | false => exact wpAny_pure ⟨rfl, h₃⟩
    | true =>
      exact wpAny_bind (wpAny_bind (wpAny_mono h₃ (fun x s₄ h₄ => wpAny_bind (wpAny_mono h₄ (fun _ s₅ h₅ => wpAny_pure (wpAny_pure ⟨rfl, h₅⟩)) fun _ _ h' => h')) fun _ _ h' => h'))
end
end L2
namespace L2
open PySem PySem.Spec PyProof.Rows
noncomputable abbrev Cx.comp (X : Cx) (scope : Scope) (Nc : List Str) (cl : List (Str × Addr)) (C : Addr) (ex : List Addr) (s₂ : Shared) (H₂ : Hp) : Cx :=
  { X with N := Nc, s₀ := s₂, H₀ := H₂, env := compEnvC scope cl C X.env, outer := X.stack, ex := ex, fn := fun _ => false, pn := [], xe := E00 }

theorem relabel_free {env : Env} : ∀ {names : List (Str × NameKind)} {x : Str}, names.lookup x = some .free →
    (names.map fun (n, k) => if (k == NameKind.free && env.scope.kind == .function && env.kindOf n == some .cell) then (n, NameKind.cell) else (n, k)).lookup x = some .cell ∨
    (names.map fun (n, k) => if (k == NameKind.free && env.scope.kind == .function && env.kindOf n == some .cell) then (n, NameKind.cell) else (n, k)).lookup x = some .free
  | [], _, h => by simp at h
  | (n, k) :: r, x, h => by
    have ih := @relabel_free env r x
    rw [List.map_cons]
    show List.lookup x ((if (k == NameKind.free && env.scope.kind == .function && env.kindOf n == some .cell) = true then (n, NameKind.cell) else (n, k)) :: _) = _ ∨ List.lookup x ((if (k == NameKind.free && env.scope.kind == .function && env.kindOf n == some .cell) = true then (n, NameKind.cell) else (n, k)) :: _) = _
    rw [List.lookup_cons] at h
    cases hx : x == n with
    | true =>
      rw [hx] at h
      cases h
      split
      · left; rw [List.lookup_cons, hx]
      · right; rw [List.lookup_cons, hx]
    | false =>
      rw [hx] at h
      split
      · rw [List.lookup_cons, hx]; exact ih h
      · rw [List.lookup_cons, hx]; exact ih h

theorem of_relabel {env : Env} {k' : NameKind} (hk' : k' = .cell ∨ k' = .free) : ∀ {names : List (Str × NameKind)} {x : Str},
    (names.map fun (n, k) => if (k == NameKind.free && env.scope.kind == .function && env.kindOf n == some .cell) then (n, NameKind.cell) else (n, k)).lookup x = some k' →
    (x, NameKind.free) ∈ names ∨ (x, NameKind.cell) ∈ names
  | [], _, h => by simp at h
  | (n, k) :: r, x, h => by
    have ih := @of_relabel env k' hk' r x
    rw [List.map_cons] at h
    have h' : List.lookup x ((if (k == NameKind.free && env.scope.kind == .function && env.kindOf n == some .cell) = true then (n, NameKind.cell) else (n, k)) :: (r.map fun (n, k) => if (k == NameKind.free && env.scope.kind == .function && env.kindOf n == some .cell) then (n, NameKind.cell) else (n, k))) = some k' := h
    cases hx : x == n with
    | true =>
      have e := eq_of_beq hx
      subst e
      split at h'
      · rename_i hc
        have hk : k = .free := by
          rw [Bool.and_eq_true, Bool.and_eq_true] at hc
          exact eq_of_beq hc.1.1
        subst hk
        exact .inl List.mem_cons_self
      · rw [List.lookup_cons, hx] at h'
        have e : k = k' := Option.some.inj h'
        subst e
        rcases hk' with z | z
        · subst z; exact .inr List.mem_cons_self
        · subst z; exact .inl List.mem_cons_self
    | false =>
      have h2 : (r.map fun (n, k) => if (k == NameKind.free && env.scope.kind == .function && env.kindOf n == some .cell) then (n, NameKind.cell) else (n, k)).lookup x = some k' := by
        split at h' <;> (rw [List.lookup_cons, hx] at h'; exact h')
      rcases ih h2 with z | z
      · exact .inl (List.mem_cons_of_mem _ z)
      · exact .inr (List.mem_cons_of_mem _ z)


noncomputable def compChk (scope : Scope) (outer : List (Str × NameKind)) (N Nc : List Str) (k : Nat) (js : List Nat) : Bool :=
  scope.names.all (fun x => (x.2 != .free || outer.lookup x.1 == some .cell || outer.lookup x.1 == some .free) && x.2 != .cell && (x.2 != .local || scope.names.lookup x.1 == some .local)) &&
  scope.kind == .function && Nc.length == k + js.length &&
  (List.range js.length).all (fun i => match Nc[k + i]?, js[i]? with
    | some x, some j => N[j]? == some x && scope.names.lookup x == some .free
    | _, _ => false)
structure CompOk (scope : Scope) (outer : List (Str × NameKind)) (N Nc : List Str) (k : Nat) (js : List Nat) : Prop where
  free : ∀ x ∈ scope.names, x.2 = .free → outer.lookup x.1 = some .cell ∨ outer.lookup x.1 = some .free
  nocell : ∀ x ∈ scope.names, x.2 ≠ .cell
  loc : ∀ x ∈ scope.names, x.2 = .local → scope.names.lookup x.1 = some .local
  kind : scope.kind = .function
  len : Nc.length = k + js.length
  at' : ∀ i j, js[i]? = some j → ∃ x, Nc[k + i]? = some x ∧ N[j]? = some x ∧ scope.names.lookup x = some .free
theorem CompOk.of {scope : Scope} {outer : List (Str × NameKind)} {N Nc : List Str} {k : Nat} {js : List Nat} (h : compChk scope outer N Nc k js = true) : CompOk scope outer N Nc k js := by
  unfold compChk at h
  rw [Bool.and_eq_true, Bool.and_eq_true, Bool.and_eq_true] at h
  obtain ⟨⟨⟨h1, h2⟩, h3⟩, h4⟩ := h
  rw [List.all_eq_true] at h1 h4
  refine ⟨fun x hx e => ?_, fun x hx e => ?_, fun x hx e => ?_, eq_of_beq h2, eq_of_beq h3, fun i j e => ?_⟩
  · have := h1 x hx
    simp only [Bool.and_eq_true, Bool.or_eq_true, bne_iff_ne, beq_iff_eq] at this
    rcases this.1.1 with (z | z) | z
    · exact absurd e z
    · exact .inl z
    · exact .inr z
  · have := h1 x hx
    simp only [Bool.and_eq_true, Bool.or_eq_true, bne_iff_ne, beq_iff_eq] at this
    exact this.1.2 e
  · have := h1 x hx
    simp only [Bool.and_eq_true, Bool.or_eq_true, bne_iff_ne, beq_iff_eq] at this
    rcases this.2 with z | z
    · exact absurd e z
    · exact z
  · have hi : i < js.length := (List.getElem?_eq_some_iff.mp e).1
    have := h4 i (List.mem_range.mpr hi)
    rw [e] at this
    cases q : Nc[k + i]? with
    | none => rw [q] at this; cases this
    | some x =>
      rw [q] at this
      simp only [Bool.and_eq_true, beq_iff_eq] at this
      exact ⟨x, rfl, this.1, this.2⟩


noncomputable def compSt (k : Nat) (js : List Nat) (σ : St) : St := List.replicate k none ++ js.map fun j => (σ[j]?).getD none

noncomputable def PTs (X : Cx) (ifs : List Expr) (t : TT) : Prop :=
  ∀ (pins : List (Addr × Obj)) (s : Shared) (σ : St) (H : Hp) (Q : Bool → Hp → Prop), Inv X pins σ H s → t σ H Q →
    wpAny (model X.prog X.w) X.A (forIn ifs true fun c r => if r = true then do let ok ← isTrue c X.env (eval c X.env); pure (ForInStep.yield ok) else pure (ForInStep.yield r)) (TP X pins σ Q) X.xe s
noncomputable def tYes : TT := fun _ H Q => Q true H
theorem pts_nil {X : Cx} : PTs X [] tYes := fun _ _ _ H _ I h => wpAny_tests_nil ⟨H, I, h⟩
theorem pts_one {X : Cx} {c : Expr} {t : TT} (h : PT X c t) : PTs X [c] t := fun pins s σ H Q I q => wpAny_tests_one (h pins s σ H Q I q)


noncomputable def compBody (J : It) (g : TG) (tt : TT) (te : TE) (σ0 : St) (H1 : Hp) (Q : VK) : Prop :=
  ∃ W : Nat → Nat → List V → St → Hp → Prop, (∃ m, W 0 m [] σ0 H1) ∧ ∀ i m ys σ' H', W i m ys σ' H' →
    (J.stop i H' ∧ ys.length ≤ sizeLine ∧ ∀ D, H1 D = none → H' D = none → Q (.ref D) (upd H' D (.lst ys))) ∨
    (J.go i H' ∧ ys.length ≤ sizeLine ∧ ∃ N : List V → St → Hp → Prop, (∀ ys' σ2 H2, N ys' σ2 H2 → ∃ m', m' < m ∧ W (i + 1) m' ys' σ2 H2) ∧
      ∀ x H2, J.yld i H' x H2 → g x σ' H2 fun σ3 H3 => tt σ3 H3 fun b H4 => if b = true then te σ3 H4 fun y H5 => N (ys ++ [y]) σ3 H5 else N ys σ3 H4)
noncomputable def tComp (k : Nat) (js : List Nat) (wi : TI) (g : TG) (tt : TT) (te : TE) : TE := fun σ H Q => wi σ H fun J H1 => compBody J g tt te (compSt k js σ) H1 Q

section
variable {X : Cx} {elt tg iter : Expr} {ifs : List Expr} {scope : Scope} {pos : Pos} {Nc : List Str} {k : Nat} {js : List Nat} {wi : TI} {g : TG} {tt : TT} {te : TE}
noncomputable abbrev lobj (us : List Value) (n : Nat) : Obj := { cls := .type "list", data := .seq us.toArray n }


theorem comp_core {pins : List (Addr × Obj)} {σ : St} {H2 : Hp} {s2 : Shared} {it : Addr} {fp : List Addr} {tn : Nat → Heap → Prop} {J : It} {cl : List (Str × Addr)} {Q : VK} {RR : Value → Addr → Result → Shared → Prop} {E : Value → Shared → Prop}
    (hc : X.calm = true) (ck : CompOk scope X.env.scope.names X.N Nc k js)
    (hg : ∀ cl C ex s₂ H₂, PG (X.comp scope Nc cl C ex s₂ H₂) tg g) (ht : ∀ cl C ex s₂ H₂, PTs (X.comp scope Nc cl C ex s₂ H₂) ifs tt) (he : ∀ cl C ex s₂ H₂, PE (X.comp scope Nc cl C ex s₂ H₂) elt te)
    (a1 : ∀ x c, cl.lookup x = some c → X.env.cells.lookup x = some c) (a2 : ∀ x, (x, NameKind.free) ∈ scope.names → ∃ c, cl.lookup x = some c)
    (I2 : Inv X pins σ H2 s2) (T : Turn X.prog X.w X.K tg J fp it tn) (st2 : tn 0 s2.heap) (f2 : ∀ b ∈ fp, FpOk X pins H2 b) (hW : compBody J g tt te (compSt k js σ) H2 Q)
    (hRR : ∀ (D C : Addr) (s' : Shared) (H' : Hp), Inv X pins σ H' s' → (∃ m, s'.heap.Ns C m) → FpOk X pins H' C → Q (.ref D) H' → RR (.ref D) C (.ok .next) s') :
    wpAny (model X.prog X.w) X.A (newList []) (fun acc s₃ => wpAny (model X.prog X.w) X.A (newFunctionEnv scope X.env.globals cl [] X.env.qual none .none (some X.env)) (fun cenv s₄ =>
      codeAny (model X.prog X.w) X.A (.compStart (.ListComp elt [⟨tg, iter, ifs, 0⟩] scope pos) 0 (.ref it) acc { cenv with scope := relabel scope X.env }) (RR acc cenv.locals) s₄) E s₃) E s2 := by
  obtain ⟨W, ⟨m0, w0⟩, turn⟩ := hW
  refine wpAny_newObj_type (wpAny_newFunctionEnv ck.nocell (by intro y hy; simp at hy) (fun h₁ hns₁ hsb₁ => ?_) ck.kind)
  dsimp only at hns₁ hsb₁ ⊢
  generalize hP : s2.heap.push { cls := .type "list", dict := none, data := .seq ([] : List Value).toArray } = P at hns₁ hsb₁ ⊢
  generalize hD : s2.heap.objs.size = D at hP hns₁ hsb₁ ⊢
  have hCs : P.objs.size = D + 1 := by rw [← hP, Heap.size_push, hD]
  generalize hC : P.objs.size = C at hCs hns₁ hsb₁ ⊢
  have hDC' : D < C := by rw [hCs]; exact Nat.lt_succ_self _
  have hDC : D ≠ C := Nat.ne_of_lt hDC'
  have below : ∀ b o, s2.heap.get? b = some o → b < D := fun b o e => hD ▸ Heap.lt_size e
  have old : ∀ b o, s2.heap.get? b = some o → h₁.get? b = some o := fun b o e => by
    have hb := below b o e
    exact hsb₁.extBut b o (Nat.ne_of_lt (Nat.lt_trans hb hDC')) (Heap.get?_push_of_some _ (hP ▸ Heap.get?_push_of_some _ e))
  have hDo : h₁.get? D = some (lobj [] 0) := hsb₁.extBut _ _ hDC (Heap.get?_push_of_some _ (by rw [← hP, ← hD]; exact Heap.get?_push_size _ rfl))
  have Hn : ∀ b, D ≤ b → H2 b = none := fun b hb => I2.hok.fresh (by omega)
  have fpo : ∀ b ∈ fp, b < D := fun b hb => by obtain ⟨o, e, _⟩ := T.obj 0 _ st2 b hb; exact below b o e
  have clo : ∀ x c, cl.lookup x = some c → c < D := fun x c e => by
    obtain ⟨v, o, ho, _⟩ := I2.cell x c (a1 x c e)
    exact below c o ho
  have stko : ∀ b ∈ frs X.stack, b < D := fun b hb => by
    obtain ⟨_, o, ho, _⟩ := I2.stack.mem hb
    exact below b o ho
  let Y : Cx := X.comp scope Nc cl C fp s2 H2
  have yk : Y.Ok := by
    refine ⟨I2.ok.mod, ck.kind, I2.ok.glob, I2.ok.blt, ?_, ?_, ?_, ?_, I2.ok.hd, I2.ok.frames, .inl rfl, ?_, I2.bs, ?_, ?_, ?_, I2.stack, I2.stkFree⟩
    · show s2.heap.objs.size ≤ C
      omega
    · exact fun x y c h1 h2 => I2.ok.inj x y c (a1 x c h1) (a1 y c h2)
    · intro x hx
      have : (x, NameKind.free) ∈ scope.names ∨ (x, NameKind.cell) ∈ scope.names := by
        rcases hx with hx | hx
        · exact of_relabel (.inl rfl) hx
        · exact of_relabel (.inr rfl) hx
      rcases this with z | z
      · exact a2 x z
      · exact absurd rfl (ck.nocell _ z)
    · exact fun x c z => nomatch z
    · intro b hb
      refine ⟨?_, fun x c e => ?_⟩
      · exact Nat.ne_of_lt (Nat.lt_trans (fpo b hb) hDC')
      · exact (f2 b hb).2.2.2.2.1 x c (a1 x c e)
    · exact Nat.le_trans I2.ok.bsz I2.sz
    · intro b o e hb
      rcases (f2 b hb).2.2.2.1 with z | z
      · exact I2.ok.noex b o e z
      · exact absurd (Nat.lt_of_lt_of_le (Heap.lt_size e) (Nat.le_trans I2.ok.bsz z)) (Nat.lt_irrefl _)
    · intro b hb z
      rcases List.mem_cons.mp (I2.stkSub b z) with e | e
      · exact (f2 b hb).2.1 e
      · exact (f2 b hb).2.2.1 e
  have I4 : Inv Y [(D, lobj [] 0)] (compSt k js σ) H2 { s2 with heap := h₁, toks := s2.toks + ([] : List (Str × Value)).length } := by
    refine ⟨yk, rfl, I2.bare, Un.kept old, ⟨_, hns₁, fun i x v e1 e2 e3 => ?_⟩, fun x c e => ?_, Hn C (by omega), fun x c e => I2.freeC x c (a1 x c e), fun p hp => ?_, I2.hok.kept old, ?_⟩
    · have e1 : Nc[i]? = some x := e1
      unfold compSt at e2
      have hik : k ≤ i := by
        rcases Nat.lt_or_ge i k with z | z
        · rw [List.getElem?_append_left (by simpa using z), List.getElem?_replicate] at e2
          simp [z] at e2
        · exact z
      rw [List.getElem?_append_right (by simpa using hik), List.getElem?_map] at e2
      simp only [List.length_replicate] at e2
      cases q : js[i - k]? with
      | none => rw [q] at e2; cases e2
      | some j =>
        rw [q] at e2
        obtain ⟨x', q1, q2, q3⟩ := ck.at' _ _ q
        rw [show k + (i - k) = i by omega, e1] at q1
        cases q1
        have e2 : (σ[j]?).getD none = some v := Option.some.inj e2
        have e2' : σ[j]? = some (some v) := by
          cases z : σ[j]? with
          | none => rw [z] at e2; cases e2
          | some y => rw [z] at e2; rw [show y = some v from e2]
        have hmem : (x, NameKind.free) ∈ scope.names := by
          have : ∀ l : List (Str × NameKind), l.lookup x = some .free → (x, NameKind.free) ∈ l := by
            intro l
            induction l with
            | nil => intro z; cases z
            | cons a l ih =>
              intro z
              obtain ⟨n, kk⟩ := a
              rw [List.lookup_cons] at z
              cases hb : x == n with
              | true =>
                rw [hb] at z
                cases z
                rw [eq_of_beq hb]; exact List.mem_cons_self
              | false => rw [hb] at z; exact List.mem_cons_of_mem _ (ih z)
          exact this _ q3
        have hout : X.env.kindOf x = some .cell ∨ X.env.kindOf x = some .free := ck.free _ hmem rfl
        obtain ⟨m, hn, hl⟩ := I2.loc
        have vis : Vis X.env.scope x := by
          rcases hout with z | z
          · exact .inr (.inl z)
          · exact .inr (.inr z)
        obtain ⟨u, r, l⟩ := hl j x v q2 e2' vis
        refine ⟨u, r, .inr ⟨relabel_free q3, ?_⟩⟩
        rcases l with ⟨z, _⟩ | ⟨_, c, hcl, hcell⟩
        · rcases hout with y | y <;> (rw [y] at z; cases z)
        · obtain ⟨c', hc'⟩ := a2 x hmem
          have := a1 x c' hc'
          rw [hcl] at this
          cases this
          exact ⟨c, hc', hcell.keeps old⟩
    · obtain ⟨v, z⟩ := I2.cell x c (a1 x c e)
      exact ⟨v, z.keeps old⟩
    · have hp : p ∈ [(D, lobj [] 0)] := (List.mem_append.mp hp).elim (fun z => nomatch (show p ∈ ([] : List (Addr × Obj)) from z)) id
      have hp : p = (D, lobj [] 0) := List.mem_singleton.mp hp
      subst hp
      refine ⟨hDo, Hn D (Nat.le_refl _), hDC, fun z => ?_, fun v z => by cases z⟩
      exact absurd (stko D z) (Nat.lt_irrefl _)
    · show (compSt k js σ).length = Nc.length
      rw [ck.len]
      simp [compSt]
  have st1 : tn 0 h₁ := T.keep 0 _ _ st2 fun b _ o e => old b o e
  have fpY : ∀ {H' : Hp} {p : List (Addr × Obj)}, (∀ q ∈ p, q.1 = D) → (∀ b ∈ fp, H' b = none) → ∀ b ∈ fp, FpOk Y p H' b := fun {H' p} hp hn b hb => by
    refine ⟨hn b hb, (yk.exf b hb).1, yk.exfs b hb, .inl hb, fun x c e => (yk.exf b hb).2 x c e, fun q hq => ?_⟩
    have hq : q ∈ p := (List.mem_append.mp hq).elim (fun z => nomatch (show q ∈ ([] : List (Addr × Obj)) from z)) id
    rw [hp q hq]
    exact Nat.ne_of_gt (fpo b hb)
  have loop : codeAny (model X.prog X.w) X.A (.compLoop (.ListComp elt [⟨tg, iter, ifs, 0⟩] scope pos) 0 (.ref it) (.ref D) (compEnvC scope cl C X.env)) (RR (.ref D) C) { s2 with heap := h₁, toks := s2.toks + ([] : List (Str × Value)).length } := by
    refine compLoop_go (fun n s' => ∃ i ys us nn σ' H', Inv Y [(D, lobj us nn)] σ' H' s' ∧ tn i s'.heap ∧ (∀ b ∈ fp, H' b = none) ∧ Vals ys us ∧ W i n ys σ' H') ?_ m0
      ⟨0, [], [], 0, compSt k js σ, H2, I4, st1, fun b hb => (f2 b hb).1, .nil, w0⟩
    rintro n s3 ⟨i, ys, us, nn, σ3, H3, I3, st3, fr3, rv, w3⟩
    have one : ∀ q ∈ [(D, lobj us nn)], q.1 = D := fun q hq => by
      have : q = (D, lobj us nn) := by simpa using hq
      rw [this]
    rcases turn i n ys σ3 H3 w3 with ⟨stop, hz, qn⟩ | ⟨go, hz, N, hN, step⟩
    · refine thn (T.done Y rfl rfl rfl hc i _ s3 σ3 H3 E00 I3 (fpY one fr3) st3 stop) fun r s4 ⟨hr, I5⟩ => ?_
      subst hr
      show RR (.ref D) C (.ok .next) s4
      obtain ⟨pD, nD, _, _, _⟩ := I5.pin (D, lobj us nn) (by simp)
      have bs : Un (frs X.stack) fp H2 H3 s2.heap s4.heap := I5.base
      have h2D : ∀ b o, H2 b = some o → b ≠ D := fun b o e z => by rw [z, Hn D (Nat.le_refl _)] at e; cases e
      have I6 : Inv X pins σ (upd H3 D (.lst ys)) s4 := by
        refine I2.call' (ch := fp) I5.os ⟨bs.keep, bs.slot, fun b o e n hx => ?_, bs.there, fun b xs e => ?_, fun b o u e => ?_, fun b ps e => ?_⟩ (fun b u e => ?_) I5.bare fun b hb => ?_
        · rw [upd_ne (Nat.ne_of_lt (below b o e))]
          exact bs.free b o e n hx
        · rw [upd_ne (h2D b _ e)]; exact bs.tups b xs e
        · rw [upd_ne (h2D b _ e)]; exact bs.frzs b o u e
        · rw [upd_ne (h2D b _ e)]; exact bs.tbls b ps e
        · by_cases hb : b = D
          · subst hb
            rw [upd_same] at e
            cases e
            exact ⟨hz, us, nn, rv, pD⟩
          · rw [upd_ne hb] at e
            exact (I5.hok b u e).stay (fun c v _ q => q) (fun c q => by rw [upd_ne (ne_of_none q nD)]; exact q) fun c xs q => by rw [upd_ne (ne_of_none q nD)]; exact q
        · obtain ⟨_, f1, _, f3, f4, f5⟩ := f2 b hb
          exact ⟨f3, f1, f4, f5⟩
      obtain ⟨m, hn, _⟩ := I5.loc
      refine hRR D C s4 _ I6 ⟨m, hn⟩ (I2.fpOk (by omega) ?_) (qn D (Hn D (Nat.le_refl _)) nD)
      rw [upd_ne hDC.symm]
      exact I5.free
    · refine thn (T.item Y rfl rfl rfl hc i _ s3 σ3 H3 E00 I3 (fpY one fr3) st3 go) fun r s4 ⟨u, hr, h4⟩ => ?_
      subst hr
      refine thn h4 fun _ s5 ⟨x, H5, I5, r5, y5, st5, fr5⟩ => ?_
      have I5' := I5.pinned (fpY one fr5) (T.obj _ _ st5)
      refine thn (hg cl C fp s2 H2 _ s5 σ3 H5 x u _ I5' r5 (step x H5 y5)) fun _ s6 ⟨σ6, H6, I6, q6⟩ => ?_
      refine thn (ht cl C fp s2 H2 _ s6 σ6 H6 _ I6 q6) fun b s7 ⟨H7, I7, q7⟩ => ?_
      have kp : ∀ {H8 : Hp} {s8 : Shared}, Inv Y ([(D, lobj us nn)] ++ pinsAt fp s5.heap) σ6 H8 s8 → tn (i + 1) s8.heap ∧ (∀ b ∈ fp, H8 b = none) := fun {H8 s8} I8 => by
        refine ⟨T.keep _ _ _ st5 fun b hb o e => (I8.pin (b, o) (List.mem_append_right _ (List.mem_append_right _ (mem_pinsAt hb e)))).1, fun b hb => ?_⟩
        obtain ⟨o, e, d⟩ := T.obj _ _ st5 b hb
        exact (I8.pin (b, o) (List.mem_append_right _ (List.mem_append_right _ (mem_pinsAt hb e)))).2.1
      cases b with
      | false =>
        rw [if_neg Bool.false_ne_true] at q7 ⊢
        obtain ⟨m', hm, w7⟩ := hN _ _ _ q7
        obtain ⟨st7, fr7⟩ := kp I7
        exact ⟨m', hm, i + 1, ys, us, nn, σ6, H7, I7.unpinned, st7, fr7, rv, w7⟩
      | true =>
        rw [if_pos rfl] at q7 ⊢
        refine thn (he cl C fp s2 H2 _ s7 σ6 H7 _ I7 q7) fun uy s8 ⟨y, H8, I8, r8, q8⟩ => ?_
        obtain ⟨m', hm, w8⟩ := hN _ _ _ q8
        obtain ⟨st8, fr8⟩ := kp I8
        obtain ⟨pD, nD, pC, pF, _⟩ := I8.pin (D, lobj us nn) (by simp)
        have hl := rv.length
        refine wpAny_list_append_plain (items := us.toArray) ⟨nn, pD⟩ (fun h' hl' sb => ?_) (by simp only [List.size_toArray] <;> omega)
        obtain ⟨n', e'⟩ := hl'
        have I8n : Inv Y [] σ6 H8 s8 := I8.pins_of (fun _ z => nomatch z)
        have I9 : Inv Y [] σ6 H8 { s8 with heap := h' } := I8n.turned (t' := s8.toks) (it := D) (fun b o hb e => (sb.2 b hb).trans e) nD pC (.inr (by show s2.heap.objs.size ≤ D; omega)) (fun x c e => Nat.ne_of_lt (clo x c e)) (fun p hp => nomatch hp)
        refine ⟨m', hm, i + 1, ys ++ [y], us ++ [uy], n', σ6, H8, I9.pins_of (fun p hp => ?_), ?_, fr8, rv.append (.cons r8 .nil), w8⟩
        · have hp : p = (D, lobj (us ++ [uy]) n') := by simpa using hp
          subst hp
          refine ⟨?_, nD, pC, pF, fun v z => by cases z⟩
          have e2 : h'.get? D = some { cls := .type "list", data := .seq (us.toArray.push uy) n' } := e'
          show h'.get? D = some { cls := .type "list", data := .seq (us ++ [uy]).toArray n' }
          rw [e2]
          simp
        · exact T.keep _ _ _ st8 fun b hb o e => (sb.2 b (Nat.ne_of_lt (fpo b hb))).trans e
  exact codeAny_compStart_list loop (T.self X.A 0 _ _ _ st1 loop)

theorem pe_comp (k : Nat) (js : List Nat) (Nc : List Str) (hc : X.calm = true) (hi : PI X tg iter wi)
    (hg : ∀ cl C ex s₂ H₂, PG (X.comp scope Nc cl C ex s₂ H₂) tg g) (ht : ∀ cl C ex s₂ H₂, PTs (X.comp scope Nc cl C ex s₂ H₂) ifs tt) (he : ∀ cl C ex s₂ H₂, PE (X.comp scope Nc cl C ex s₂ H₂) elt te)
    (ck : compChk scope X.env.scope.names X.N Nc k js = true := by rfl) (hs : ∀ x, foldedSetIterable iter X.env x = pure x := by intro _; rfl) :
    PE X (.ListComp elt [⟨tg, iter, ifs, 0⟩] scope pos) (tComp k js wi g tt te) := by
  intro pins s σ H Q I h
  have ck := CompOk.of ck
  rw [eval_ListComp]
  obtain ⟨cl, hcl, a1, a2⟩ := closure_is (scope := scope) (env := X.env) fun x hx e => I.ok.has x.1 (ck.free x hx e)
  refine wpAny_comprehension_free (use := none) rfl hs hcl ck.kind ck.loc (thn (hi pins s σ H _ I h) fun v s1 h1 => thn h1 fun itv s2 h2 => ?_)
  obtain ⟨it, fp, tn, J, H2, e, I2, T, st2, f2, hW⟩ := h2
  subst e
  refine comp_core (RR := fun acc C => compPost (model X.prog X.w) X.A X.xe none (EP X pins σ Q) acc C) hc ck hg ht he a1 a2 I2 T st2 f2 hW fun D C s' H' I' ⟨m, hn⟩ fC q => ?_
  obtain ⟨f0, f1, _, f3, f4, f5⟩ := fC
  exact ⟨m, hn, fun h' hs' => ⟨.ref D, H', I'.turned (t' := s'.toks) (fun b o hb e => (hs'.2 b hb).trans e) f0 f1 f3 f4 f5, rfl, q⟩⟩


theorem ps_setComp {i : Nat} {x : Str} {pos' spos : Pos} (k : Nat) (js : List Nat) (Nc : List Str) (hN : X.N.Nodup) (hi' : X.N[i]? = some x) (hx : Loc X.env.scope x) (hc : X.calm = true) (hi : PI X tg iter wi)
    (hg : ∀ cl C ex s₂ H₂, PG (X.comp scope Nc cl C ex s₂ H₂) tg g) (ht : ∀ cl C ex s₂ H₂, PTs (X.comp scope Nc cl C ex s₂ H₂) ifs tt) (he : ∀ cl C ex s₂ H₂, PE (X.comp scope Nc cl C ex s₂ H₂) elt te)
    (hsw : swapsWith (.ListComp elt [⟨tg, iter, ifs, 0⟩] scope pos) (some (.Name x pos')) spos.line X.env = pure true := by rfl)
    (ck : compChk scope X.env.scope.names X.N Nc k js = true := by rfl) (hs : ∀ x, foldedSetIterable iter X.env x = pure x := by intro _; rfl)
    (hf : X.fn x = true ∨ X.env.scope.names.lookup x = some .local := by first | exact .inl rfl | exact .inr rfl | assumption) :
    PS X (.Assign [.Name x pos'] (.ListComp elt [⟨tg, iter, ifs, 0⟩] scope pos) spos) (tAsg (tComp k js wi g tt te) (gName i)) := by
  intro pins s σ H D I h
  have ck := CompOk.of ck
  rw [exec_Assign_Name_used _ _ _ _ hsw]
  refine wpAny_bind (wpAny_standAt (wpAny_bind ?_))
  show wpAny _ X.A (do let _ ← comprehension (.ListComp elt [⟨tg, iter, ifs, 0⟩] scope pos) scope X.env _ (newList []) false (eval iter X.env) (some (assign (.Name x pos') X.env))) _ _ s
  obtain ⟨cl, hcl, a1, a2⟩ := closure_is (scope := scope) (env := X.env) fun x hx e => I.ok.has x.1 (ck.free x hx e)
  refine wpAny_bind (wpAny_mono (wpAny_comprehension_free (use := some (assign (.Name x pos') X.env)) (Q := fun _ s' => SP X pins D .next s') rfl hs hcl ck.kind ck.loc
    (thn (hi pins s σ H _ I h) fun v s1 h1 => thn h1 fun itv s2 h2 => ?_)) (fun _ s' hq => wpAny_pure (wpAny_pure hq)) fun _ _ e => e)
  obtain ⟨it, fp, tn, J, H2, e, I2, T, st2, f2, hW⟩ := h2
  subst e
  refine comp_core (RR := fun acc C => compPost (model X.prog X.w) X.A X.xe (some (assign (.Name x pos') X.env)) (fun _ s' => SP X pins D .next s') acc C) hc ck hg ht he a1 a2 I2 T st2 f2 hW fun D' C s' H' I' ⟨m, hn⟩ fC q => ?_
  obtain ⟨f0, f1, f2', f3, f4, f5⟩ := fC
  show wpAny _ X.A (assign (.Name x pos') X.env (.ref D')) _ _ _
  refine wpAny_assign_Name (store_ok2 (v := .ref D') I' hN hi' hx rfl (fun s'' I'' ⟨a, sb, ha⟩ => ?_) hf)
  have hCa : C ≠ a := by
    rcases ha with z | z
    · rw [z]; exact f1
    · exact (f4 x a z).symm
  exact ⟨m, hn.sameBut sb hCa, fun h' hs' => ⟨_, H', I''.turned (t' := s''.toks) (fun b o hb e => (hs'.2 b hb).trans e) f0 f1 f3 f4 f5, q⟩⟩
end
section
variable {K : PySem.W.Frag} {g : TG} {tt : TT} {te : TE} {σ0 : St} {H1 : Hp} {Q : VK}
end
end L2
namespace L2
open PySem PySem.Spec PyProof.Rows
section
variable {X : Cx}
theorem op_isB : OpR X (compareOp .Is) (fun x y H Q => ∃ b, y = .bl b ∧ (x = .non ∨ ∃ c, x = .bl c) ∧ Q (.bl (decide (x = .bl b))) H) := by
  intro pins s σ H x y v u Q I rx ry h
  obtain ⟨b, rfl, hx, q⟩ := h
  cases ry
  rcases hx with rfl | ⟨c, rfl⟩
  · cases rx
    exact wpAny_is_plain rfl (fin_bl I q (by cases b <;> rfl))
  · cases rx
    exact wpAny_is_plain rfl (fin_bl I q (by cases b <;> cases c <;> rfl))
theorem call_sum (hc : X.calm = true) : CallR X (.builtin "sum") (fun xs H Q => ∃ (p : Addr) (ns : List Int), xs = [.ref p] ∧ SqL X.K H p (ns.map V.int) ∧ Q (.int ns.sum) H) := by
  intro pins s σ H xs us Q I r h
  obtain ⟨p, ns, rfl, hq, q⟩ := h
  obtain ⟨u, rfl, rx⟩ := vals1 r
  cases rx
  obtain ⟨its, r', pl, hz⟩ := I.list hq
  have hi : IntsAre its ns := intsAre_of r'
  obtain ⟨xs, e⟩ := hi.allInts.items
  refine sum_intListG (I.ok.hd hc) (xs := xs) (by rw [← e]; exact pl.isList) fun h' tk t' hk => ?_
  have es : preSum (numAt xs) xs.size = ns.sum := by
    rw [preSum_eq, List.take_of_length_le (by simp), ← nums_intItems, ← e]
    show (numsOf its).sum = ns.sum
    rw [hi.numsOf]
  rw [es]
  exact ⟨.int ns.sum, H, I.kept hk, ⟨_, rfl⟩, q⟩


theorem call_isT : CallR X (.builtin "isinstance") (fun xs H Q => ∃ x T t b, xs = [x, .ty T] ∧ TyOf X.K H x t ∧ PySem.W.kitOne X.K t (.type T) = some b ∧ Q (.bl b) H) := by
  intro pins s σ H xs us Q I r h
  obtain ⟨x, T, t, b, rfl, ty, e, q⟩ := h
  obtain ⟨u, w', rfl, rx, rc⟩ := vals2 r
  cases (show w' = Value.type T from rc)
  exact isinst_ok I rx ty e fun tk => ⟨.bl b, H, I.tok tk, rfl, q⟩
theorem call_isC : CallR X (.builtin "isinstance") (fun xs H Q => ∃ x C t b, xs = [x, .ref C] ∧ TyOf X.K H x t ∧ PySem.W.kitOne X.K t (.ref C) = some b ∧ Q (.bl b) H) := by
  intro pins s σ H xs us Q I r h
  obtain ⟨x, C, t, b, rfl, ty, e, q⟩ := h
  obtain ⟨u, w', rfl, rx, rc⟩ := vals2 r
  cases (show w' = Value.ref C from rc)
  exact isinst_ok I rx ty e fun tk => ⟨.bl b, H, I.tok tk, rfl, q⟩


theorem PE.or {e : Expr} {t t' : TE} (h : PE X e t) (h' : PE X e t') : PE X e (fun σ H Q => t σ H Q ∨ t' σ H Q) := by
  intro pins s σ H Q I q
  rcases q with q | q
  · exact h pins s σ H Q I q
  · exact h' pins s σ H Q I q
end
theorem Paired.at' {α β : Type} {F : α → β → Prop} : ∀ {l₁ : List α} {l₂ : List β} {i : Nat} {a : α} {b : β}, Paired F l₁ l₂ → l₁[i]? = some a → l₂[i]? = some b → F a b
  | _, _, _, _, _, .nil, e, _ => by simp at e
  | _, _, 0, _, _, .cons r _, e, e' => by simp at e e'; subst e e'; exact r
  | _, _, i + 1, a, b, .cons _ t, e, e' => Paired.at' (i := i) t (by simpa using e) (by simpa using e')
theorem Vals.at' {xs : List V} {us : List Value} {i : Nat} {u : Value} (r : Vals xs us) (e : us[i]? = some u) : ∃ x, xs[i]? = some x ∧ RelV x u := by
  have hl := r.length
  have hi : i < xs.length := by have := (List.getElem?_eq_some_iff.mp e).1; omega
  refine ⟨xs[i], by simp [hi], ?_⟩
  obtain ⟨u', e', r'⟩ := r.get (i := i) (x := xs[i]) (by simp [hi])
  rw [e] at e'; cases e'; exact r'
section
variable {X : Cx} {pins : List (Addr × Obj)} {σ : St} {H : Hp} {s : Shared}
end
end L2
namespace L2
open PySem PySem.Spec PyProof.Rows
theorem relabel_keep {env : Env} {k' : NameKind} (hk : k' ≠ .free) : ∀ {names : List (Str × NameKind)} {x : Str}, names.lookup x = some k' →
    (names.map fun (n, k) => if (k == NameKind.free && env.scope.kind == .function && env.kindOf n == some .cell) then (n, NameKind.cell) else (n, k)).lookup x = some k'
  | [], _, h => by simp at h
  | (n, k) :: r, x, h => by
    have ih := @relabel_keep env k' hk r x
    rw [List.map_cons]
    show List.lookup x ((if (k == NameKind.free && env.scope.kind == .function && env.kindOf n == some .cell) = true then (n, NameKind.cell) else (n, k)) :: _) = _
    rw [List.lookup_cons] at h
    cases hx : x == n with
    | true =>
      rw [hx] at h
      have e : k = k' := Option.some.inj h
      subst e
      have hf : (k == NameKind.free) = false := by simpa using hk
      rw [hf, Bool.false_and, Bool.false_and, if_neg Bool.false_ne_true, List.lookup_cons, hx]
    | false =>
      rw [hx] at h
      split
      · rw [List.lookup_cons, hx]; exact ih h
      · rw [List.lookup_cons, hx]; exact ih h
theorem vis_comp {env : Env} {scope : Scope} {x : Str} (h : Vis scope x) : Vis (relabel scope env) x := by
  rcases h with h | h | h
  · exact .inl (relabel_keep (by decide) h)
  · exact .inr (.inl (relabel_keep (by decide) h))
  · rcases relabel_free (env := env) h with z | z
    · exact .inr (.inl z)
    · exact .inr (.inr z)
section
variable {X : Cx} {scope : Scope} {Nc : List Str} {cl : List (Str × Addr)} {C : Addr} {ex : List Addr} {s₂ : Shared} {H₂ : Hp}
theorem pvc (i : Nat) {x : Str} {pos : Pos} (hN : Nc[i]? = some x := by rfl) (hv : Vis scope x := by first | exact Or.inl rfl | exact Or.inr (Or.inl rfl) | exact Or.inr (Or.inr rfl)) (hd : (x == ("__debug__" : Str)) = false := by decide)
    (hcd : (x == ("__classdict__" : Str)) = false := by decide) : PE (X.comp scope Nc cl C ex s₂ H₂) (.Name x pos) (tVar i) := pe_var hN (vis_comp hv) hd hcd
theorem pgc (i : Nat) {x : Str} {pos : Pos} (hN : Nc.Nodup := by decide +kernel) (hi : Nc[i]? = some x := by rfl) (hl : scope.names.lookup x = some .local := by rfl) : PG (X.comp scope Nc cl C ex s₂ H₂) (.Name x pos) (gName i) :=
  pg_name (X := X.comp scope Nc cl C ex s₂ H₂) hN hi (.inl (relabel_keep (by decide) hl)) (.inr (relabel_keep (by decide) hl))
theorem glc {x : Str} (h : scope.names.lookup x = some .globalImplicit) : Gl (X.comp scope Nc cl C ex s₂ H₂) x := relabel_keep (env := X.env) (by decide) h
end
theorem same_upd {H : Hp} {p : Addr} {o : HO} (h : H p = none) : Same H (upd H p o) := fun b u e => by rw [upd_ne (ne_of_none e h)]; exact e
theorem Same.tup {K : PySem.W.Frag} {H H' : Hp} {a : Addr} {xs : List V} (e : Same H H') (h : SqT K H a xs) : SqT K H' a xs := by
  rcases h with (h | ⟨o, h⟩) | h
  · exact .inl (.inl (e _ _ h))
  · exact .inl (.inr ⟨o, e _ _ h⟩)
  · exact .inr h

noncomputable def Grow (p : Addr) (H H' : Hp) : Prop := ∀ b o, H b = some o → b ≠ p → H' b = some o
theorem Grow.refl (p : Addr) (H : Hp) : Grow p H H := fun _ _ h _ => h
theorem Grow.trans {p : Addr} {H H1 H2 : Hp} (a : Grow p H H1) (b : Grow p H1 H2) : Grow p H H2 := fun c o h n => b c o (a c o h n) n
theorem Same.grow {p : Addr} {H H' : Hp} (a : Same H H') : Grow p H H' := fun c o h _ => a c o h
theorem Grow.same {p : Addr} {H H' : Hp} (a : Grow p H H') (h : H p = none) : Same H H' := fun c o e => a c o e (ne_of_none e h)
theorem Grow.seq {K : PySem.W.Frag} {p : Addr} {H H' : Hp} {a : Addr} {xs : List V} (e : Grow p H H') (n : a ≠ p) (h : SqL K H a xs) : SqL K H' a xs := by
  rcases h with (h | ⟨o, h⟩) | h
  · exact .inl (.inl (e _ _ h n))
  · exact .inl (.inr ⟨o, e _ _ h n⟩)
  · exact .inr h
noncomputable def ItemsAt (K : PySem.W.Frag) (H : Hp) (L : Addr) (its : List (Int × Int)) : Prop :=
  ∃ zs : List (Addr × Int × Int), SqL K H L (zs.map fun z => V.ref z.1) ∧ (∀ z ∈ zs, SqT K H z.1 [.int z.2.1, .int z.2.2]) ∧ its = zs.map (·.2) ∧ zs.length ≤ 1000
theorem Same.items {K : PySem.W.Frag} {H H' : Hp} {L : Addr} {its : List (Int × Int)} (e : Same H H') (h : ItemsAt K H L its) : ItemsAt K H' L its := by
  obtain ⟨zs, h1, h2, h3, h4⟩ := h
  exact ⟨zs, e.seq h1, fun z hz => e.tup (h2 z hz), h3, h4⟩

noncomputable def InR (n : Nat) (its : List (Int × Int)) : Prop := ∀ z ∈ its, 0 ≤ z.1 ∧ z.1 < (n : Int)

noncomputable def worthIf (p : Option Bool → Bool) (es : List (Option Bool)) (its : List (Int × Int)) : Int := ((its.filter fun z => p (es.getD z.1.toNat none)).map (·.2)).sum
inductive Prt where
  | inn (t : Int) | out (t : Int) | least (k : Int) (its : List (Int × Int)) | most (k : Int) (its : List (Int × Int))
noncomputable def Prt.InR (n : Nat) : Prt → Prop
  | .inn t => 0 ≤ t ∧ t < (n : Int)
  | .out t => 0 ≤ t ∧ t < (n : Int)
  | .least _ its => L2.InR n its
  | .most _ its => L2.InR n its

noncomputable def TupAt (K : PySem.W.Frag) (H : Hp) (p : Addr) : Prt → Prop
  | .inn t => SqT K H p [.str "in", .int t]
  | .out t => SqT K H p [.str "out", .int t]
  | .least k its => ∃ L, SqT K H p [.str "least", .int k, .ref L] ∧ ItemsAt K H L its
  | .most k its => ∃ L, SqT K H p [.str "most", .int k, .ref L] ∧ ItemsAt K H L its
noncomputable def bs (l : List Bool) : List (Option Bool) := l.map some
theorem bs_len (l : List Bool) : (bs l).length = l.length := by simp [bs]

noncomputable def Prt.holds (rs ws : List Bool) : Prt → Bool
  | .inn t => (rs.getD t.toNat false)
  | .out t => !(ws.getD t.toNat false)
  | .least k its => decide (k ≤ worthIf (· == some true) (bs rs) its)
  | .most k its => decide (worthIf (· == some true) (bs ws) its ≤ k)
end L2
namespace L2
open PySem PySem.Spec PyProof.Rows
section
variable {X : Cx} {pins : List (Addr × Obj)} {σ : St} {H : Hp} {s : Shared} {h' : Heap}
end
section
variable {X : Cx} {elts : List Expr} {kx : Nat} {tpos : Pos}
end
end L2
namespace L2
open PySem PySem.Spec PyProof.Rows
noncomputable def worthP (p : Int → Bool) (its : List (Int × Int)) : Int := ((its.filter fun z => p z.1).map (·.2)).sum
theorem worthIf_P (p : Option Bool → Bool) (es : List (Option Bool)) (its : List (Int × Int)) : worthIf p es its = worthP (fun t => p (es.getD t.toNat none)) its := rfl
noncomputable def RowTells (L : Addr) (its : List (Int × Int)) (vs : List V) : Prt → Prop
  | .inn t => vs = [.str "in", .int t]
  | .out t => vs = [.str "out", .int t]
  | .least k i => vs = [.str "least", .int k, .ref L] ∧ i = its
  | .most k i => vs = [.str "most", .int k, .ref L] ∧ i = its
theorem RowTells.at {K : PySem.W.Frag} {H : Hp} {L p : Addr} {its : List (Int × Int)} {vs : List V} {r : Prt} (t : RowTells L its vs r) (hp : H p = some (.tup vs)) (hL : ItemsAt K H L its) : TupAt K H p r := by
  cases r with
  | inn t' => cases t; exact SqT.of hp
  | out t' => cases t; exact SqT.of hp
  | least k i => obtain ⟨rfl, rfl⟩ := t; exact ⟨L, SqT.of hp, hL⟩
  | most k i => obtain ⟨rfl, rfl⟩ := t; exact ⟨L, SqT.of hp, hL⟩
structure RowsAt (Hb : Hp) (r L : Addr) (its : List (Int × Int)) (n : Nat) (rows : List (Addr × List V × Prt)) (H : Hp) : Prop where
  same : Same Hb H
  lst : H r = some (.lst (rows.map fun z => V.ref z.1))
  all : ∀ z ∈ rows, H z.1 = some (.tup z.2.1) ∧ RowTells L its z.2.1 z.2.2 ∧ z.2.2.InR n
theorem RowsAt.more {Hb H : Hp} {r L : Addr} {its : List (Int × Int)} {n : Nat} {rows : List (Addr × List V × Prt)} (R : RowsAt Hb r L its n rows H) (hr : Hb r = none) {p : Addr} (hp : H p = none) {vs : List V} {pr : Prt} (ht : RowTells L its vs pr) (hin : pr.InR n) :
    (upd H p (.tup vs)) r = some (.lst (rows.map fun z => V.ref z.1)) ∧ RowsAt Hb r L its n (rows ++ [(p, vs, pr)]) (upd (upd H p (.tup vs)) r (.lst (rows.map (fun z => V.ref z.1) ++ [.ref p]))) ∧
    (∀ b o, H b = some o → b ≠ r → (upd (upd H p (.tup vs)) r (.lst (rows.map (fun z => V.ref z.1) ++ [.ref p]))) b = some o) := by
  have nrp : r ≠ p := ne_of_none R.lst hp
  refine ⟨by rw [upd_ne nrp]; exact R.lst, ⟨fun b o e => ?_, ?_, fun z hz' => ?_⟩, fun b o e nb => ?_⟩
  · rw [upd_ne (ne_of_none e hr), upd_ne (ne_of_none (R.same _ _ e) hp)]
    exact R.same _ _ e
  · rw [upd_same, List.map_append]
    rfl
  · rcases List.mem_append.mp hz' with hz' | hz'
    · obtain ⟨h1, h2⟩ := R.all z hz'
      refine ⟨?_, h2⟩
      rw [upd_ne (ne_of h1 R.lst (by intro e; cases e)), upd_ne (ne_of_none h1 hp)]
      exact h1
    · have : z = (p, vs, pr) := by simpa using hz'
      subst this
      refine ⟨?_, ht, hin⟩
      rw [upd_ne nrp.symm, upd_same]
  · rw [upd_ne nb, upd_ne (ne_of_none e hp)]
    exact e
end L2
namespace L2
open PySem PySem.Spec PyProof.Rows
inductive D where
  | non
  | bl (b : Bool)
  | int (i : Int)
  | str (x : Str)
  | lst (xs : List D)
  | tup (xs : List D)
  
  | kl (xs : List D)
  | kt (xs : List D)
  | dic (ks : List Key) (xs : List D)
  | ins (c : Str) (ns : List Str) (xs : List D)
  deriving Inhabited

set_option genInjectivity false in
structure Gc where
  K : PySem.W.Frag
  cl : Str → Addr
mutual
noncomputable def Rep (G : Gc) (H : Hp) : D → V → Prop
  | .non, v => v = .non
  | .bl b, v => v = .bl b
  | .int i, v => v = .int i
  | .str x, v => v = .str x
  | .lst ds, v => ∃ a vs, v = .ref a ∧ H a = some (.lst vs) ∧ Reps G H ds vs
  | .tup ds, v => ∃ a vs, v = .ref a ∧ H a = some (.tup vs) ∧ Reps G H ds vs
  | .kl ds, v => ∃ a vs, v = .ref a ∧ SqL G.K H a vs ∧ Reps G H ds vs
  | .kt ds, v => ∃ a vs, v = .ref a ∧ SqT G.K H a vs ∧ Reps G H ds vs
  | .dic ks ds, v => ∃ a vs, v = .ref a ∧ H a = some (.dK (ks.zip vs)) ∧ ks.length = vs.length ∧ Reps G H ds vs
  | .ins c ns ds, v => ∃ a dx vs, v = .ref a ∧ H a = some (.ins (G.cl c) dx (ns.zip vs)) ∧ ns.length = vs.length ∧ Reps G H ds vs
noncomputable def Reps (G : Gc) (H : Hp) : List D → List V → Prop
  | [], vs => vs = []
  | d :: ds, vs => ∃ v r, vs = v :: r ∧ Rep G H d v ∧ Reps G H ds r
end
section
variable {G : Gc} {H H' Hf Hf' : Hp}
mutual
theorem Rep.upM (s : Same H H') : ∀ (d : D) (v : V), Rep G H d v → Rep G H' d v
  | .non, _, h => h
  | .bl _, _, h => h
  | .int _, _, h => h
  | .str _, _, h => h
  | .lst ds, _, ⟨a, vs, e, q, r⟩ => ⟨a, vs, e, s _ _ q, Reps.upM s ds vs r⟩
  | .tup ds, _, ⟨a, vs, e, q, r⟩ => ⟨a, vs, e, s _ _ q, Reps.upM s ds vs r⟩
  | .kl ds, _, ⟨a, vs, e, q, r⟩ => ⟨a, vs, e, s.seq q, Reps.upM s ds vs r⟩
  | .kt ds, _, ⟨a, vs, e, q, r⟩ => ⟨a, vs, e, s.tup q, Reps.upM s ds vs r⟩
  | .dic _ ds, _, ⟨a, vs, e, q, l, r⟩ => ⟨a, vs, e, s _ _ q, l, Reps.upM s ds vs r⟩
  | .ins _ _ ds, _, ⟨a, dx, vs, e, q, l, r⟩ => ⟨a, dx, vs, e, s _ _ q, l, Reps.upM s ds vs r⟩
theorem Reps.upM (s : Same H H') : ∀ (ds : List D) (vs : List V), Reps G H ds vs → Reps G H' ds vs
  | [], _, h => h
  | d :: ds, _, ⟨v, r, e, h1, h2⟩ => ⟨v, r, e, Rep.upM s d v h1, Reps.upM s ds r h2⟩
end
theorem Rep.up {d : D} {v : V} (r : Rep G H d v) (s : Same H H') : Rep G H' d v := Rep.upM s d v r
theorem Reps.up {ds : List D} {vs : List V} (r : Reps G H ds vs) (s : Same H H') : Reps G H' ds vs := Reps.upM s ds vs r
theorem Reps.nil : Reps G H [] [] := rfl
theorem Reps.cons {d : D} {ds : List D} {v : V} {vs : List V} (h : Rep G H d v) (t : Reps G H ds vs) : Reps G H (d :: ds) (v :: vs) := ⟨v, vs, rfl, h, t⟩
theorem Reps.length : ∀ {ds : List D} {vs : List V}, Reps G H ds vs → ds.length = vs.length
  | [], _, h => by cases (show _ = [] from h); rfl
  | d :: ds, _, ⟨v, r, e, _, h⟩ => by subst e; simp [Reps.length h]
theorem Reps.append : ∀ {ds es : List D} {vs us : List V}, Reps G H ds vs → Reps G H es us → Reps G H (ds ++ es) (vs ++ us)
  | [], _, _, _, h, t => by cases (show _ = [] from h); exact t
  | d :: ds, _, _, _, ⟨v, r, e, h1, h2⟩, t => by subst e; exact ⟨v, r ++ _, rfl, h1, Reps.append h2 t⟩
theorem Reps.get : ∀ {ds : List D} {vs : List V} {i : Nat} {d : D}, Reps G H ds vs → ds[i]? = some d → ∃ v, vs[i]? = some v ∧ Rep G H d v
  | [], _, _, _, _, e => by simp at e
  | d :: ds, _, 0, _, ⟨v, r, e, h1, _⟩, e' => by subst e; simp at e'; subst e'; exact ⟨v, rfl, h1⟩
  | d :: ds, _, i + 1, d', ⟨v, r, e, _, h2⟩, e' => by
    subst e
    obtain ⟨u, a, b⟩ := Reps.get (i := i) (d := d') h2 (by simpa using e')
    exact ⟨u, by simpa using a, b⟩
theorem Reps.get' : ∀ {ds : List D} {vs : List V} {i : Nat} {v : V}, Reps G H ds vs → vs[i]? = some v → ∃ d, ds[i]? = some d ∧ Rep G H d v := fun {ds vs i v} h e => by
  have hl := h.length
  have hi : i < ds.length := by have := (List.getElem?_eq_some_iff.mp e).1; omega
  obtain ⟨u, a, b⟩ := h.get (i := i) (d := ds[i]) (by simp [hi])
  rw [e] at a; cases a
  exact ⟨ds[i], by simp [hi], b⟩
theorem Reps.ints : ∀ (ns : List Int), Reps G H (ns.map D.int) (ns.map V.int)
  | [] => rfl
  | n :: ns => ⟨_, _, rfl, rfl, Reps.ints ns⟩
theorem Reps.take : ∀ {ds : List D} {vs : List V} (n : Nat), Reps G H ds vs → Reps G H (ds.take n) (vs.take n)
  | _, _, 0, _ => rfl
  | [], _, n + 1, h => by cases (show _ = [] from h); rfl
  | d :: ds, _, n + 1, ⟨v, r, e, h1, h2⟩ => by subst e; exact ⟨v, r.take n, rfl, h1, Reps.take n h2⟩
theorem Reps.drop : ∀ {ds : List D} {vs : List V} (n : Nat), Reps G H ds vs → Reps G H (ds.drop n) (vs.drop n)
  | _, _, 0, h => h
  | [], _, n + 1, h => by cases (show _ = [] from h); rfl
  | d :: ds, _, n + 1, ⟨v, r, e, h1, h2⟩ => by subst e; exact Reps.drop n h2
theorem Reps.reverse : ∀ {ds : List D} {vs : List V}, Reps G H ds vs → Reps G H ds.reverse vs.reverse
  | [], _, h => by cases (show _ = [] from h); rfl
  | d :: ds, _, ⟨v, r, e, h1, h2⟩ => by
    subst e
    rw [List.reverse_cons, List.reverse_cons]
    exact (Reps.reverse h2).append (.cons h1 .nil)
theorem Reps.set : ∀ {ds : List D} {vs : List V} (i : Nat) {d : D} {v : V}, Reps G H ds vs → Rep G H d v → Reps G H (ds.set i d) (vs.set i v)
  | [], _, _, _, _, h, _ => by cases (show _ = [] from h); exact .nil
  | e :: ds, _, 0, _, _, ⟨v, r, e', _, h2⟩, q => by subst e'; exact ⟨_, r, rfl, q, h2⟩
  | e :: ds, _, i + 1, _, _, ⟨v, r, e', h1, h2⟩, q => by subst e'; exact ⟨v, r.set i _, rfl, h1, Reps.set i h2 q⟩
end
noncomputable def tupO : HO → Bool
  | .tup _ => true
  | _ => false
structure Ext (Hf H Hf' H' : Hp) : Prop where
  f : Same Hf Hf'
  h : Same H H'
  s : Same Hf' H'
  n : ∀ l o, H l = some o → tupO o = false → Hf' l = Hf l
section
variable {Hf H Hf1 H1 Hf2 H2 : Hp} {p : Addr} {o : HO}
theorem Ext.refl (s : Same Hf H) : Ext Hf H Hf H := ⟨Same.refl _, Same.refl _, s, fun _ _ _ _ => rfl⟩
theorem Ext.trans (a : Ext Hf H Hf1 H1) (b : Ext Hf1 H1 Hf2 H2) : Ext Hf H Hf2 H2 := ⟨a.f.trans b.f, a.h.trans b.h, b.s, fun l o e t => (b.n l o (a.h l o e) t).trans (a.n l o e t)⟩
theorem Ext.new (s : Same Hf H) (h : H p = none) : Ext Hf H (upd Hf p o) (upd H p o) :=
  ⟨same_upd (s.free h), same_upd h, fun b u e => by
    by_cases hb : b = p
    · subst hb; rw [upd_same] at e ⊢; exact e
    · rw [upd_ne hb] at e ⊢; exact s b u e, fun l u e _ => by rw [upd_ne (ne_of_none e h)]⟩
theorem Ext.tmp (s : Same Hf H) (h : H p = none) : Ext Hf H Hf (upd H p o) := ⟨Same.refl _, same_upd h, s.trans (same_upd h), fun _ _ _ _ => rfl⟩
theorem Ext.grow (s : Same Hf H) (g : Same H H1) : Ext Hf H Hf H1 := ⟨Same.refl _, g, s.trans g, fun _ _ _ _ => rfl⟩

theorem Ext.fix (a : Ext Hf H Hf1 H1) (hn : H p = none) (hf : Hf1 p = none) (hp : H1 p = some o) : Ext Hf H (upd Hf1 p o) H1 :=
  ⟨a.f.trans (same_upd hf), a.h, fun b u e => by
    by_cases hb : b = p
    · subst hb; rw [upd_same] at e; rw [hp]; exact e
    · rw [upd_ne hb] at e; exact a.s b u e, fun l u e t => by rw [upd_ne (ne_of_none e hn)]; exact a.n l u e t⟩
end
inductive O where
  | fz (d : D)
  | lst (xs : List O)
  | tup (xs : List O)
  | dic (ks : List Key) (xs : List O)
  | ins (c : Str) (ns : List Str) (xs : List O)
  
  | jnk (n : Nat)
  deriving Inhabited
mutual
noncomputable def OT (G : Gc) (Hf H : Hp) : O → V → List Addr → Prop
  | .fz d, v, fp => Rep G Hf d v ∧ fp = []
  | .lst os, v, fp => ∃ a vs fs, v = .ref a ∧ H a = some (.lst vs) ∧ OTs G Hf H os vs fs ∧ fp = a :: fs
  | .tup os, v, fp => ∃ a vs, v = .ref a ∧ H a = some (.tup vs) ∧ OTs G Hf H os vs fp
  | .dic ks os, v, fp => ∃ a vs fs, v = .ref a ∧ H a = some (.dK (ks.zip vs)) ∧ ks.length = vs.length ∧ OTs G Hf H os vs fs ∧ fp = a :: fs
  | .ins c ns os, v, fp => ∃ a dx vs fs, v = .ref a ∧ H a = some (.ins (G.cl c) dx (ns.zip vs)) ∧ ns.length = vs.length ∧ OTs G Hf H os vs fs ∧ fp = a :: fs
  | .jnk n, v, fp => ∃ a vs, v = .ref a ∧ H a = some (.lst vs) ∧ vs.length ≤ n ∧ fp = [a]
noncomputable def OTs (G : Gc) (Hf H : Hp) : List O → List V → List Addr → Prop
  | [], vs, fp => vs = [] ∧ fp = []
  | o :: os, vs, fp => ∃ v r f1 f2, vs = v :: r ∧ OT G Hf H o v f1 ∧ OTs G Hf H os r f2 ∧ fp = f1 ++ f2
end
mutual
noncomputable def O.toD : O → D
  | .fz d => d
  | .lst os => .lst (O.toDs os)
  | .tup os => .tup (O.toDs os)
  | .dic ks os => .dic ks (O.toDs os)
  | .ins c ns os => .ins c ns (O.toDs os)
  | .jnk _ => .non
noncomputable def O.toDs : List O → List D
  | [] => []
  | o :: os => o.toD :: O.toDs os
end
mutual

noncomputable def O.kn : O → Bool
  | .fz _ => true
  | .lst os => O.kns os
  | .tup os => O.kns os
  | .dic _ os => O.kns os
  | .ins _ _ os => O.kns os
  | .jnk _ => false
noncomputable def O.kns : List O → Bool
  | [] => true
  | o :: os => o.kn && O.kns os
end
section
variable {G : Gc} {Hf H Hf' H' : Hp}
mutual
theorem OT.frameM (f : Same Hf Hf') : ∀ (o : O) (v : V) (fp : List Addr), OT G Hf H o v fp → (∀ b u, H b = some u → (tupO u = true ∨ b ∈ fp) → H' b = some u) → OT G Hf' H' o v fp
  | .fz d, _, _, h, _ => ⟨h.1.up f, h.2⟩
  | .lst os, _, fp, ⟨a, vs, fs, e, q, r, ef⟩, k => ⟨a, vs, fs, e, k _ _ q (.inr (by rw [ef]; exact List.mem_cons_self)), OTs.frameM f os vs fs r (fun b u hb hm => k b u hb (hm.imp_right fun z => by rw [ef]; exact List.mem_cons_of_mem _ z)), ef⟩
  | .tup os, _, fp, ⟨a, vs, e, q, r⟩, k => ⟨a, vs, e, k _ _ q (.inl rfl), OTs.frameM f os vs fp r k⟩
  | .dic ks os, _, fp, ⟨a, vs, fs, e, q, z, r, ef⟩, k => ⟨a, vs, fs, e, k _ _ q (.inr (by rw [ef]; exact List.mem_cons_self)), z, OTs.frameM f os vs fs r (fun b u hb hm => k b u hb (hm.imp_right fun z => by rw [ef]; exact List.mem_cons_of_mem _ z)), ef⟩
  | .ins c ns os, _, fp, ⟨a, dx, vs, fs, e, q, z, r, ef⟩, k => ⟨a, dx, vs, fs, e, k _ _ q (.inr (by rw [ef]; exact List.mem_cons_self)), z, OTs.frameM f os vs fs r (fun b u hb hm => k b u hb (hm.imp_right fun z => by rw [ef]; exact List.mem_cons_of_mem _ z)), ef⟩
  | .jnk n, _, fp, ⟨a, vs, e, q, z, ef⟩, k => ⟨a, vs, e, k _ _ q (.inr (by rw [ef]; exact List.mem_cons_self)), z, ef⟩
theorem OTs.frameM (f : Same Hf Hf') : ∀ (os : List O) (vs : List V) (fp : List Addr), OTs G Hf H os vs fp → (∀ b u, H b = some u → (tupO u = true ∨ b ∈ fp) → H' b = some u) → OTs G Hf' H' os vs fp
  | [], _, _, h, _ => h
  | o :: os, _, fp, ⟨v, r, f1, f2, e, h1, h2, ef⟩, k => ⟨v, r, f1, f2, e, OT.frameM f o v f1 h1 (fun b u hb hm => k b u hb (hm.imp_right fun z => by rw [ef]; exact List.mem_append_left _ z)), OTs.frameM f os r f2 h2 (fun b u hb hm => k b u hb (hm.imp_right fun z => by rw [ef]; exact List.mem_append_right _ z)), ef⟩
end
theorem OT.frame {o : O} {v : V} {fp : List Addr} (h : OT G Hf H o v fp) (f : Same Hf Hf') (k : ∀ b u, H b = some u → (tupO u = true ∨ b ∈ fp) → H' b = some u) : OT G Hf' H' o v fp := OT.frameM f o v fp h k
theorem OT.up {o : O} {v : V} {fp : List Addr} (h : OT G Hf H o v fp) (f : Same Hf Hf') (s : Same H H') : OT G Hf' H' o v fp := h.frame f fun b u e _ => s b u e
theorem zip_inj {α β : Type} : ∀ {ks : List α} {vs us : List β}, ks.length = vs.length → ks.length = us.length → ks.zip vs = ks.zip us → vs = us
  | [], [], [], _, _, _ => rfl
  | k :: ks, v :: vs, u :: us, h1, h2, e => by
    rw [List.zip_cons_cons, List.zip_cons_cons] at e
    injection e with e1 e2
    injection e1 with _ e3
    rw [e3, zip_inj (by simpa using h1) (by simpa using h2) e2]
  | [], _ :: _, _, h, _, _ => by cases h
  | [], [], _ :: _, _, h, _ => by cases h
  | _ :: _, [], _, h, _, _ => by cases h
  | _ :: _, _ :: _, [], _, h, _ => by cases h
mutual
theorem OT.funM : ∀ (o : O) (v : V) (f f' : List Addr), OT G Hf H o v f → OT G Hf' H o v f' → f = f'
  | .fz d, _, _, _, h, h' => h.2.trans h'.2.symm
  | .lst os, _, _, _, ⟨a, vs, fs, e, q, r, ef⟩, ⟨a', vs', fs', e', q', r', ef'⟩ => by
    subst e ef ef'
    cases e'
    rw [q] at q'
    cases q'
    rw [OTs.funM os vs fs fs' r r']
  | .tup os, _, f, f', ⟨a, vs, e, q, r⟩, ⟨a', vs', e', q', r'⟩ => by
    subst e
    cases e'
    rw [q] at q'
    cases q'
    exact OTs.funM os vs f f' r r'
  | .dic ks os, _, _, _, ⟨a, vs, fs, e, q, z, r, ef⟩, ⟨a', vs', fs', e', q', z', r', ef'⟩ => by
    subst e ef ef'
    cases e'
    rw [q] at q'
    have := zip_inj z z' (HO.dK.inj (Option.some.inj q'))
    subst this
    rw [OTs.funM os vs fs fs' r r']
  | .ins c ns os, _, _, _, ⟨a, dx, vs, fs, e, q, z, r, ef⟩, ⟨a', dx', vs', fs', e', q', z', r', ef'⟩ => by
    subst e ef ef'
    cases e'
    rw [q] at q'
    have := zip_inj z z' (HO.ins.inj (Option.some.inj q')).2.2
    subst this
    rw [OTs.funM os vs fs fs' r r']
  | .jnk n, _, _, _, ⟨a, vs, e, q, z, ef⟩, ⟨a', vs', e', q', z', ef'⟩ => by
    subst e ef ef'
    cases e'
    rfl
theorem OTs.funM : ∀ (os : List O) (vs : List V) (f f' : List Addr), OTs G Hf H os vs f → OTs G Hf' H os vs f' → f = f'
  | [], _, _, _, h, h' => h.2.trans h'.2.symm
  | o :: os, _, _, _, ⟨v, r, f1, f2, e, h1, h2, ef⟩, ⟨v', r', f1', f2', e', h1', h2', ef'⟩ => by
    subst e ef ef'
    cases e'
    rw [OT.funM o v f1 f1' h1 h1', OTs.funM os r f2 f2' h2 h2']
end
mutual
theorem OT.memM : ∀ (o : O) (v : V) (f : List Addr), OT G Hf H o v f → ∀ a ∈ f, ∃ u, H a = some u ∧ tupO u = false
  | .fz d, _, _, h, a, ha => by rw [h.2] at ha; cases ha
  | .lst os, _, _, ⟨a, vs, fs, e, q, r, ef⟩, b, hb => by
    subst ef
    rcases List.mem_cons.mp hb with z | z
    · subst z; exact ⟨_, q, rfl⟩
    · exact OTs.memM os vs fs r b z
  | .tup os, _, f, ⟨a, vs, e, q, r⟩, b, hb => OTs.memM os vs f r b hb
  | .dic ks os, _, _, ⟨a, vs, fs, e, q, z, r, ef⟩, b, hb => by
    subst ef
    rcases List.mem_cons.mp hb with z | z
    · subst z; exact ⟨_, q, rfl⟩
    · exact OTs.memM os vs fs r b z
  | .ins c ns os, _, _, ⟨a, dx, vs, fs, e, q, z, r, ef⟩, b, hb => by
    subst ef
    rcases List.mem_cons.mp hb with z | z
    · subst z; exact ⟨_, q, rfl⟩
    · exact OTs.memM os vs fs r b z
  | .jnk n, _, _, ⟨a, vs, e, q, z, ef⟩, b, hb => by
    subst ef
    rw [List.mem_singleton.mp hb]
    exact ⟨_, q, rfl⟩
theorem OTs.memM : ∀ (os : List O) (vs : List V) (f : List Addr), OTs G Hf H os vs f → ∀ a ∈ f, ∃ u, H a = some u ∧ tupO u = false
  | [], _, _, h, a, ha => by rw [h.2] at ha; cases ha
  | o :: os, _, _, ⟨v, r, f1, f2, e, h1, h2, ef⟩, a, ha => by
    subst ef
    rcases List.mem_append.mp ha with z | z
    · exact OT.memM o v f1 h1 a z
    · exact OTs.memM os r f2 h2 a z
end
mutual
theorem OT.repM (s : Same Hf H) : ∀ (o : O) (v : V) (f : List Addr), o.kn = true → OT G Hf H o v f → Rep G H o.toD v
  | .fz d, _, _, _, h => by rw [O.toD]; exact h.1.up s
  | .lst os, _, _, hk, ⟨a, vs, fs, e, q, r, ef⟩ => by rw [O.kn] at hk; rw [O.toD]; exact ⟨a, vs, e, q, OTs.repM s os vs fs hk r⟩
  | .tup os, _, f, hk, ⟨a, vs, e, q, r⟩ => by rw [O.kn] at hk; rw [O.toD]; exact ⟨a, vs, e, q, OTs.repM s os vs f hk r⟩
  | .dic ks os, _, _, hk, ⟨a, vs, fs, e, q, z, r, ef⟩ => by rw [O.kn] at hk; rw [O.toD]; exact ⟨a, vs, e, q, z, OTs.repM s os vs fs hk r⟩
  | .ins c ns os, _, _, hk, ⟨a, dx, vs, fs, e, q, z, r, ef⟩ => by rw [O.kn] at hk; rw [O.toD]; exact ⟨a, dx, vs, e, q, z, OTs.repM s os vs fs hk r⟩
  | .jnk _, _, _, hk, _ => by rw [O.kn] at hk; cases hk
theorem OTs.repM (s : Same Hf H) : ∀ (os : List O) (vs : List V) (f : List Addr), O.kns os = true → OTs G Hf H os vs f → Reps G H (O.toDs os) vs
  | [], _, _, _, h => by rw [O.toDs]; exact h.1
  | o :: os, _, _, hk, ⟨v, r, f1, f2, e, h1, h2, ef⟩ => by
    rw [O.kns, Bool.and_eq_true] at hk
    rw [O.toDs]
    exact ⟨v, r, e, OT.repM s o v f1 hk.1 h1, OTs.repM s os r f2 hk.2 h2⟩
end
theorem OT.rep {o : O} {v : V} {f : List Addr} (h : OT G Hf H o v f) (s : Same Hf H) (hk : o.kn = true) : Rep G H o.toD v := OT.repM s o v f hk h
theorem OTs.fz : ∀ {ds : List D} {vs : List V}, Reps G Hf ds vs → OTs G Hf H (ds.map .fz) vs []
  | [], _, h => ⟨h, rfl⟩
  | d :: ds, _, ⟨v, r, e, h1, h2⟩ => ⟨v, r, [], [], e, ⟨h1, rfl⟩, OTs.fz h2, rfl⟩
theorem toDs_fz (ds : List D) : O.toDs (ds.map .fz) = ds := by
  induction ds with
  | nil => rfl
  | cons d ds ih => rw [List.map_cons, O.toDs, O.toD, ih]
end
inductive Sl where
  | no
  | im (d : D)
  | own (xs : List D)
  | ownd (ks : List Key) (xs : List D)
  | obj (c : Str) (ns : List Str) (xs : List D)
  
  | pin (l : Addr) (xs : List D)
  
  | deep (o : O)
  
  | val (u : V)
noncomputable def Sl.isOwn : Sl → Bool
  | .own _ => true
  | .ownd _ _ => true
  | .obj _ _ _ => true
  | .pin _ _ => true
  | _ => false
noncomputable def Sl.calm : Sl → Bool
  | .no => true
  | .im _ => true
  | _ => false
noncomputable def OwnOk (G : Gc) (Hf H : Hp) (l : Addr) : Sl → Prop
  | .own ds => ∃ vs, H l = some (.lst vs) ∧ Reps G Hf ds vs
  | .ownd ks ds => ∃ vs, H l = some (.dK (ks.zip vs)) ∧ ks.length = vs.length ∧ Reps G Hf ds vs
  | .obj c ns ds => ∃ dx vs, H l = some (.ins (G.cl c) dx (ns.zip vs)) ∧ ns.length = vs.length ∧ Reps G Hf ds vs
  | .pin l0 ds => l = l0 ∧ ∃ vs, H l = some (.lst vs) ∧ Reps G Hf ds vs
  | _ => False
theorem OwnOk.there {G : Gc} {Hf H : Hp} {l : Addr} {s : Sl} (h : OwnOk G Hf H l s) : ∃ o, H l = some o := by
  cases s with
  | own ds => obtain ⟨vs, h, _⟩ := h; exact ⟨_, h⟩
  | ownd ks ds => obtain ⟨vs, h, _⟩ := h; exact ⟨_, h⟩
  | obj c ns ds => obtain ⟨dx, vs, h, _⟩ := h; exact ⟨_, h⟩
  | pin l0 ds => obtain ⟨_, vs, h, _⟩ := h; exact ⟨_, h⟩
  | _ => exact h.elim
theorem OwnOk.there2 {G : Gc} {Hf H : Hp} {l : Addr} {s : Sl} (h : OwnOk G Hf H l s) : ∃ o, H l = some o ∧ tupO o = false := by
  cases s with
  | own ds => obtain ⟨vs, h, _⟩ := h; exact ⟨_, h, rfl⟩
  | ownd ks ds => obtain ⟨vs, h, _⟩ := h; exact ⟨_, h, rfl⟩
  | obj c ns ds => obtain ⟨dx, vs, h, _⟩ := h; exact ⟨_, h, rfl⟩
  | pin l0 ds => obtain ⟨_, vs, h, _⟩ := h; exact ⟨_, h, rfl⟩
  | _ => exact h.elim
theorem OwnOk.up {G : Gc} {Hf H Hf' H' : Hp} {l : Addr} {s : Sl} (h : OwnOk G Hf H l s) (f : Same Hf Hf') (e : ∀ o, H l = some o → H' l = some o) : OwnOk G Hf' H' l s := by
  cases s with
  | own ds => obtain ⟨vs, h, r⟩ := h; exact ⟨vs, e _ h, r.up f⟩
  | ownd ks ds => obtain ⟨vs, h, z, r⟩ := h; exact ⟨vs, e _ h, z, r.up f⟩
  | obj c ns ds => obtain ⟨dx, vs, h, z, r⟩ := h; exact ⟨dx, vs, e _ h, z, r.up f⟩
  | pin l0 ds => obtain ⟨q, vs, h, r⟩ := h; exact ⟨q, vs, e _ h, r.up f⟩
  | _ => exact h.elim
noncomputable def SlOk (G : Gc) (H0 Hf H : Hp) (v : Option V) : Sl → Prop
  | .no => True
  | .im d => ∃ u, v = some u ∧ Rep G Hf d u
  | .deep o => ∃ u fp, v = some u ∧ OT G Hf H o u fp ∧ fp.Nodup ∧ ∀ a ∈ fp, H0 a = none ∧ Hf a = none
  | .val u => v = some u
  | s => ∃ l, v = some (.ref l) ∧ H0 l = none ∧ Hf l = none ∧ OwnOk G Hf H l s
theorem SlOk.own {G : Gc} {H0 Hf H : Hp} {v : Option V} {s : Sl} (hs : s.isOwn = true) (h : SlOk G H0 Hf H v s) : ∃ l, v = some (.ref l) ∧ H0 l = none ∧ Hf l = none ∧ OwnOk G Hf H l s := by
  cases s <;> first | exact h | cases hs
theorem SlOk.ofOwn {G : Gc} {H0 Hf H : Hp} {v : Option V} {s : Sl} (hs : s.isOwn = true) (h : ∃ l, v = some (.ref l) ∧ H0 l = none ∧ Hf l = none ∧ OwnOk G Hf H l s) : SlOk G H0 Hf H v s := by
  cases s <;> first | exact h | cases hs

noncomputable def Holds (G : Gc) (Hf H : Hp) (s : Sl) (v : V) (a : Addr) : Prop := match s with
  | .deep o => ∃ fp, OT G Hf H o v fp ∧ a ∈ fp
  | s => s.isOwn = true ∧ v = .ref a
theorem Holds.own {G : Gc} {Hf H : Hp} {s : Sl} {v : V} {a : Addr} (hs : s.isOwn = true) : Holds G Hf H s v a ↔ v = .ref a := by
  cases s <;> first | exact ⟨fun h => h.2, fun h => ⟨rfl, h⟩⟩ | cases hs
theorem Holds.calm {G : Gc} {Hf H : Hp} {s : Sl} {v : V} {a : Addr} (h : Holds G Hf H s v a) (hs : s.calm = true) : False := by
  cases s <;> first | exact Bool.noConfusion h.1 | cases hs
theorem SlOk.back {G : Gc} {H0 Hf H Hf' H' : Hp} {s : Sl} {v : V} {a : Addr} (q : SlOk G H0 Hf H (some v) s) (k : ∀ o fp, s = .deep o → OT G Hf H o v fp → OT G Hf' H' o v fp) (h : Holds G Hf' H' s v a) : Holds G Hf H s v a := by
  cases s with
  | deep o =>
    obtain ⟨u, fp, e, r, _⟩ := q
    cases e
    obtain ⟨fp', r', ha⟩ := h
    have := OT.funM o v fp fp' (k o fp rfl r) r'
    subst this
    exact ⟨fp, r, ha⟩
  | _ => exact h
theorem SlOk.there {G : Gc} {H0 Hf H : Hp} {s : Sl} {v : V} {a : Addr} (q : SlOk G H0 Hf H (some v) s) (h : Holds G Hf H s v a) : ∃ o, H a = some o ∧ tupO o = false := by
  cases hs : s.isOwn with
  | true =>
    obtain ⟨l, e, _, _, ho⟩ := q.own hs
    have e2 := (Holds.own hs).mp h
    cases e
    cases e2
    exact ho.there2
  | false =>
    cases s with
    | deep o =>
      obtain ⟨fp, r, ha⟩ := h
      exact OT.memM o v fp r a ha
    | _ => first | exact Bool.noConfusion h.1 | cases hs

structure StOk (G : Gc) (Hf0 H0 Hf H : Hp) (σ : St) (ρ : List Sl) : Prop where
  ext : Ext Hf0 H0 Hf H
  len : σ.length = ρ.length
  at' : ∀ (i : Nat) (v : Option V) (s : Sl), σ[i]? = some v → ρ[i]? = some s → SlOk G H0 Hf H v s
  dj : ∀ (i j : Nat) (s t : Sl) (v w : V) (a : Addr), ρ[i]? = some s → ρ[j]? = some t → σ[i]? = some (some v) → σ[j]? = some (some w) → Holds G Hf H s v a → Holds G Hf H t w a → i = j
section
variable {G : Gc} {Hf0 H0 Hf H Hf' H' : Hp} {σ : St} {ρ : List Sl}
theorem StOk.sub (h : StOk G Hf0 H0 Hf H σ ρ) : Same Hf H := h.ext.s
theorem StOk.inj (h : StOk G Hf0 H0 Hf H σ ρ) (i j : Nat) (s t : Sl) (l : Addr) (a : ρ[i]? = some s) (b : ρ[j]? = some t) (hs : s.isOwn = true) (ht : t.isOwn = true) (c : σ[i]? = some (some (.ref l))) (d : σ[j]? = some (some (.ref l))) : i = j :=
  h.dj i j s t _ _ l a b c d ((Holds.own hs).mpr rfl) ((Holds.own ht).mpr rfl)

theorem StOk.re {Hf0' H0' : Hp} {ρ' : List Sl} (h : StOk G Hf0 H0 Hf H σ ρ) (x : Ext Hf0' H0' Hf' H') (hl : ρ'.length = ρ.length) (ha : ∀ (i : Nat) (v : Option V) (s : Sl), σ[i]? = some v → ρ'[i]? = some s → SlOk G H0' Hf' H' v s)
    (hd : ∀ (i : Nat) (s : Sl) (v : V) (a : Addr), ρ'[i]? = some s → σ[i]? = some (some v) → Holds G Hf' H' s v a → ∃ t, ρ[i]? = some t ∧ Holds G Hf H t v a) : StOk G Hf0' H0' Hf' H' σ ρ' :=
  ⟨x, h.len.trans hl.symm, ha, fun i j s t v w a b c e f p q => by
    obtain ⟨s0, b0, p0⟩ := hd i s v a b e p
    obtain ⟨t0, c0, q0⟩ := hd j t w a c f q
    exact h.dj i j s0 t0 v w a b0 c0 e f p0 q0⟩
theorem StOk.step (h : StOk G Hf0 H0 Hf H σ ρ) (e : Ext Hf H Hf' H') : StOk G Hf0 H0 Hf' H' σ ρ := by
  refine h.re (h.ext.trans e) rfl (fun i v s a b => ?_) fun i s v a b c d => ⟨s, b, (h.at' i _ s c b).back (fun o fp _ r => r.up e.f e.h) d⟩
  have q := h.at' i v s a b
  cases hs : s.isOwn with
  | true =>
    obtain ⟨l, e1, e2, e3, e4⟩ := q.own hs
    obtain ⟨o, ho, ht⟩ := e4.there2
    exact .ofOwn hs ⟨l, e1, e2, by rw [e.n l o ho ht]; exact e3, e4.up e.f fun o ho => e.h _ _ ho⟩
  | false =>
    cases s with
    | no => trivial
    | im d => obtain ⟨u, e1, r⟩ := q; exact ⟨u, e1, r.up e.f⟩
    | val u => exact q
    | deep o =>
      obtain ⟨u, fp, e1, r, n, z⟩ := q
      refine ⟨u, fp, e1, r.up e.f e.h, n, fun a ha => ⟨(z a ha).1, ?_⟩⟩
      obtain ⟨oo, ho, ht⟩ := OT.memM o u fp r a ha
      rw [e.n a oo ho ht]
      exact (z a ha).2
    | _ => cases hs
theorem StOk.slot {i : Nat} {s : Sl} (h : StOk G Hf0 H0 Hf H σ ρ) (e : ρ[i]? = some s) : ∃ v, σ[i]? = some v ∧ SlOk G H0 Hf H v s := by
  have hi : i < σ.length := by rw [h.len]; exact (List.getElem?_eq_some_iff.mp e).1
  exact ⟨σ[i], by simp [hi], h.at' i _ s (by simp [hi]) e⟩
theorem StOk.imm {i : Nat} {d : D} (h : StOk G Hf0 H0 Hf H σ ρ) (e : ρ[i]? = some (.im d)) : ∃ v, σ[i]? = some (some v) ∧ Rep G Hf d v := by
  obtain ⟨v, e1, u, e2, r⟩ := h.slot e
  subst e2
  exact ⟨u, e1, r⟩
theorem StOk.ownAt {i : Nat} {s : Sl} (hs : s.isOwn = true) (h : StOk G Hf0 H0 Hf H σ ρ) (e : ρ[i]? = some s) : ∃ l, σ[i]? = some (some (.ref l)) ∧ H0 l = none ∧ Hf l = none ∧ OwnOk G Hf H l s := by
  obtain ⟨v, e1, q⟩ := h.slot e
  obtain ⟨l, e2, q2⟩ := q.own hs
  rw [e2] at e1
  exact ⟨l, e1, q2⟩
theorem get_set {α : Type} {l : List α} {i j : Nat} {x y : α} (h : (l.set i x)[j]? = some y) : (j = i ∧ y = x ∧ i < l.length) ∨ (j ≠ i ∧ l[j]? = some y) := by
  by_cases hj : j = i
  · subst hj
    left
    have hi : j < l.length := by have := (List.getElem?_eq_some_iff.mp h).1; simpa using this
    rw [List.getElem?_set_self hi] at h
    exact ⟨rfl, (Option.some.inj h).symm, hi⟩
  · right
    rw [List.getElem?_set_ne (Ne.symm hj)] at h
    exact ⟨hj, h⟩
theorem StOk.setIm {i : Nat} {d : D} {v : V} (h : StOk G Hf0 H0 Hf H σ ρ) (r : Rep G Hf d v) : StOk G Hf0 H0 Hf H (σ.set i (some v)) (ρ.set i (.im d)) := by
  refine ⟨h.ext, by simpa using h.len, fun j u s a b => ?_, fun j k s t u w l a b c d' p q => ?_⟩
  · rcases get_set b with ⟨e, e', _⟩ | ⟨e, b⟩
    · subst e e'
      rcases get_set a with ⟨_, e', _⟩ | ⟨e, _⟩
      · subst e'; exact ⟨v, rfl, r⟩
      · exact absurd rfl e
    · rcases get_set a with ⟨e', _⟩ | ⟨_, a⟩
      · exact absurd e' e
      · exact h.at' j u s a b
  · rcases get_set a with ⟨e, e', _⟩ | ⟨e, a⟩
    · subst e'; exact (p.calm rfl).elim
    · rcases get_set b with ⟨e2, e', _⟩ | ⟨e2, b⟩
      · subst e'; exact (q.calm rfl).elim
      · rcases get_set c with ⟨e', _⟩ | ⟨_, c⟩
        · exact absurd e' e
        · rcases get_set d' with ⟨e', _⟩ | ⟨_, d'⟩
          · exact absurd e' e2
          · exact h.dj j k s t u w l a b c d' p q
theorem StOk.setNew {i : Nat} {u : V} {s : Sl} (h : StOk G Hf0 H0 Hf H σ ρ) (e : Ext Hf H Hf' H') (ho : SlOk G H0 Hf' H' (some u) s) (hn : ∀ a, Holds G Hf' H' s u a → H a = none) :
    StOk G Hf0 H0 Hf' H' (σ.set i (some u)) (ρ.set i s) := by
  have h' := h.step e
  have no : ∀ (j : Nat) (t : Sl) (w : V) (a : Addr), ρ[j]? = some t → σ[j]? = some (some w) → Holds G Hf' H' t w a → Holds G Hf' H' s u a → False := fun j t w a b c p q => by
    have p0 := (h.at' j _ t c b).back (fun o fp _ r => r.up e.f e.h) p
    obtain ⟨o, ho, _⟩ := (h.at' j _ t c b).there p0
    rw [hn a q] at ho; cases ho
  refine ⟨h'.ext, by simpa using h.len, fun j w t a b => ?_, fun j k t t' v w l a b c d' p q => ?_⟩
  · rcases get_set b with ⟨e, e', _⟩ | ⟨e, b⟩
    · subst e e'
      rcases get_set a with ⟨_, e', _⟩ | ⟨e, _⟩
      · subst e'; exact ho
      · exact absurd rfl e
    · rcases get_set a with ⟨e', _⟩ | ⟨_, a⟩
      · exact absurd e' e
      · exact h'.at' j w t a b
  · rcases get_set a with ⟨e1, e1', _⟩ | ⟨e1, a⟩
    · rcases get_set b with ⟨e2, e2', _⟩ | ⟨e2, b⟩
      · rw [e1, e2]
      · rcases get_set c with ⟨_, e', _⟩ | ⟨e', _⟩
        · cases e'
          rw [e1'] at p
          rcases get_set d' with ⟨e', _⟩ | ⟨_, d'⟩
          · exact absurd e' e2
          · exact (no k t' w l b d' q p).elim
        · exact absurd e1 e'
    · rcases get_set c with ⟨e', _⟩ | ⟨_, c⟩
      · exact absurd e' e1
      · rcases get_set b with ⟨e2, e2', _⟩ | ⟨e2, b⟩
        · rcases get_set d' with ⟨_, e', _⟩ | ⟨e', _⟩
          · cases e'
            rw [e2'] at q
            exact (no j t v l a c p q).elim
          · exact absurd e2 e'
        · rcases get_set d' with ⟨e', _⟩ | ⟨_, d'⟩
          · exact absurd e' e2
          · exact h'.dj j k t t' v w l a b c d' p q
theorem StOk.setOwn {i : Nat} {l : Addr} {s : Sl} (hs : s.isOwn = true) (h : StOk G Hf0 H0 Hf H σ ρ) (e : Ext Hf H Hf' H') (hn : H l = none) (hf : Hf' l = none) (ho : OwnOk G Hf' H' l s) :
    StOk G Hf0 H0 Hf' H' (σ.set i (some (.ref l))) (ρ.set i s) :=
  h.setNew e (.ofOwn hs ⟨l, rfl, h.ext.h.free hn, hf, ho⟩) fun a p => by cases (Holds.own hs).mp p; exact hn

theorem StOk.chg {i : Nat} {s s' : Sl} {v : V} (h : StOk G Hf0 H0 Hf H σ ρ) (e : ρ[i]? = some s) (el : σ[i]? = some (some v)) (k : ∀ b u, H b = some u → Holds G Hf H s v b ∨ H' b = some u) (ho : SlOk G H0 Hf H' (some v) s')
    (hh : ∀ a, Holds G Hf H' s' v a → Holds G Hf H s v a ∨ ∀ (j : Nat) (t : Sl) (w : V), ρ[j]? = some t → σ[j]? = some (some w) → Holds G Hf H t w a → False) : StOk G Hf0 H0 Hf H' σ (ρ.set i s') := by
  have q := h.at' i _ s el e
  have gone : ∀ b, Holds G Hf H s v b → H0 b = none ∧ Hf b = none := fun b p => by
    cases hs : s.isOwn with
    | true =>
      obtain ⟨l, e1, h0, hf, _⟩ := q.own hs
      have e2 := (Holds.own hs).mp p
      cases e1
      cases e2
      exact ⟨h0, hf⟩
    | false =>
      cases s with
      | deep o =>
        obtain ⟨u, fp, e1, r, n, z⟩ := q
        cases e1
        obtain ⟨fp', r', ha⟩ := p
        have := OT.funM o v fp fp' r r'
        subst this
        exact z b ha
      | _ => first | exact Bool.noConfusion p.1 | cases hs
  have fr : ∀ (j : Nat) (t : Sl) (w : V), j ≠ i → ρ[j]? = some t → σ[j]? = some (some w) → ∀ o fp, t = .deep o → OT G Hf H o w fp → OT G Hf H' o w fp := fun j t w hj b c o fp et r => by
    subst et
    refine r.frame (Same.refl _) fun x u hx hm => ?_
    rcases k x u hx with z | z
    · rcases hm with hm | hm
      · obtain ⟨o', ho', ht'⟩ := q.there z
        rw [hx] at ho'
        cases ho'
        rw [hm] at ht'
        cases ht'
      · exact absurd (h.dj j i _ s w v x b e c el ⟨fp, r, hm⟩ z) hj
    · exact z
  refine ⟨⟨h.ext.f, fun b u e => ?_, fun b u e => ?_, h.ext.n⟩, by simpa using h.len, fun j u t a b => ?_, fun j j' t t' w w' a b c b' c' p p' => ?_⟩
  · rcases k b u (h.ext.h b u e) with z | z
    · rw [(gone b z).1] at e; cases e
    · exact z
  · rcases k b u (h.ext.s b u e) with z | z
    · rw [(gone b z).2] at e; cases e
    · exact z
  · rcases get_set b with ⟨e', e2, _⟩ | ⟨en, b⟩
    · subst e' e2
      rw [el] at a; cases a
      exact ho
    · have q' := h.at' j u t a b
      cases ht : t.isOwn with
      | false =>
        cases t with
        | no => trivial
        | im d => exact q'
        | val u => exact q'
        | deep o =>
          obtain ⟨w, fp, e1, r, n, z⟩ := q'
          subst e1
          exact ⟨w, fp, rfl, fr j _ w en b a o fp rfl r, n, z⟩
        | _ => cases ht
      | true =>
        obtain ⟨l2, e2, e3, e4, q2⟩ := q'.own ht
        subst e2
        refine .ofOwn ht ⟨l2, rfl, e3, e4, q2.up (Same.refl _) fun o' ho' => ?_⟩
        rcases k l2 o' ho' with z | z
        · exact absurd (h.dj j i t s _ v l2 b e a el ((Holds.own ht).mpr rfl) z) en
        · exact z
  · have old : ∀ (j : Nat) (t : Sl) (w : V), (ρ.set i s')[j]? = some t → σ[j]? = some (some w) → Holds G Hf H' t w a → (j = i ∧ ∀ (j : Nat) (t : Sl) (w : V), ρ[j]? = some t → σ[j]? = some (some w) → Holds G Hf H t w a → False) ∨ ∃ t0, ρ[j]? = some t0 ∧ Holds G Hf H t0 w a := fun j t w b y p => by
      rcases get_set b with ⟨e', e2, _⟩ | ⟨en, b⟩
      · rw [e2] at p
        rw [e', el] at y
        cases y
        rw [e']
        rcases hh a p with z | z
        · exact .inr ⟨s, e, z⟩
        · exact .inl ⟨rfl, z⟩
      · exact .inr ⟨t, b, (h.at' j _ t y b).back (fr j t w en b y) p⟩
    rcases old j t w b b' p with ⟨z1, z2⟩ | ⟨t0, z1, z2⟩
    · rcases old j' t' w' c c' p' with ⟨y1, y2⟩ | ⟨t1, y1, y2⟩
      · rw [z1, y1]
      · exact (z2 j' t1 w' y1 c' y2).elim
    · rcases old j' t' w' c c' p' with ⟨y1, y2⟩ | ⟨t1, y1, y2⟩
      · exact (y2 j t0 w z1 b' z2).elim
      · exact h.dj j j' t0 t1 w w' a z1 y1 b' c' z2 y2

theorem StOk.chgX {i : Nat} {s s' : Sl} {v : V} {H1 : Hp} (h : StOk G Hf0 H0 Hf H σ ρ) (x : Ext Hf H Hf' H1) (e : ρ[i]? = some s) (el : σ[i]? = some (some v)) (k : ∀ b u, H1 b = some u → Holds G Hf H s v b ∨ H' b = some u) (ho : SlOk G H0 Hf' H' (some v) s')
    (hh : ∀ a, Holds G Hf' H' s' v a → Holds G Hf H s v a ∨ H a = none) : StOk G Hf0 H0 Hf' H' σ (ρ.set i s') := by
  have up : ∀ b, Holds G Hf H s v b → Holds G Hf' H1 s v b := fun b p => by
    cases s with
    | deep o => obtain ⟨fp, r, hb⟩ := p; exact ⟨fp, r.up x.f x.h, hb⟩
    | _ => exact p
  refine (h.step x).chg e el (fun b u hb => (k b u hb).imp_left (up b)) ho fun a p => ?_
  rcases hh a p with z | z
  · exact .inl (up a z)
  · refine .inr fun j t w b c q => ?_
    obtain ⟨o, ho, _⟩ := (h.at' j _ t c b).there ((h.at' j _ t c b).back (fun o fp _ r => r.up x.f x.h) q)
    rw [z] at ho
    cases ho
theorem StOk.mutd {i : Nat} {l : Addr} {s s' : Sl} {o : HO} (hs : s.isOwn = true) (hs' : s'.isOwn = true) (h : StOk G Hf0 H0 Hf H σ ρ) (e : ρ[i]? = some s) (el : σ[i]? = some (some (.ref l))) (ho : OwnOk G Hf (upd H l o) l s') :
    StOk G Hf0 H0 Hf (upd H l o) σ (ρ.set i s') := by
  obtain ⟨l', e1, h0, hf, q⟩ := h.ownAt hs e
  rw [el] at e1; cases e1
  refine h.chg e el (fun b u hb => ?_) (.ofOwn hs' ⟨l, rfl, h0, hf, ho⟩) fun a p => .inl ?_
  · by_cases hl : b = l
    · subst hl; exact .inl ((Holds.own hs).mpr rfl)
    · exact .inr (by rw [upd_ne hl]; exact hb)
  · exact (Holds.own hs).mpr ((Holds.own hs').mp p)

end
end L2
namespace L2
open PySem PySem.Spec PyProof.Rows
section
variable {X : Cx} {e : Expr}
theorem PE.imp {t t' : TE} (h : PE X e t) (i : ∀ σ H Q, t' σ H Q → t σ H Q) : PE X e t' := fun pins s σ H Q I q => h pins s σ H Q I (i σ H Q q)
theorem PT.imp {t t' : TT} (h : PT X e t) (i : ∀ σ H Q, t' σ H Q → t σ H Q) : PT X e t' := fun pins s σ H Q I q => h pins s σ H Q I (i σ H Q q)
theorem PW.imp {t t' : TT} (h : PW X e t) (i : ∀ σ H Q, t' σ H Q → t σ H Q) : PW X e t' := fun wh pins s σ H Q I q => h wh pins s σ H Q I (i σ H Q q)
theorem PA.imp {es : List Expr} {t t' : TA} (h : PA X es t) (i : ∀ σ H Q, t' σ H Q → t σ H Q) : PA X es t' := fun pos pins s σ H Q I q => h pos pins s σ H Q I (i σ H Q q)
theorem PS.imp {st : Stmt} {t t' : TS} (h : PS X st t) (i : ∀ E σ H, t' E σ H → t E σ H) : PS X st t' := fun pins s σ H E I q => h pins s σ H E I (i E σ H q)
theorem PSs.imp {st : List Stmt} {t t' : TS} (h : PSs X st t) (i : ∀ E σ H, t' E σ H → t E σ H) : PSs X st t' := fun pins s σ H E I q => h pins s σ H E I (i E σ H q)
theorem PG.imp {t t' : TG} (h : PG X e t) (i : ∀ v σ H Q, t' v σ H Q → t v σ H Q) : PG X e t' := fun pins s σ H v u Q I r q => h pins s σ H v u Q I r (i v σ H Q q)
theorem PGs.imp {es : List Expr} {t t' : TGs} (h : PGs X es t) (i : ∀ v σ H Q, t' v σ H Q → t v σ H Q) : PGs X es t' := fun pins s σ H v u Q I r q => h pins s σ H v u Q I r (i v σ H Q q)
theorem PI.imp {tg : Expr} {t t' : TI} (h : PI X tg e t) (i : ∀ σ H R, t' σ H R → t σ H R) : PI X tg e t' := fun pins s σ H R I q => h pins s σ H R I (i σ H R q)
theorem PTs.imp {ifs : List Expr} {t t' : TT} (h : PTs X ifs t) (i : ∀ σ H Q, t' σ H Q → t σ H Q) : PTs X ifs t' := fun pins s σ H Q I q => h pins s σ H Q I (i σ H Q q)
theorem OpR.imp {f : Value → Value → Sem Value} {r r' : R2} (h : OpR X f r) (i : ∀ x y H Q, r' x y H Q → r x y H Q) : OpR X f r' := fun pins s σ H x y v u Q I rx ry q => h pins s σ H x y v u Q I rx ry (i x y H Q q)
theorem CallR.imp {f : Value} {r r' : List V → Hp → VK → Prop} (h : CallR X f r) (i : ∀ xs H Q, r' xs H Q → r xs H Q) : CallR X f r' := fun pins s σ H xs us Q I rx q => h pins s σ H xs us Q I rx (i xs H Q q)
end
noncomputable abbrev Gx (c : Str → Addr) (X : Cx) : Gc := ⟨X.K, c⟩

noncomputable def tD (G : Gc) (f : List Sl → Option D) : TE := fun σ H Q => ∃ Hf0 H0 Hf ρ d, StOk G Hf0 H0 Hf H σ ρ ∧ f ρ = some d ∧ ∀ v Hf' H', Ext Hf H Hf' H' → Rep G Hf' d v → Q v H'
noncomputable def tDB (G : Gc) (f : List Sl → Option D) : TE := fun σ H Q => ∃ Hf0 H0 Hf ρ d, StOk G Hf0 H0 Hf H σ ρ ∧ f ρ = some d ∧ ∀ v Hf' H', Ext Hf H Hf' H' → Rep G H' d v → Q v H'
noncomputable def tDC (G : Gc) (f : List Sl → Option (List D)) : TE := fun σ H Q => ∃ Hf0 H0 Hf ρ ds, StOk G Hf0 H0 Hf H σ ρ ∧ f ρ = some ds ∧ ∀ a vs Hf' H', Ext Hf H Hf' H' → (SqL G.K H' a vs ∨ SqT G.K H' a vs) → Reps G Hf' ds vs → Q (.ref a) H'
noncomputable def tDO (G : Gc) (f : List Sl → Option (List D)) : TE := fun σ H Q => ∃ Hf0 H0 Hf ρ ds, StOk G Hf0 H0 Hf H σ ρ ∧ f ρ = some ds ∧
  ∀ l vs Hf' H', Ext Hf H Hf' H' → H l = none → Hf' l = none → H' l = some (.lst vs) → Reps G Hf' ds vs → Q (.ref l) H'
noncomputable def tDA (G : Gc) (f : List Sl → Option (List D)) : TA := fun σ H Q => ∃ Hf0 H0 Hf ρ ds, StOk G Hf0 H0 Hf H σ ρ ∧ f ρ = some ds ∧ ∀ vs Hf' H', Ext Hf H Hf' H' → Reps G Hf' ds vs → Q vs H'
noncomputable def tDAB (G : Gc) (f : List Sl → Option (List D)) : TA := fun σ H Q => ∃ Hf0 H0 Hf ρ ds, StOk G Hf0 H0 Hf H σ ρ ∧ f ρ = some ds ∧ ∀ vs Hf' H', Ext Hf H Hf' H' → Reps G H' ds vs → Q vs H'
noncomputable def tDT (G : Gc) (f : List Sl → Option Bool) : TT := fun σ H Q => ∃ Hf0 H0 Hf ρ b, StOk G Hf0 H0 Hf H σ ρ ∧ f ρ = some b ∧ ∀ Hf' H', Ext Hf H Hf' H' → Q b H'
noncomputable def DE (c : Str → Addr) (X : Cx) (e : Expr) (f : List Sl → Option D) : Prop := PE X e (tD (Gx c X) f)
noncomputable def DB (c : Str → Addr) (X : Cx) (e : Expr) (f : List Sl → Option D) : Prop := PE X e (tDB (Gx c X) f)
noncomputable def DC (c : Str → Addr) (X : Cx) (e : Expr) (f : List Sl → Option (List D)) : Prop := PE X e (tDC (Gx c X) f)
noncomputable def DO (c : Str → Addr) (X : Cx) (e : Expr) (f : List Sl → Option (List D)) : Prop := PE X e (tDO (Gx c X) f)
structure DA (c : Str → Addr) (X : Cx) (es : List Expr) (f : List Sl → Option (List D)) : Prop where
  pa : PA X es (tDA (Gx c X) f)
  len : ∀ ρ ds, f ρ = some ds → ds.length = es.length
structure DAB (c : Str → Addr) (X : Cx) (es : List Expr) (f : List Sl → Option (List D)) : Prop where
  pa : PA X es (tDAB (Gx c X) f)
  len : ∀ ρ ds, f ρ = some ds → ds.length = es.length
noncomputable def DT (c : Str → Addr) (X : Cx) (e : Expr) (f : List Sl → Option Bool) : Prop := PT X e (tDT (Gx c X) f)
noncomputable def DW (c : Str → Addr) (X : Cx) (e : Expr) (f : List Sl → Option Bool) : Prop := PW X e (tDT (Gx c X) f)

noncomputable def D.scalar : D → Bool
  | .non => true
  | .bl _ => true
  | .int _ => true
  | .str _ => true
  | _ => false
theorem Rep.sc {G : Gc} {H H' : Hp} {d : D} {v : V} (hs : d.scalar = true) (r : Rep G H d v) : Rep G H' d v := by
  cases d <;> first | exact r | cases hs
noncomputable def seqD : D → Option (List D)
  | .lst xs => some xs
  | .tup xs => some xs
  | .kl xs => some xs
  | .kt xs => some xs
  | _ => none
theorem seq_rep {G : Gc} {H : Hp} {d : D} {v : V} {ds : List D} (e : seqD d = some ds) (r : Rep G H d v) : ∃ a vs, v = .ref a ∧ (SqL G.K H a vs ∨ SqT G.K H a vs) ∧ Reps G H ds vs := by
  cases d with
  | lst xs => cases e; obtain ⟨a, vs, e1, q, r⟩ := r; exact ⟨a, vs, e1, .inl (SqL.of q), r⟩
  | tup xs => cases e; obtain ⟨a, vs, e1, q, r⟩ := r; exact ⟨a, vs, e1, .inr (SqT.of q), r⟩
  | kl xs => cases e; obtain ⟨a, vs, e1, q, r⟩ := r; exact ⟨a, vs, e1, .inl q, r⟩
  | kt xs => cases e; obtain ⟨a, vs, e1, q, r⟩ := r; exact ⟨a, vs, e1, .inr q, r⟩
  | _ => cases e
theorem sq_up {K : PySem.W.Frag} {H H' : Hp} (s : Same H H') {a : Addr} {vs : List V} (h : SqL K H a vs ∨ SqT K H a vs) : SqL K H' a vs ∨ SqT K H' a vs := h.imp s.seq s.tup

noncomputable def mLst (f : List Sl → Option (List D)) (ρ : List Sl) : Option D := (f ρ).map .lst
noncomputable def mTup (f : List Sl → Option (List D)) (ρ : List Sl) : Option D := (f ρ).map .tup
noncomputable def mSeqI (f : List Sl → Option D) (ρ : List Sl) : Option (List D) := (f ρ).bind seqD
noncomputable def mOrE (f g : List Sl → Option D) (ρ : List Sl) : Option D := (f ρ).or (g ρ)
section
variable {c : Str → Addr} {X : Cx} {e a b : Expr} {es : List Expr} {pos : Pos}
theorem DE.db {f : List Sl → Option D} (h : DE c X e f) : DB c X e f := PE.imp h fun σ H Q q_ => by
  obtain ⟨Hf0, H0, Hf, ρ, d, st, ef, k⟩ := q_
  exact (⟨Hf0, H0, Hf, ρ, d, st, ef, fun v Hf' H' x r => k v Hf' H' x (r.up x.s)⟩)
theorem DE.dc {f : List Sl → Option D} (h : DE c X e f) : DC c X e (mSeqI f) := PE.imp h fun σ H Q q_ => by
  obtain ⟨Hf0, H0, Hf, ρ, ds, st, ef, k⟩ := q_
  unfold mSeqI at ef
  cases ed : f ρ with
  | none => rw [ed] at ef; cases ef
  | some d =>
    rw [ed] at ef
    refine ⟨Hf0, H0, Hf, ρ, d, st, ed, fun v Hf' H' x r => ?_⟩
    obtain ⟨a, vs, e1, q, rs⟩ := seq_rep ef r
    subst e1
    exact k a vs Hf' H' x (sq_up x.s q) rs
theorem DO.de {f : List Sl → Option (List D)} (h : DO c X e f) : DE c X e (mLst f) := PE.imp h fun σ H Q q_ => by
  obtain ⟨Hf0, H0, Hf, ρ, d, st, ef, k⟩ := q_
  unfold mLst at ef
  cases ed : f ρ with
  | none => rw [ed] at ef; cases ef
  | some ds =>
    rw [ed] at ef
    have ef : D.lst ds = d := Option.some.inj ef
    subst ef
    exact ⟨Hf0, H0, Hf, ρ, ds, st, ed, fun l vs Hf' H' x hn hf hl r => k _ (upd Hf' l (.lst vs)) H' (x.fix hn hf hl) ⟨l, vs, rfl, upd_same, r.up (same_upd hf)⟩⟩
theorem DO.dc {f : List Sl → Option (List D)} (h : DO c X e f) : DC c X e f := PE.imp h fun σ H Q q_ => by
  obtain ⟨Hf0, H0, Hf, ρ, ds, st, ef, k⟩ := q_
  exact (
  ⟨Hf0, H0, Hf, ρ, ds, st, ef, fun l vs Hf' H' x hn hf hl r => k l vs Hf' H' x (.inl (SqL.of hl)) r⟩)
theorem DB.sc {f : List Sl → Option D} (h : DB c X e f) (hs : ∀ ρ d, f ρ = some d → d.scalar = true) : DE c X e f := PE.imp h fun σ H Q q_ => by
  obtain ⟨Hf0, H0, Hf, ρ, d, st, ef, k⟩ := q_
  exact (
  ⟨Hf0, H0, Hf, ρ, d, st, ef, fun v Hf' H' x r => k v Hf' H' x (r.sc (hs ρ d ef))⟩)
theorem DE.orE {f g : List Sl → Option D} (h : DE c X e f) (h' : DE c X e g) : DE c X e (mOrE f g) := fun pins s σ H Q I q_ => by
  obtain ⟨Hf0, H0, Hf, ρ, d, st, ef, k⟩ := q_
  unfold mOrE at ef
  cases ed : f ρ with
  | some d' =>
    rw [ed] at ef
    cases ef
    exact h pins s σ H Q I ⟨Hf0, H0, Hf, ρ, _, st, ed, k⟩
  | none =>
    rw [ed] at ef
    exact h' pins s σ H Q I ⟨Hf0, H0, Hf, ρ, d, st, ef, k⟩


noncomputable def mVar (i : Nat) (ρ : List Sl) : Option D := match ρ[i]? with
  | some (.im d) => some d
  | _ => none
noncomputable def mVarB (i : Nat) (ρ : List Sl) : Option D := match ρ[i]? with
  | some (.im d) => some d
  | some (.own xs) => some (.lst xs)
  | some (.ownd ks xs) => some (.dic ks xs)
  | some (.deep o) => if o.kn then some o.toD else none
  | _ => none
noncomputable def mVarC (i : Nat) (ρ : List Sl) : Option (List D) := match ρ[i]? with
  | some (.im d) => seqD d
  | some (.own xs) => some xs
  | _ => none
theorem mVar_is {i : Nat} {ρ : List Sl} {d : D} (h : mVar i ρ = some d) : ρ[i]? = some (.im d) := by
  unfold mVar at h
  cases e : ρ[i]? with
  | none => rw [e] at h; cases h
  | some s => rw [e] at h; cases s <;> cases h; rfl
theorem de_of_var {i : Nat} (h : PE X e (tVar i)) : DE c X e (mVar i) := PE.imp h fun σ H Q q_ => by
  obtain ⟨Hf0, H0, Hf, ρ, d, st, ef, k⟩ := q_
  obtain ⟨v, e1, r⟩ := st.imm (mVar_is ef)
  exact ⟨v, e1, k v Hf H (Ext.refl st.sub) r⟩
theorem dc_of_var {i : Nat} (h : PE X e (tVar i)) : DC c X e (mVarC i) := PE.imp h fun σ H Q q_ => by
  obtain ⟨Hf0, H0, Hf, ρ, ds, st, ef, k⟩ := q_
  unfold mVarC at ef
  cases es : ρ[i]? with
  | none => rw [es] at ef; cases ef
  | some s =>
    rw [es] at ef
    cases s with
    | im d =>
      obtain ⟨v, e1, r⟩ := st.imm es
      obtain ⟨a, vs, e2, q, rs⟩ := seq_rep ef r
      subst e2
      exact ⟨_, e1, k a vs Hf H (Ext.refl st.sub) (sq_up st.sub q) rs⟩
    | own xs =>
      cases ef
      obtain ⟨l, e1, _, _, vs, q, r⟩ := st.ownAt rfl es
      exact ⟨_, e1, k l vs Hf H (Ext.refl st.sub) (.inl (SqL.of q)) r⟩
    | _ => cases ef
theorem db_of_var {i : Nat} (h : PE X e (tVar i)) : DB c X e (mVarB i) := PE.imp h fun σ H Q q_ => by
  obtain ⟨Hf0, H0, Hf, ρ, d, st, ef, k⟩ := q_
  unfold mVarB at ef
  cases es : ρ[i]? with
  | none => rw [es] at ef; cases ef
  | some s =>
    rw [es] at ef
    cases s with
    | im d =>
      cases ef
      obtain ⟨v, e1, r⟩ := st.imm es
      exact ⟨_, e1, k v Hf H (Ext.refl st.sub) (r.up st.sub)⟩
    | own xs =>
      cases ef
      obtain ⟨l, e1, _, _, vs, q, r⟩ := st.ownAt rfl es
      exact ⟨_, e1, k _ Hf H (Ext.refl st.sub) ⟨l, vs, rfl, q, r.up st.sub⟩⟩
    | ownd ks xs =>
      cases ef
      obtain ⟨l, e1, _, _, vs, q, z, r⟩ := st.ownAt rfl es
      exact ⟨_, e1, k _ Hf H (Ext.refl st.sub) ⟨l, vs, rfl, q, z, r.up st.sub⟩⟩
    | deep o =>
      replace ef : (if o.kn = true then some o.toD else none) = some d := ef
      split at ef
      · rename_i hk
        cases ef
        obtain ⟨v, e1, u, fp, e2, r, _⟩ := st.slot es
        subst e2
        exact ⟨_, e1, k _ Hf H (Ext.refl st.sub) (r.rep st.sub hk)⟩
      · cases ef
    | _ => cases ef
theorem de_of_c {v : V} {d : D} (h : PE X e (tC v)) (r : ∀ G H, Rep G H d v) : DE c X e (fun _ => some d) := PE.imp h fun σ H Q q_ => by
  obtain ⟨Hf0, H0, Hf, ρ, d', st, ef, k⟩ := q_
  cases ef
  exact k v Hf H (Ext.refl st.sub) (r _ _)
theorem de_int {i : Int} {j} : DE c X (.Constant (.int i) j pos) (fun _ => some (.int i)) := de_of_c pe_int fun _ _ => rfl
theorem de_bl {i : Bool} {j} : DE c X (.Constant (.bool i) j pos) (fun _ => some (.bl i)) := de_of_c pe_bl fun _ _ => rfl
theorem de_str {i : Str} {j} : DE c X (.Constant (.str i) j pos) (fun _ => some (.str i)) := de_of_c pe_str fun _ _ => rfl
theorem dv (i : Nat) {x : Str} (hN : X.N[i]? = some x := by rfl) (hv : Vis X.env.scope x := by first | exact Or.inl rfl | exact Or.inr (Or.inl rfl) | exact Or.inr (Or.inr rfl)) (hd : (x == ("__debug__" : Str)) = false := by decide)
    (hcd : (x == ("__classdict__" : Str)) = false := by decide) : DE c X (.Name x pos) (mVar i) := de_of_var (pe_var hN hv hd hcd)
theorem dvC (i : Nat) {x : Str} (hN : X.N[i]? = some x := by rfl) (hv : Vis X.env.scope x := by first | exact Or.inl rfl | exact Or.inr (Or.inl rfl) | exact Or.inr (Or.inr rfl)) (hd : (x == ("__debug__" : Str)) = false := by decide)
    (hcd : (x == ("__classdict__" : Str)) = false := by decide) : DC c X (.Name x pos) (mVarC i) := dc_of_var (pe_var hN hv hd hcd)
theorem dvB (i : Nat) {x : Str} (hN : X.N[i]? = some x := by rfl) (hv : Vis X.env.scope x := by first | exact Or.inl rfl | exact Or.inr (Or.inl rfl) | exact Or.inr (Or.inr rfl)) (hd : (x == ("__debug__" : Str)) = false := by decide)
    (hcd : (x == ("__classdict__" : Str)) = false := by decide) : DB c X (.Name x pos) (mVarB i) := db_of_var (pe_var hN hv hd hcd)


noncomputable def mCons (f : List Sl → Option D) (g : List Sl → Option (List D)) (ρ : List Sl) : Option (List D) := (f ρ).bind fun d => (g ρ).map fun ds => d :: ds
theorem mCons_is {f : List Sl → Option D} {g : List Sl → Option (List D)} {ρ : List Sl} {ds : List D} (h : mCons f g ρ = some ds) : ∃ d r, f ρ = some d ∧ g ρ = some r ∧ ds = d :: r := by
  unfold mCons at h
  cases e1 : f ρ with
  | none => rw [e1] at h; cases h
  | some d =>
    cases e2 : g ρ with
    | none => rw [e1, e2] at h; cases h
    | some r => rw [e1, e2] at h; cases h; exact ⟨d, r, rfl, rfl, rfl⟩
theorem da_nil : DA c X [] (fun _ => some []) := ⟨PA.imp pa_nil fun σ H Q ⟨Hf0, H0, Hf, ρ, ds, st, ef, k⟩ => by cases ef; exact k [] Hf H (Ext.refl st.sub) rfl, fun ρ ds h => by cases h; rfl⟩
theorem da_cons {f : List Sl → Option D} {g : List Sl → Option (List D)} (ha : DE c X e f) (hr : DA c X es g) (hs : starEach (e :: es) X.env = (false, eval e X.env) :: starEach es X.env := by rfl) : DA c X (e :: es) (mCons f g) := by
  refine ⟨PA.imp (pa_cons ha hr.pa hs) fun σ H Q ⟨Hf0, H0, Hf, ρ, ds, st, ef, k⟩ => ?_, fun ρ ds h => ?_⟩
  · obtain ⟨d, r, e1, e2, rfl⟩ := mCons_is ef
    exact ⟨Hf0, H0, Hf, ρ, d, st, e1, fun v Hf1 H1 x1 r1 => ⟨Hf0, H0, Hf1, ρ, r, st.step x1, e2, fun vs Hf2 H2 x2 r2 => k _ Hf2 H2 (x1.trans x2) (.cons (r1.up x2.f) r2)⟩⟩
  · obtain ⟨d, r, e1, e2, rfl⟩ := mCons_is h
    simp [hr.len ρ r e2]
theorem dab_nil : DAB c X [] (fun _ => some []) := ⟨PA.imp pa_nil fun σ H Q ⟨Hf0, H0, Hf, ρ, ds, st, ef, k⟩ => by cases ef; exact k [] Hf H (Ext.refl st.sub) rfl, fun ρ ds h => by cases h; rfl⟩
theorem dab_cons {f : List Sl → Option D} {g : List Sl → Option (List D)} (ha : DB c X e f) (hr : DAB c X es g) (hs : starEach (e :: es) X.env = (false, eval e X.env) :: starEach es X.env := by rfl) : DAB c X (e :: es) (mCons f g) := by
  refine ⟨PA.imp (pa_cons ha hr.pa hs) fun σ H Q ⟨Hf0, H0, Hf, ρ, ds, st, ef, k⟩ => ?_, fun ρ ds h => ?_⟩
  · obtain ⟨d, r, e1, e2, rfl⟩ := mCons_is ef
    exact ⟨Hf0, H0, Hf, ρ, d, st, e1, fun v Hf1 H1 x1 r1 => ⟨Hf0, H0, Hf1, ρ, r, st.step x1, e2, fun vs Hf2 H2 x2 r2 => k _ Hf2 H2 (x1.trans x2) (.cons (r1.up x2.h) r2)⟩⟩
  · obtain ⟨d, r, e1, e2, rfl⟩ := mCons_is h
    simp [hr.len ρ r e2]
theorem do_lst {f : List Sl → Option (List D)} (h : DA c X es f) (hz : es.length ≤ 1000 := by exact Nat.le_of_ble_eq_true rfl) : DO c X (.List es pos) f := PE.imp (pe_lst h.pa) fun σ H Q ⟨Hf0, H0, Hf, ρ, ds, st, ef, k⟩ =>
  ⟨Hf0, H0, Hf, ρ, ds, st, ef, fun vs Hf' H' x r => ⟨by
    rw [← r.length, h.len ρ ds ef]
    exact Nat.le_of_lt (small1000 hz), fun p hp => k p vs Hf' (upd H' p (.lst vs)) (x.trans (Ext.tmp x.s hp)) (x.h.free hp) (x.s.free hp) upd_same r⟩⟩
theorem de_tup {f : List Sl → Option (List D)} {k' : Nat} (h : DA c X es f) (hz : es.length ≤ 1000 := by exact Nat.le_of_ble_eq_true rfl) : DE c X (.Tuple es k' pos) (mTup f) := PE.imp (pe_tup h.pa) fun σ H Q q_ => by
  obtain ⟨Hf0, H0, Hf, ρ, d, st, ef, k⟩ := q_
  unfold mTup at ef
  cases ed : f ρ with
  | none => rw [ed] at ef; cases ef
  | some ds =>
    rw [ed] at ef
    have ef : D.tup ds = d := Option.some.inj ef
    subst ef
    exact ⟨Hf0, H0, Hf, ρ, ds, st, ed, fun vs Hf' H' x r => ⟨by
      rw [← r.length, h.len ρ ds ed]
      exact Nat.le_of_lt (small1000 hz), fun p hp => k _ (upd Hf' p (.tup vs)) (upd H' p (.tup vs)) (x.trans (Ext.new x.s hp)) ⟨p, vs, rfl, upd_same, r.up (same_upd (x.s.free hp))⟩⟩⟩


noncomputable def rD (G : Gc) (m : D → D → Option D) : R2 := fun vx vy H Q => ∃ Hf x y d, Same Hf H ∧ Rep G Hf x vx ∧ Rep G Hf y vy ∧ m x y = some d ∧ ∀ v Hf' H', Ext Hf H Hf' H' → Rep G Hf' d v → Q v H'
noncomputable abbrev OpD (c : Str → Addr) (X : Cx) (f : Value → Value → Sem Value) (m : D → D → Option D) : Prop := OpR X f (rD (Gx c X) m)
noncomputable def m2 (m : D → D → Option D) (f g : List Sl → Option D) (ρ : List Sl) : Option D := (f ρ).bind fun x => (g ρ).bind fun y => m x y
theorem m2_is {m : D → D → Option D} {f g : List Sl → Option D} {ρ : List Sl} {d : D} (h : m2 m f g ρ = some d) : ∃ x y, f ρ = some x ∧ g ρ = some y ∧ m x y = some d := by
  unfold m2 at h
  cases e1 : f ρ with
  | none => rw [e1] at h; cases h
  | some x =>
    cases e2 : g ρ with
    | none => rw [e1, e2] at h; cases h
    | some y => rw [e1, e2] at h; exact ⟨x, y, rfl, rfl, h⟩
theorem two {m : D → D → Option D} {f g : List Sl → Option D} {r : R2} {σ : St} {H : Hp} {Q : VK} (hr : ∀ x y H Q, rD (Gx c X) m x y H Q → r x y H Q) (h : tD (Gx c X) (m2 m f g) σ H Q) : tOp r (tD (Gx c X) f) (tD (Gx c X) g) σ H Q := by
  obtain ⟨Hf0, H0, Hf, ρ, d, st, ef, k⟩ := h
  obtain ⟨x, y, e1, e2, e3⟩ := m2_is ef
  exact ⟨Hf0, H0, Hf, ρ, x, st, e1, fun v Hf1 H1 x1 r1 => ⟨Hf0, H0, Hf1, ρ, y, st.step x1, e2, fun u Hf2 H2 x2 r2 => hr _ _ _ _ ⟨Hf2, x, y, d, x2.s, r1.up x2.f, r2, e3, fun w Hf3 H3 x3 r3 => k w Hf3 H3 ((x1.trans x2).trans x3) r3⟩⟩⟩

theorem twoB {m : D → D → Option D} {f g : List Sl → Option D} {r : R2} {σ : St} {H : Hp} {Q : VK} (hr : ∀ x y H Q, rD (Gx c X) m x y H Q → r x y H Q) (hs : ∀ x y d, m x y = some d → d.scalar = true) (h : tD (Gx c X) (m2 m f g) σ H Q) : tOp r (tDB (Gx c X) f) (tDB (Gx c X) g) σ H Q := by
  obtain ⟨Hf0, H0, Hf, ρ, d, st, ef, k⟩ := h
  obtain ⟨x, y, e1, e2, e3⟩ := m2_is ef
  exact ⟨Hf0, H0, Hf, ρ, x, st, e1, fun v Hf1 H1 x1 r1 => ⟨Hf0, H0, Hf1, ρ, y, st.step x1, e2, fun u Hf2 H2 x2 r2 => hr _ _ _ _ ⟨H2, x, y, d, Same.refl _, r1.up x2.h, r2, e3, fun w Hf3 H3 x3 r3 =>
    k w Hf2 H3 ((x1.trans x2).trans (Ext.grow x2.s x3.h)) (r3.sc (hs _ _ _ e3))⟩⟩⟩
theorem de_op {op : Operator} {m : D → D → Option D} {f g : List Sl → Option D} (ho : OpD c X (binaryOp op) m) (ha : DE c X a f) (hb : DE c X b g) : DE c X (.BinOp a op b pos) (m2 m f g) :=
  PE.imp (pe_op ho ha hb) fun _ _ _ h => two (fun _ _ _ _ h => h) h
theorem de_cmp {op : CmpOp} {m : D → D → Option D} {f g : List Sl → Option D} (ho : OpD c X (compareOp op) m) (hs : ∀ x y d, m x y = some d → d.scalar = true) (ha : DB c X a f) (hb : DB c X b g) (hm : behindInMarks op b = false := by first | exact nomark _ | rfl) :
    DE c X (.Compare a [op] [b] pos) (m2 m f g) := PE.imp (pe_cmpR ho ha hb hm) fun _ _ _ h => twoB (fun _ _ _ _ h => h) hs h
noncomputable def mB (f : List Sl → Option D) (ρ : List Sl) : Option Bool := (f ρ).bind fun d => match d with
  | .bl b => some b
  | _ => none
theorem mB_is {f : List Sl → Option D} {ρ : List Sl} {b : Bool} (h : mB f ρ = some b) : f ρ = some (.bl b) := by
  unfold mB at h
  cases e : f ρ with
  | none => rw [e] at h; cases h
  | some d => rw [e] at h; cases d <;> cases h; rfl
theorem dt_cmp {op : CmpOp} {m : D → D → Option D} {f g : List Sl → Option D} (ho : OpD c X (compareOp op) m) (hs : ∀ x y d, m x y = some d → d.scalar = true) (ha : DB c X a f) (hb : DB c X b g) (hm : behindInMarks op b = false := by first | exact nomark _ | rfl) :
    DT c X (.Compare a [op] [b] pos) (mB (m2 m f g)) := PT.imp (pt_cmpR ho ha hb hm) fun σ H Q ⟨Hf0, H0, Hf, ρ, b, st, ef, k⟩ =>
  twoB (fun _ _ _ _ h => h) hs ⟨Hf0, H0, Hf, ρ, .bl b, st, mB_is ef, fun v Hf' H' x r => ⟨b, r, k Hf' H' x⟩⟩


noncomputable def truD : D → Option Bool
  | .non => some false
  | .bl b => some b
  | .int i => some (i != 0)
  | .str x => if x.length ≤ 16777216 then some ((x.length : Int) != 0) else none
  | .lst xs => some (!xs.isEmpty)
  | .tup xs => some (!xs.isEmpty)
  | .kl xs => some (!xs.isEmpty)
  | .kt xs => some (!xs.isEmpty)
  | .dic ks _ => some (!ks.isEmpty)
  | _ => none
theorem Reps.empty {G : Gc} {H : Hp} {ds : List D} {vs : List V} (r : Reps G H ds vs) : ds.isEmpty = vs.isEmpty := by
  cases ds with
  | nil => cases (show vs = [] from r); rfl
  | cons d ds => obtain ⟨v, r', e, _⟩ := r; subst e; rfl
theorem zip_empty {α β : Type} {ks : List α} {vs : List β} (h : ks.length = vs.length) : (ks.zip vs).isEmpty = ks.isEmpty := by
  cases ks <;> cases vs <;> first | rfl | cases h
theorem tru_rep {G : Gc} {H : Hp} {d : D} {v : V} {b : Bool} (e : truD d = some b) (r : Rep G H d v) : TruV G.K v H b := by
  cases d with
  | non => cases e; cases r; rfl
  | bl x => cases e; cases r; rfl
  | int i => cases e; cases r; rfl
  | str x =>
    cases r
    replace e : (if x.length ≤ 16777216 then some ((x.length : Int) != 0) else none) = some b := e
    split at e
    · rename_i hl
      cases e
      exact ⟨by rw [sizeLine_eq]; exact hl, rfl⟩
    · cases e
  | lst xs => cases e; obtain ⟨a, vs, e1, q, r⟩ := r; subst e1; exact .inl ⟨vs, SqL.of q, by rw [r.empty]⟩
  | tup xs => cases e; obtain ⟨a, vs, e1, q, r⟩ := r; subst e1; exact .inr (.inl ⟨vs, SqT.of q, by rw [r.empty]⟩)
  | kl xs => cases e; obtain ⟨a, vs, e1, q, r⟩ := r; subst e1; exact .inl ⟨vs, q, by rw [r.empty]⟩
  | kt xs => cases e; obtain ⟨a, vs, e1, q, r⟩ := r; subst e1; exact .inr (.inl ⟨vs, q, by rw [r.empty]⟩)
  | dic ks xs => cases e; obtain ⟨a, vs, e1, q, l, r⟩ := r; subst e1; exact .inr (.inr ⟨_, q, by rw [zip_empty l]⟩)
  | ins _ _ _ => cases e
noncomputable def mTru (f : List Sl → Option D) (ρ : List Sl) : Option Bool := (f ρ).bind truD
theorem dt_val {f : List Sl → Option D} (ha : DB c X a f) (he : ∀ whole, isTrue a X.env whole = (do let v ← whole; standAt a.pos; holding [v] (truthy v)) := by intro _; rfl) : DT c X a (mTru f) :=
  PT.imp (pt_truth ha he) fun σ H Q q_ => by
    obtain ⟨Hf0, H0, Hf, ρ, b, st, ef, k⟩ := q_
    unfold mTru at ef
    cases ed : f ρ with
    | none => rw [ed] at ef; cases ef
    | some d =>
      rw [ed] at ef
      exact ⟨Hf0, H0, Hf, ρ, d, st, ed, fun v Hf' H' x r => ⟨b, tru_rep ef r, k Hf' H' x⟩⟩
noncomputable def mAnd (f g : List Sl → Option Bool) (ρ : List Sl) : Option Bool := (f ρ).bind fun b => if b then g ρ else some false
noncomputable def mOr (f g : List Sl → Option Bool) (ρ : List Sl) : Option Bool := (f ρ).bind fun b => if b then some true else g ρ
noncomputable def mNot (f : List Sl → Option Bool) (ρ : List Sl) : Option Bool := (f ρ).map not
theorem DW.dt {f : List Sl → Option Bool} (h : DW c X e f) : DT c X e f := PW.pt h
theorem dw_oneO {f : List Sl → Option Bool} (h : DT c X a f) : DW c X (.BoolOp .Or [a] pos) f := pw_or1 h
theorem dw_or {f g : List Sl → Option Bool} {rest : List Expr} (h : DT c X a f) (h' : DW c X (.BoolOp .Or (b :: rest) pos) g) : DW c X (.BoolOp .Or (a :: b :: rest) pos) (mOr f g) := PW.imp (pw_or h h') fun σ H Q q_ => by
  obtain ⟨Hf0, H0, Hf, ρ, b, st, ef, k⟩ := q_
  unfold mOr at ef
  cases e1 : f ρ with
  | none => rw [e1] at ef; cases ef
  | some x =>
    rw [e1] at ef
    refine ⟨Hf0, H0, Hf, ρ, x, st, e1, fun Hf1 H1 x1 => ?_⟩
    cases x with
    | false => rw [if_neg Bool.false_ne_true]; exact ⟨Hf0, H0, Hf1, ρ, b, st.step x1, ef, fun Hf2 H2 x2 => k Hf2 H2 (x1.trans x2)⟩
    | true => cases ef; rw [if_pos rfl]; exact k Hf1 H1 x1
theorem dt_not {f : List Sl → Option Bool} (h : DT c X a f) : DT c X (.UnaryOp .Not a pos) (mNot f) := PT.imp (pt_not h) fun σ H Q q_ => by
  obtain ⟨Hf0, H0, Hf, ρ, b, st, ef, k⟩ := q_
  unfold mNot at ef
  cases e1 : f ρ with
  | none => rw [e1] at ef; cases ef
  | some x =>
    rw [e1] at ef
    cases ef
    exact ⟨Hf0, H0, Hf, ρ, x, st, e1, fun Hf1 H1 x1 => k Hf1 H1 x1⟩

noncomputable def vAnd (f g : List Sl → Option D) (ρ : List Sl) : Option D := (mB f ρ).bind fun b => if b then g ρ else some (.bl false)
noncomputable def vOr (f g : List Sl → Option D) (ρ : List Sl) : Option D := (mB f ρ).bind fun b => if b then some (.bl true) else g ρ
noncomputable def vNot (f : List Sl → Option D) (ρ : List Sl) : Option D := (mB f ρ).map fun b => .bl (!b)
theorem de_one {f : List Sl → Option D} {op} (h : DE c X a f) : DE c X (.BoolOp op [a] pos) f := pe_one h
theorem de_and {f g : List Sl → Option D} {rest : List Expr} (h : DE c X a f) (h' : DE c X (.BoolOp .And (b :: rest) pos) g) : DE c X (.BoolOp .And (a :: b :: rest) pos) (vAnd f g) := PE.imp (pe_and h h') fun σ H Q q_ => by
  obtain ⟨Hf0, H0, Hf, ρ, d, st, ef, k⟩ := q_
  unfold vAnd at ef
  cases e1 : mB f ρ with
  | none => rw [e1] at ef; cases ef
  | some x =>
    rw [e1] at ef
    refine ⟨Hf0, H0, Hf, ρ, .bl x, st, mB_is e1, fun v Hf1 H1 x1 r1 => ⟨x, r1, ?_⟩⟩
    cases x with
    | true => rw [if_pos rfl]; exact ⟨Hf0, H0, Hf1, ρ, d, st.step x1, ef, fun v Hf2 H2 x2 r2 => k v Hf2 H2 (x1.trans x2) r2⟩
    | false => cases ef; rw [if_neg Bool.false_ne_true]; exact k _ Hf1 H1 x1 rfl
theorem de_not {f : List Sl → Option D} (h : DE c X a f) : DE c X (.UnaryOp .Not a pos) (vNot f) := PE.imp (pe_not h) fun σ H Q q_ => by
  obtain ⟨Hf0, H0, Hf, ρ, d, st, ef, k⟩ := q_
  unfold vNot at ef
  cases e1 : mB f ρ with
  | none => rw [e1] at ef; cases ef
  | some x =>
    rw [e1] at ef
    cases ef
    exact ⟨Hf0, H0, Hf, ρ, .bl x, st, mB_is e1, fun v Hf1 H1 x1 r1 => ⟨x, r1, k _ Hf1 H1 x1 rfl⟩⟩
end
end L2
namespace L2
open PySem PySem.Spec PyProof.Rows
noncomputable instance {i j : Int} : Decidable (CDiv i j) := by unfold CDiv; infer_instance
noncomputable instance {i j : Int} : Decidable (CPow i j) := by unfold CPow; infer_instance
noncomputable instance {i j : Int} : Decidable (CMul i j) := by unfold CMul; infer_instance
noncomputable def dI (C : Int → Int → Prop) [∀ i j, Decidable (C i j)] (g : Int → Int → D) : D → D → Option D
  | .int i, .int j => if C i j then some (g i j) else none
  | _, _ => none
noncomputable def dI0 (g : Int → Int → D) : D → D → Option D
  | .int i, .int j => some (g i j)
  | _, _ => none
noncomputable def dAdd : D → D → Option D
  | .int i, .int j => some (.int (i + j))
  | .str a, .str b => if a.length + b.length ≤ 16777216 then some (.str (a ++ b)) else none
  | .lst a, .lst b => if a.length + b.length ≤ 16777216 then some (.lst (a ++ b)) else none
  | _, _ => none
noncomputable abbrev dSub : D → D → Option D := dI0 fun i j => .int (i - j)
noncomputable abbrev dMul : D → D → Option D := dI CMul fun i j => .int (i * j)
noncomputable abbrev dDiv : D → D → Option D := dI CDiv fun i j => .int (i / j)
noncomputable abbrev dMod : D → D → Option D := dI (fun _ j => 0 < j) fun i j => .int (i % j)
noncomputable abbrev dPow : D → D → Option D := dI CPow fun i j => .int (i ^ j.toNat)
noncomputable abbrev dShr : D → D → Option D := dI (fun _ j => 0 ≤ j) fun i j => .int (i / 2 ^ j.toNat)
noncomputable abbrev dAndB : D → D → Option D := dI0 fun i j => .int (Builtin.bitAnd i j)
noncomputable abbrev dLt : D → D → Option D := dI0 fun i j => .bl (decide (i < j))
noncomputable abbrev dLe : D → D → Option D := dI0 fun i j => .bl (decide (i ≤ j))
noncomputable abbrev dGt : D → D → Option D := dI0 fun i j => .bl (decide (j < i))
noncomputable abbrev dGe : D → D → Option D := dI0 fun i j => .bl (decide (j ≤ i))
section
variable {c : Str → Addr} {X : Cx}
theorem od_int {f : Value → Value → Sem Value} {C : Int → Int → Prop} [∀ i j, Decidable (C i j)] {g : Int → Int → V} {gd : Int → Int → D} (h : OpR X f (rI C g)) (hg : ∀ G H i j, Rep G H (gd i j) (g i j)) : OpD c X f (dI C gd) := by
  rintro pins s σ H vx vy v u Q I rx ry ⟨Hf, x, y, d, s0, r1, r2, e, k⟩
  unfold dI at e
  split at e
  · split at e
    · rename_i hc
      cases e
      exact h pins s σ H vx vy v u Q I rx ry ⟨_, _, r1, r2, hc, k _ Hf H (Ext.refl s0) (hg _ _ _ _)⟩
    · cases e
  · cases e
theorem od_int0 {f : Value → Value → Sem Value} {g : Int → Int → V} {gd : Int → Int → D} (h : OpR X f (rI0 g)) (hg : ∀ G H i j, Rep G H (gd i j) (g i j)) : OpD c X f (dI0 gd) := by
  rintro pins s σ H vx vy v u Q I rx ry ⟨Hf, x, y, d, s0, r1, r2, e, k⟩
  unfold dI0 at e
  split at e
  · cases e
    exact h pins s σ H vx vy v u Q I rx ry ⟨_, _, r1, r2, k _ Hf H (Ext.refl s0) (hg _ _ _ _)⟩
  · cases e
theorem od_add : OpD c X (binaryOp .Add) dAdd := by
  rintro pins s σ H vx vy v u Q I rx ry ⟨Hf, x, y, d, s0, r1, r2, e, k⟩
  unfold dAdd at e
  split at e
  · cases e
    exact op_add pins s σ H vx vy v u Q I rx ry ⟨_, _, r1, r2, k _ Hf H (Ext.refl s0) rfl⟩
  · split at e
    · rename_i hl
      cases e
      exact op_add_str pins s σ H vx vy v u Q I rx ry ⟨_, _, r1, r2, by rw [sizeLine_eq]; exact hl, k _ Hf H (Ext.refl s0) rfl⟩
    · cases e
  · split at e
    · rename_i hl
      cases e
      obtain ⟨a, vs, e1, q1, r1⟩ := r1
      obtain ⟨b, us, e2, q2, r2⟩ := r2
      exact op_cat pins s σ H vx vy v u Q I rx ry ⟨a, b, vs, us, e1, e2, s0 _ _ q1, s0 _ _ q2, by rw [sizeLine_eq, ← r1.length, ← r2.length]; exact hl,
        fun p hp => k _ (upd Hf p (.lst (vs ++ us))) (upd H p (.lst (vs ++ us))) (Ext.new s0 hp) ⟨p, _, rfl, upd_same, (r1.append r2).up (same_upd (s0.free hp))⟩⟩
    · cases e
  · cases e
theorem od_sub : OpD c X (binaryOp .Sub) dSub := od_int0 op_sub fun _ _ _ _ => rfl
theorem od_mul : OpD c X (binaryOp .Mult) dMul := od_int op_mul fun _ _ _ _ => rfl
theorem od_div : OpD c X (binaryOp .FloorDiv) dDiv := od_int op_fdiv fun _ _ _ _ => rfl
theorem od_mod : OpD c X (binaryOp .Mod) dMod := od_int op_mod fun _ _ _ _ => rfl
theorem od_pow : OpD c X (binaryOp .Pow) dPow := od_int op_pow fun _ _ _ _ => rfl
theorem od_shr : OpD c X (binaryOp .RShift) dShr := od_int op_shr fun _ _ _ _ => rfl
theorem od_and : OpD c X (binaryOp .BitAnd) dAndB := od_int0 op_and fun _ _ _ _ => rfl
theorem od_lt : OpD c X (compareOp .Lt) dLt := od_int0 op_lt fun _ _ _ _ => rfl
theorem od_le : OpD c X (compareOp .LtE) dLe := od_int0 op_le fun _ _ _ _ => rfl
theorem od_ge : OpD c X (compareOp .GtE) dGe := od_int0 op_ge fun _ _ _ _ => rfl
theorem sc_I0 {g : Int → Int → D} (hg : ∀ i j, (g i j).scalar = true) : ∀ x y d, dI0 g x y = some d → d.scalar = true := by
  intro x y d e
  unfold dI0 at e
  split at e
  · cases e; exact hg _ _
  · cases e
theorem sc_lt : ∀ x y d, dLt x y = some d → d.scalar = true := sc_I0 fun _ _ => rfl
theorem sc_le : ∀ x y d, dLe x y = some d → d.scalar = true := sc_I0 fun _ _ => rfl
theorem sc_ge : ∀ x y d, dGe x y = some d → d.scalar = true := sc_I0 fun _ _ => rfl

noncomputable def dNeg : D → Option D
  | .int i => some (.int (-i))
  | _ => none
noncomputable def m1 (m : D → Option D) (f : List Sl → Option D) (ρ : List Sl) : Option D := (f ρ).bind m
theorem de_neg {a : Expr} {f : List Sl → Option D} {pos : Pos} (ha : DE c X a f) : DE c X (.UnaryOp .USub a pos) (m1 dNeg f) := PE.imp (pe_un un_neg ha) fun σ H Q q_ => by
  obtain ⟨Hf0, H0, Hf, ρ, d, st, ef, k⟩ := q_
  unfold m1 at ef
  cases e1 : f ρ with
  | none => rw [e1] at ef; cases ef
  | some y =>
    rw [e1] at ef
    cases y with
    | int i => cases ef; exact ⟨Hf0, H0, Hf, ρ, .int i, st, e1, fun v Hf' H' x r => ⟨i, r, k _ Hf' H' x rfl⟩⟩
    | _ => cases ef


noncomputable def isNon : D → Bool
  | .non => true
  | _ => false
theorem isNon_rep {G : Gc} {H : Hp} {x : D} {v : V} (r : Rep G H x v) : decide (v = .non) = isNon x := by
  cases x with
  | non => cases r; rfl
  | bl b => cases r; rfl
  | int i => cases r; rfl
  | str x => cases r; rfl
  | lst _ => obtain ⟨a, _, e, _⟩ := r; subst e; rfl
  | tup _ => obtain ⟨a, _, e, _⟩ := r; subst e; rfl
  | kl _ => obtain ⟨a, _, e, _⟩ := r; subst e; rfl
  | kt _ => obtain ⟨a, _, e, _⟩ := r; subst e; rfl
  | dic _ _ => obtain ⟨a, _, e, _⟩ := r; subst e; rfl
  | ins _ _ _ => obtain ⟨a, _, _, e, _⟩ := r; subst e; rfl
noncomputable def isD (x y : D) : Option Bool := match y with
  | .non => some (isNon x)
  | .bl b => match x with
    | .non => some false
    | .bl a => some (a == b)
    | _ => none
  | _ => none
noncomputable def dIs (x y : D) : Option D := (isD x y).map .bl
theorem od_is : OpD c X (compareOp .Is) dIs := by
  rintro pins s σ H vx vy v u Q I rx ry ⟨Hf, x, y, d, s0, r1, r2, e, k⟩
  unfold dIs isD at e
  cases y with
  | non =>
    cases e
    exact op_isN pins s σ H vx vy v u Q I rx ry ⟨r2, by rw [isNon_rep r1]; exact k _ Hf H (Ext.refl s0) rfl⟩
  | bl b =>
    cases x with
    | non => cases e; cases r1; exact op_isB pins s σ H _ vy v u Q I rx ry ⟨b, r2, .inl rfl, k _ Hf H (Ext.refl s0) rfl⟩
    | bl a => cases e; cases r1; exact op_isB pins s σ H _ vy v u Q I rx ry ⟨b, r2, .inr ⟨a, rfl⟩, by rw [dec_bl]; exact k _ Hf H (Ext.refl s0) rfl⟩
    | _ => cases e
  | _ => cases e
theorem sc_map {x : Option Bool} {g : Bool → Bool} : ∀ d, x.map (fun b => D.bl (g b)) = some d → d.scalar = true := by
  intro d e
  cases x with
  | none => cases e
  | some b => cases e; rfl
theorem sc_is : ∀ x y d, dIs x y = some d → d.scalar = true := fun _ _ d e => sc_map (g := id) d e
noncomputable def eqF : D → D → Bool
  | .non, .non => true
  | .bl a, .bl b => a == b
  | .int a, .int b => a == b
  | .str a, .str b => a == b
  | _, _ => false
noncomputable def deqL (f : D → D → Option Bool) : List D → List D → Option Bool
  | [], [] => some true
  | x :: xs, y :: ys => (f x y).bind fun b => (deqL f xs ys).map fun r => b && r
  | _, _ => some false
noncomputable def mixBI : D → D → Bool
  | .bl _, .int _ => true
  | .int _, .bl _ => true
  | _, _ => false
noncomputable def deqB (f : D → D → Option Bool) : D → D → Option Bool
  | .lst xs, .lst ys => if xs.length = ys.length then deqL f xs ys else some false
  | .tup xs, .tup ys => if xs.length = ys.length then deqL f xs ys else none
  | x, y => if x.scalar && y.scalar && !mixBI x y then some (eqF x y) else none
noncomputable def deq : Nat → D → D → Option Bool
  | 0, _, _ => none
  | n + 1, x, y => deqB (deq n) x y
noncomputable def dEq (x y : D) : Option D := (deq 20 x y).map .bl
noncomputable def dNe (x y : D) : Option D := (deq 20 x y).map fun b => .bl (!b)
theorem sc_eq : ∀ x y d, dEq x y = some d → d.scalar = true := fun _ _ d e => sc_map (g := id) d e
theorem sc_ne : ∀ x y d, dNe x y = some d → d.scalar = true := fun _ _ d e => sc_map (g := not) d e
theorem deqL_cons {f : D → D → Option Bool} {x y : D} {xs ys : List D} {b : Bool} (h : deqL f (x :: xs) (y :: ys) = some b) : ∃ b1 b2, f x y = some b1 ∧ deqL f xs ys = some b2 ∧ b = (b1 && b2) := by
  unfold deqL at h
  cases e1 : f x y with
  | none => rw [e1] at h; cases h
  | some b1 =>
    cases e2 : deqL f xs ys with
    | none => rw [e1, e2] at h; cases h
    | some b2 => rw [e1, e2] at h; cases h; exact ⟨b1, b2, rfl, rfl, rfl⟩

theorem deqL_at {f : D → D → Option Bool} : ∀ {xs ys : List D} {b : Bool}, xs.length = ys.length → deqL f xs ys = some b → ∃ e : Nat → Bool, (∀ j x y, xs[j]? = some x → ys[j]? = some y → f x y = some (e j)) ∧ (List.range xs.length).all e = b
  | [], [], b, _, h => by cases h; exact ⟨fun _ => true, fun j x y e => by simp at e, rfl⟩
  | x :: xs, y :: ys, b, hl, h => by
    obtain ⟨b1, b2, h1, h2, rfl⟩ := deqL_cons h
    obtain ⟨e, he, ha⟩ := deqL_at (by simpa using hl) h2
    refine ⟨fun j => match j with | 0 => b1 | j + 1 => e j, fun j x' y' ex ey => ?_, ?_⟩
    · cases j with
      | zero => simp at ex ey; subst ex ey; exact h1
      | succ j => exact he j x' y' (by simpa using ex) (by simpa using ey)
    · rw [List.length_cons, List.range_succ_eq_map, List.all_cons, List.all_map, ← ha]
      rfl
  | [], _ :: _, _, hl, _ => by cases hl
  | _ :: _, [], _, hl, _ => by cases hl
theorem eqF_rep {G : Gc} {H : Hp} {x y : D} {v u : V} (hs : (x.scalar && y.scalar && !mixBI x y) = true) (r1 : Rep G H x v) (r2 : Rep G H y u) : flatV v = true ∧ flatV u = true ∧ eqV v u = eqF x y ∧ scal v u = true ∧ decide (v = u) = eqF x y := by
  cases x <;> first
    | (cases hs; done)
    | (cases y <;> first
      | (cases hs; done)
      | (cases r1; cases r2; refine ⟨rfl, rfl, rfl, rfl, ?_⟩; first | exact dec_bl | exact dec_int | exact dec_str | rfl))
theorem deq_scal {n : Nat} {x y : D} {b : Bool} (hs : ¬ (∃ xs ys, x = .lst xs ∧ y = .lst ys) ∧ ¬ (∃ xs ys, x = .tup xs ∧ y = .tup ys)) (h : deq (n + 1) x y = some b) : (x.scalar && y.scalar && !mixBI x y) = true ∧ b = eqF x y := by
  replace h : deqB (deq n) x y = some b := h
  unfold deqB at h
  split at h
  · exact absurd ⟨_, _, rfl, rfl⟩ hs.1
  · exact absurd ⟨_, _, rfl, rfl⟩ hs.2
  · split at h
    · rename_i hc
      cases h
      exact ⟨hc, rfl⟩
    · cases h
theorem deq_same {G : Gc} {H : Hp} : ∀ (n : Nat) {x y : D} {b : Bool} {v : V}, deq n x y = some b → Rep G H x v → Rep G H y v → b = true := by
  intro n
  induction n with
  | zero => intro x y b v h; cases h
  | succ n ih =>
    have all : ∀ (xs ys : List D) (vs : List V) (b : Bool), Reps G H xs vs → Reps G H ys vs → deqL (deq n) xs ys = some b → b = true := by
      intro xs
      induction xs with
      | nil =>
        intro ys vs b r1 r2 h
        cases (show vs = [] from r1)
        have : ys = [] := List.length_eq_zero_iff.mp r2.length
        subst this
        cases h; rfl
      | cons x xs ihx =>
        intro ys vs b r1 r2 h
        obtain ⟨v, r, e, h1, h2⟩ := r1
        subst e
        cases ys with
        | nil => cases (show v :: r = [] from r2)
        | cons y ys =>
          obtain ⟨v', r', e, h1', h2'⟩ := r2
          cases e
          obtain ⟨b1, b2, e1, e2, rfl⟩ := deqL_cons h
          rw [ih e1 h1 h1', ihx ys _ b2 h2 h2' e2]
          rfl
    intro x y b v h r1 r2
    by_cases hl : ∃ xs ys, x = .lst xs ∧ y = .lst ys
    · obtain ⟨xs, ys, rfl, rfl⟩ := hl
      obtain ⟨a, vs, e, q, r1⟩ := r1
      obtain ⟨a', vs', e', q', r2⟩ := r2
      subst e; cases e'
      rw [q] at q'; cases q'
      have hlen : xs.length = ys.length := r1.length.trans r2.length.symm
      replace h : (if xs.length = ys.length then deqL (deq n) xs ys else some false) = some b := h
      rw [if_pos hlen] at h
      exact all xs ys vs b r1 r2 h
    · by_cases ht : ∃ xs ys, x = .tup xs ∧ y = .tup ys
      · obtain ⟨xs, ys, rfl, rfl⟩ := ht
        obtain ⟨a, vs, e, q, r1⟩ := r1
        obtain ⟨a', vs', e', q', r2⟩ := r2
        subst e; cases e'
        rw [q] at q'; cases q'
        have hlen : xs.length = ys.length := r1.length.trans r2.length.symm
        replace h : (if xs.length = ys.length then deqL (deq n) xs ys else none) = some b := h
        rw [if_pos hlen] at h
        exact all xs ys vs b r1 r2 h
      · obtain ⟨hs, rfl⟩ := deq_scal ⟨hl, ht⟩ h
        obtain ⟨_, _, _, _, e⟩ := eqF_rep hs r1 r2
        rw [← e]
        exact decide_eq_true rfl
section
variable {pins : List (Addr × Obj)} {σ : St} {H : Hp} {s : Shared}
theorem items_by {G : Gc} {xs ys : List D} {vs us : List V} {its its2 : List Value} {n : Nat} {A : Around} {e : Nat → Bool} (r1 : Reps G H xs vs) (r2 : Reps G H ys us) (r : Vals vs its) (r' : Vals us its2)
    (he : ∀ j x y, xs[j]? = some x → ys[j]? = some y → deq n x y = some (e j))
    (ih : ∀ {x y : D} {b : Bool} {v u : V} {w w' : Value}, deq n x y = some b → Rep G H x v → Rep G H y u → RelV v w → RelV u w' → SeqAt.EqAt A s w w' b) :
    ∀ j (h1 : j < its.toArray.size) (h2 : j < its2.toArray.size), SeqAt.EqAt A s its.toArray[j] its2.toArray[j] (e j) := fun j h1 h2 => by
  have h1' : j < its.length := by simpa using h1
  have h2' : j < its2.length := by simpa using h2
  obtain ⟨v, ev, rv⟩ := r.at' (i := j) (u := its[j]) (by simp [h1'])
  obtain ⟨u, eu, ru⟩ := r'.at' (i := j) (u := its2[j]) (by simp [h2'])
  obtain ⟨x, ex, rx⟩ := r1.get' ev
  obtain ⟨y, ey, ry⟩ := r2.get' eu
  exact ih (he j x y ex ey) rx ry rv ru
theorem deq_at (I : Inv X pins σ H s) : ∀ (n : Nat) {A : Around} {x y : D} {b : Bool} {v u : V} {w w' : Value}, A.units + n < cLine → deq n x y = some b → Rep (Gx c X) H x v → Rep (Gx c X) H y u → RelV v w → RelV u w' → SeqAt.EqAt A s w w' b := by
  intro n
  induction n with
  | zero => intro A x y b v u w w' _ h; cases h
  | succ n ih =>
    intro A x y b v u w w' hu h r1 r2 rv ru
    have hin : ∀ {x y : D} {b : Bool} {v u : V} {w w' : Value}, deq n x y = some b → Rep (Gx c X) H x v → Rep (Gx c X) H y u → RelV v w → RelV u w' → SeqAt.EqAt A.in1 s w w' b := fun h a b c d => ih (by rw [Around.in1_units]; omega) h a b c d
    by_cases hl : ∃ xs ys, x = .lst xs ∧ y = .lst ys
    · obtain ⟨xs, ys, rfl, rfl⟩ := hl
      obtain ⟨a, vs, e, q, rs1⟩ := id r1
      obtain ⟨a', vs', e', q', rs2⟩ := id r2
      subst e e'
      cases rv; cases ru
      by_cases hab : a = a'
      · subst hab
        have := deq_same (n + 1) h (show Rep (Gx c X) H (.lst xs) (.ref a) from ⟨a, vs, rfl, q, rs1⟩) ⟨a, vs', rfl, q', rs2⟩
        subst this
        exact SeqAt.EqAt.same _
      · refine SeqAt.EqAt.of_refs hab ?_
        obtain ⟨its, rr, pl, hz⟩ := I.list (SqL.of (K := X.K) q)
        obtain ⟨its2, rr2, pl2, hz2⟩ := I.list (SqL.of (K := X.K) q')
        have l1 := rr.length
        have l2 := rr2.length
        have l3 := rs1.length
        have l4 := rs2.length
        replace h : (if xs.length = ys.length then deqL (deq n) xs ys else some false) = some b := h
        split at h
        · rename_i hlen
          obtain ⟨ee, he, ha⟩ := deqL_at hlen h
          have := SeqAt.RcAt.lists (A := A) (s := s) pl.isList pl2.isList (by simp only [List.size_toArray]; omega) (by omega) (items_by (A := A.in1) (s := s) rs1 rs2 rr rr2 he hin)
          rw [List.size_toArray, ← l1, ← l3, ha] at this
          exact this
        · rename_i hlen
          cases h
          exact SeqAt.RcAt.lists_lengths (A := A) (s := s) pl.isList pl2.isList (by simp only [List.size_toArray, bne_iff_ne, ne_eq]; omega) (by omega)
    · by_cases ht : ∃ xs ys, x = .tup xs ∧ y = .tup ys
      · obtain ⟨xs, ys, rfl, rfl⟩ := ht
        obtain ⟨a, vs, e, q, rs1⟩ := id r1
        obtain ⟨a', vs', e', q', rs2⟩ := id r2
        subst e e'
        cases rv; cases ru
        by_cases hab : a = a'
        · subst hab
          have := deq_same (n + 1) h (show Rep (Gx c X) H (.tup xs) (.ref a) from ⟨a, vs, rfl, q, rs1⟩) ⟨a, vs', rfl, q', rs2⟩
          subst this
          exact SeqAt.EqAt.same _
        · refine SeqAt.EqAt.of_refs hab ?_
          obtain ⟨its, rr, pl, hz⟩ := I.tuple (SqT.of (K := X.K) q)
          obtain ⟨its2, rr2, pl2, hz2⟩ := I.tuple (SqT.of (K := X.K) q')
          have l1 := rr.length
          have l2 := rr2.length
          have l3 := rs1.length
          have l4 := rs2.length
          replace h : (if xs.length = ys.length then deqL (deq n) xs ys else none) = some b := h
          split at h
          · rename_i hlen
            obtain ⟨ee, he, ha⟩ := deqL_at hlen h
            have := SeqAt.RcAt.tuples (A := A) (s := s) (show s.heap.IsTuple a its.toArray from pl) (show s.heap.IsTuple a' its2.toArray from pl2) (by omega) (items_by (A := A.in1) (s := s) rs1 rs2 rr rr2 he hin)
            have hsz : its.toArray.size = its2.toArray.size := by simp only [List.size_toArray]; omega
            rw [← hsz, Nat.min_self, beq_self_eq_true, Bool.and_true, List.size_toArray, ← l1, ← l3, ha] at this
            exact this
          · cases h
      · obtain ⟨hs, rfl⟩ := deq_scal ⟨hl, ht⟩ h
        obtain ⟨f1, f2, e, _, _⟩ := eqF_rep hs r1 r2
        rw [← e]
        exact eqAt_V rv ru f1 f2
end
theorem od_eq (hu : X.A.units + 64 < cLine) : OpD c X (compareOp .Eq) dEq := by
  rintro pins s σ H v u w w' Q I rv ru ⟨Hf, x, y, d, s0, r1, r2, e, k⟩
  unfold dEq at e
  cases h : deq 20 x y with
  | none => rw [h] at e; cases e
  | some b =>
    rw [h] at e
    cases e
    have q0 := k (.bl b) Hf H (Ext.refl s0) rfl
    have fin : EP X pins σ Q (.bool b) s := ⟨.bl b, H, I, rfl, q0⟩
    have r1 := r1.up s0
    have r2 := r2.up s0
    have hin : ∀ {x y : D} {b : Bool} {v u : V} {w w' : Value}, deq 19 x y = some b → Rep (Gx c X) H x v → Rep (Gx c X) H y u → RelV v w → RelV u w' → SeqAt.EqAt X.A.in1 s w w' b := fun h a b c d => deq_at I 19 (by rw [Around.in1_units]; omega) h a b c d
    by_cases hl : ∃ xs ys, x = .lst xs ∧ y = .lst ys
    · obtain ⟨xs, ys, rfl, rfl⟩ := hl
      obtain ⟨a, vs, e, q, rs1⟩ := id r1
      obtain ⟨a', vs', e', q', rs2⟩ := id r2
      subst e e'
      cases rv; cases ru
      obtain ⟨its, rr, pl, hz⟩ := I.list (SqL.of (K := X.K) q)
      obtain ⟨its2, rr2, pl2, hz2⟩ := I.list (SqL.of (K := X.K) q')
      have l1 := rr.length
      have l2 := rr2.length
      have l3 := rs1.length
      have l4 := rs2.length
      replace h : (if xs.length = ys.length then deqL (deq 19) xs ys else some false) = some b := h
      split at h
      · rename_i hlen
        obtain ⟨ee, he, ha⟩ := deqL_at hlen h
        refine SeqAt.eq_listAt pl.isList pl2.isList (by simp only [List.size_toArray]; omega) (by omega) (items_by rs1 rs2 rr rr2 he hin) ?_
        rw [List.size_toArray, ← l1, ← l3, ha]
        exact fin
      · rename_i hlen
        cases h
        exact SeqAt.eq_list_lengthsAt pl.isList pl2.isList (by simp only [List.size_toArray, bne_iff_ne, ne_eq]; omega) (by omega) fin
    · by_cases ht : ∃ xs ys, x = .tup xs ∧ y = .tup ys
      · obtain ⟨xs, ys, rfl, rfl⟩ := ht
        obtain ⟨a, vs, e, q, rs1⟩ := id r1
        obtain ⟨a', vs', e', q', rs2⟩ := id r2
        subst e e'
        cases rv; cases ru
        obtain ⟨its, rr, pl, hz⟩ := I.tuple (SqT.of (K := X.K) q)
        obtain ⟨its2, rr2, pl2, hz2⟩ := I.tuple (SqT.of (K := X.K) q')
        have l1 := rr.length
        have l2 := rr2.length
        have l3 := rs1.length
        have l4 := rs2.length
        replace h : (if xs.length = ys.length then deqL (deq 19) xs ys else none) = some b := h
        split at h
        · rename_i hlen
          obtain ⟨ee, he, ha⟩ := deqL_at hlen h
          refine SeqAt.eq_tupleAt (show s.heap.IsTuple a its.toArray from pl) (show s.heap.IsTuple a' its2.toArray from pl2) (by omega) (items_by rs1 rs2 rr rr2 he hin) ?_
          have hsz : its.toArray.size = its2.toArray.size := by simp only [List.size_toArray]; omega
          rw [← hsz, Nat.min_self, beq_self_eq_true, Bool.and_true, List.size_toArray, ← l1, ← l3, ha]
          exact fin
        · cases h
      · obtain ⟨hs, rfl⟩ := deq_scal ⟨hl, ht⟩ h
        obtain ⟨_, _, _, hsc, e⟩ := eqF_rep hs r1 r2
        exact op_eq pins s σ H v u w w' Q I rv ru ⟨hsc, by rw [e]; exact q0⟩
theorem od_ne (hu : X.A.units + 64 < cLine) : OpD c X (compareOp .NotEq) dNe := by
  rintro pins s σ H v u w w' Q I rv ru ⟨Hf, x, y, d, s0, r1, r2, e, k⟩
  unfold dNe at e
  cases h : deq 20 x y with
  | none => rw [h] at e; cases e
  | some b =>
    rw [h] at e
    cases e
    have q0 := k (.bl (!b)) Hf H (Ext.refl s0) rfl
    have fin : EP X pins σ Q (.bool (!b)) s := ⟨.bl (!b), H, I, rfl, q0⟩
    have r1 := r1.up s0
    have r2 := r2.up s0
    have hin : ∀ {x y : D} {b : Bool} {v u : V} {w w' : Value}, deq 19 x y = some b → Rep (Gx c X) H x v → Rep (Gx c X) H y u → RelV v w → RelV u w' → SeqAt.EqAt X.A.in1 s w w' b := fun h a b c d => deq_at I 19 (by rw [Around.in1_units]; omega) h a b c d
    by_cases hl : ∃ xs ys, x = .lst xs ∧ y = .lst ys
    · obtain ⟨xs, ys, rfl, rfl⟩ := hl
      obtain ⟨a, vs, e, q, rs1⟩ := id r1
      obtain ⟨a', vs', e', q', rs2⟩ := id r2
      subst e e'
      cases rv; cases ru
      obtain ⟨its, rr, pl, hz⟩ := I.list (SqL.of (K := X.K) q)
      obtain ⟨its2, rr2, pl2, hz2⟩ := I.list (SqL.of (K := X.K) q')
      have l1 := rr.length
      have l2 := rr2.length
      have l3 := rs1.length
      have l4 := rs2.length
      replace h : (if xs.length = ys.length then deqL (deq 19) xs ys else some false) = some b := h
      split at h
      · rename_i hlen
        obtain ⟨ee, he, ha⟩ := deqL_at hlen h
        refine SeqAt.RcNeAt.lists (A := X.A) (s := s) pl.isList pl2.isList (by simp only [List.size_toArray]; omega) (by omega) (items_by rs1 rs2 rr rr2 he hin) X.prog X.w X.xe _ ?_
        rw [List.size_toArray, ← l1, ← l3, ha]
        exact fin
      · rename_i hlen
        cases h
        exact SeqAt.RcNeAt.lists_lengths (A := X.A) (s := s) pl.isList pl2.isList (by simp only [List.size_toArray, bne_iff_ne, ne_eq]; omega) (by omega) X.prog X.w X.xe _ fin
    · by_cases ht : ∃ xs ys, x = .tup xs ∧ y = .tup ys
      · obtain ⟨xs, ys, rfl, rfl⟩ := ht
        obtain ⟨a, vs, e, q, rs1⟩ := id r1
        obtain ⟨a', vs', e', q', rs2⟩ := id r2
        subst e e'
        cases rv; cases ru
        obtain ⟨its, rr, pl, hz⟩ := I.tuple (SqT.of (K := X.K) q)
        obtain ⟨its2, rr2, pl2, hz2⟩ := I.tuple (SqT.of (K := X.K) q')
        have l1 := rr.length
        have l2 := rr2.length
        have l3 := rs1.length
        have l4 := rs2.length
        replace h : (if xs.length = ys.length then deqL (deq 19) xs ys else none) = some b := h
        split at h
        · rename_i hlen
          obtain ⟨ee, he, ha⟩ := deqL_at hlen h
          refine SeqAt.RcNeAt.tuples (A := X.A) (s := s) (show s.heap.IsTuple a its.toArray from pl) (show s.heap.IsTuple a' its2.toArray from pl2) (by omega) (items_by rs1 rs2 rr rr2 he hin) X.prog X.w X.xe _ ?_
          have hsz : its.toArray.size = its2.toArray.size := by simp only [List.size_toArray]; omega
          rw [← hsz, Nat.min_self, beq_self_eq_true, Bool.and_true, List.size_toArray, ← l1, ← l3, ha]
          exact fin
        · cases h
      · obtain ⟨hs, rfl⟩ := deq_scal ⟨hl, ht⟩ h
        obtain ⟨_, _, _, hsc, e⟩ := eqF_rep hs r1 r2
        exact op_ne pins s σ H v u w w' Q I rv ru ⟨hsc, by rw [e]; exact q0⟩


end
end L2
namespace L2
open PySem PySem.Spec PyProof.Rows
section
variable {c : Str → Addr} {X : Cx} {e a b o : Expr} {es : List Expr} {pos p apos : Pos}
theorem atI_rep {G : Gc} {H : Hp} {ds : List D} {vs : List V} {i : Int} {d : D} (h : atI ds i = some d) (r : Reps G H ds vs) : ∃ v, atI vs i = some v ∧ Rep G H d v := by
  unfold atI at h ⊢
  rw [← r.length]
  cases e : ixN ds.length i with
  | none => rw [e] at h; cases h
  | some j =>
    rw [e] at h
    exact r.get h
noncomputable def ixD (ds : List D) : D → Option D
  | .int k => atI ds k
  | _ => none
noncomputable def mIx (f : List Sl → Option (List D)) (g : List Sl → Option D) (ρ : List Sl) : Option D := (f ρ).bind fun ds => (g ρ).bind fun i => ixD ds i
theorem de_ix {f : List Sl → Option (List D)} {g : List Sl → Option D} (ha : DC c X a f) (hb : DE c X b g) (hs : PlainIx b := by exact fun _ _ => rfl) : DE c X (.Subscript a b pos) (mIx f g) :=
  PE.imp (pe_ix (ix_list.or ix_tup) ha hb hs) fun σ H Q q_ => by
    obtain ⟨Hf0, H0, Hf, ρ, d, st, ef, k⟩ := q_
    unfold mIx at ef
    cases e1 : f ρ with
    | none => rw [e1] at ef; cases ef
    | some ds =>
      cases e2 : g ρ with
      | none => rw [e1, e2] at ef; cases ef
      | some i =>
        rw [e1, e2] at ef
        replace ef : ixD ds i = some d := ef
        cases i with
        | int n =>
          replace ef : atI ds n = some d := ef
          refine ⟨Hf0, H0, Hf, ρ, ds, st, e1, fun l vs Hf1 H1 x1 q r => ⟨Hf0, H0, Hf1, ρ, .int n, st.step x1, e2, fun u Hf2 H2 x2 r2 => ?_⟩⟩
          cases (show u = V.int n from r2)
          obtain ⟨v, ev, rv⟩ := atI_rep ef r
          have fin := k v Hf2 H2 (x1.trans x2) (rv.up x2.f)
          rcases q with q | q
          · exact .inl ⟨l, vs, n, v, rfl, rfl, x2.h.seq q, ev, fin⟩
          · exact .inr ⟨l, vs, n, v, rfl, rfl, x2.h.tup q, ev, fin⟩
        | _ => cases ef

noncomputable def cutL (xs : List D) (lo hi : Option Int) : List D := (xs.drop (HT.sIx xs.length 0 lo)).take (HT.sIx xs.length xs.length hi - HT.sIx xs.length 0 lo)
noncomputable def lsD : D → Option (List D)
  | .lst xs => some xs
  | .kl xs => some xs
  | _ => none
theorem ls_rep {G : Gc} {H : Hp} {d : D} {v : V} {ds : List D} (e : lsD d = some ds) (r : Rep G H d v) : ∃ a vs, v = .ref a ∧ SqL G.K H a vs ∧ Reps G H ds vs := by
  cases d with
  | lst xs => cases e; obtain ⟨a, vs, e1, q, r⟩ := r; exact ⟨a, vs, e1, SqL.of q, r⟩
  | kl xs => cases e; obtain ⟨a, vs, e1, q, r⟩ := r; exact ⟨a, vs, e1, q, r⟩
  | _ => cases e
noncomputable def tDPt (G : Gc) (f : List Sl → Option (Option Int)) : TO := fun σ H Q => ∃ Hf0 H0 Hf ρ i, StOk G Hf0 H0 Hf H σ ρ ∧ f ρ = some i ∧ ∀ Hf' H', Ext Hf H Hf' H' → Q i H'
noncomputable def DPt (c : Str → Addr) (X : Cx) (e : Option Expr) (f : List Sl → Option (Option Int)) : Prop := PO X e (tDPt (Gx c X) f)
noncomputable def mPt (f : List Sl → Option D) (ρ : List Sl) : Option (Option Int) := (f ρ).bind fun d => match d with
  | .int i => some (some i)
  | _ => none
theorem dp_some {f : List Sl → Option D} (h : DE c X e f) : DPt c X (some e) (mPt f) := fun pins s σ H Q I q_ => by
  obtain ⟨Hf0, H0, Hf, ρ, i, st, ef, k⟩ := q_
  exact (po_some h pins s σ H Q I (by
  unfold mPt at ef
  cases e1 : f ρ with
  | none => rw [e1] at ef; cases ef
  | some d =>
    rw [e1] at ef
    cases d with
    | int n => cases ef; exact ⟨Hf0, H0, Hf, ρ, .int n, st, e1, fun v Hf' H' x r => ⟨n, r, k Hf' H' x⟩⟩
    | _ => cases ef))
noncomputable def mSl (f : List Sl → Option D) (l h : List Sl → Option (Option Int)) (ρ : List Sl) : Option (List D) := (f ρ).bind fun d => (lsD d).bind fun ds => (l ρ).bind fun lo => (h ρ).map fun hi => cutL ds lo hi
theorem cut_rep {G : Gc} {H : Hp} {ds : List D} {vs : List V} (r : Reps G H ds vs) (lo hi : Option Int) : Reps G H (cutL ds lo hi) (cutV vs lo hi) := by
  unfold cutL cutV
  rw [r.length]
  exact (r.drop _).take _
theorem do_slice {f : List Sl → Option D} {l h : List Sl → Option (Option Int)} {lo hi : Option Expr} {p2 : Pos} (ha : DE c X e f) (hl : DPt c X lo l) (hh : DPt c X hi h) : DO c X (.Subscript e (.Slice lo hi none p2) pos) (mSl f l h) :=
  PE.imp (pe_slice sl_list ha hl hh) fun σ H Q q_ => by
    obtain ⟨Hf0, H0, Hf, ρ, rs, st, ef, k⟩ := q_
    unfold mSl at ef
    cases e1 : f ρ with
    | none => rw [e1] at ef; cases ef
    | some d =>
      cases e2 : lsD d with
      | none => rw [e1] at ef; replace ef : (lsD d).bind _ = _ := ef; rw [e2] at ef; cases ef
      | some ds =>
        cases e3 : l ρ with
        | none => rw [e1] at ef; replace ef : (lsD d).bind _ = _ := ef; rw [e2, e3] at ef; cases ef
        | some lo' =>
          cases e4 : h ρ with
          | none => rw [e1] at ef; replace ef : (lsD d).bind _ = _ := ef; rw [e2, e3, e4] at ef; cases ef
          | some hi' =>
            rw [e1] at ef
            replace ef : (lsD d).bind _ = _ := ef
            rw [e2, e3, e4] at ef
            cases ef
            refine ⟨Hf0, H0, Hf, ρ, d, st, e1, fun v Hf1 H1 x1 r1 => ⟨Hf0, H0, Hf1, ρ, lo', st.step x1, e3, fun Hf2 H2 x2 => ⟨Hf0, H0, Hf2, ρ, hi', (st.step x1).step x2, e4, fun Hf3 H3 x3 => ?_⟩⟩⟩
            obtain ⟨a, vs, ea, q, r⟩ := ls_rep e2 r1
            subst ea
            have x := (x1.trans x2).trans x3
            have y := (x2.trans x3)
            refine ⟨a, vs, rfl, (x1.s.trans y.h).seq q, fun p hp => ?_⟩
            exact k p (cutV vs lo' hi') Hf3 (upd H3 p (.lst (cutV vs lo' hi'))) (x.trans (Ext.tmp x.s hp)) (x.h.free hp) (x.s.free hp) upd_same (cut_rep (r.up y.f) _ _)

noncomputable def rCD (G : Gc) (m : List D → Option D) : List V → Hp → VK → Prop := fun vs H Q => ∃ Hf ds d, Same Hf H ∧ Reps G Hf ds vs ∧ m ds = some d ∧ ∀ v Hf' H', Ext Hf H Hf' H' → Rep G Hf' d v → Q v H'
noncomputable abbrev CallD (c : Str → Addr) (X : Cx) (f : Value) (m : List D → Option D) : Prop := CallR X f (rCD (Gx c X) m)
noncomputable def mCall (m : List D → Option D) (f : List Sl → Option (List D)) (ρ : List Sl) : Option D := (f ρ).bind m
theorem mCall_is {m : List D → Option D} {f : List Sl → Option (List D)} {ρ : List Sl} {d : D} (h : mCall m f ρ = some d) : ∃ ds, f ρ = some ds ∧ m ds = some d := by
  unfold mCall at h
  cases e : f ρ with
  | none => rw [e] at h; cases h
  | some ds => rw [e] at h; exact ⟨ds, rfl, h⟩
theorem de_bltB {m : List D → Option D} {f : List Sl → Option (List D)} {x : Str} {id : String} (hc : CallD c X (.builtin id) m) (hs : ∀ ds d, m ds = some d → d.scalar = true) (hg : Gl X x) (hm : X.mg x = none) (hv : bootBuiltins x = some (.builtin id)) (ha : DAB c X (e :: es) f) (hn : x ≠ "__name__" := by decide) (hdb : (x == ("__debug__" : Str)) = false := by decide)
    (he : starEach (e :: es) X.env = (false, eval e X.env) :: starEach es X.env := by rfl) (hpl : (backTo pos (starEach es X.env)).any (·.1) = false := by rfl) :
    DE c X (.Call (.Name x p) (e :: es) [] pos) (mCall m f) := PE.imp (pe_callB hc hg hm hv ha.pa hn hdb he hpl) fun σ H Q q_ => by
  obtain ⟨Hf0, H0, Hf, ρ, d, st, ef, k⟩ := q_
  obtain ⟨ds, e1, e2⟩ := mCall_is ef
  exact ⟨Hf0, H0, Hf, ρ, ds, st, e1, fun vs Hf' H' x r => ⟨H', ds, d, Same.refl _, r, e2, fun v Hf2 H2 x2 r2 => k v Hf' H2 (x.trans (Ext.grow x.s x2.h)) (r2.sc (hs _ _ e2))⟩⟩
noncomputable def lenD : List D → Option D
  | [.lst xs] => some (.int xs.length)
  | [.tup xs] => some (.int xs.length)
  | [.kl xs] => some (.int xs.length)
  | [.kt xs] => some (.int xs.length)
  | [.str x] => if x.length ≤ 16777216 then some (.int x.length) else none
  | _ => none
theorem Reps.one {G : Gc} {H : Hp} {d : D} {vs : List V} (r : Reps G H [d] vs) : ∃ v, vs = [v] ∧ Rep G H d v := by
  obtain ⟨v, r', e, h, q⟩ := r
  cases (show r' = [] from q)
  exact ⟨v, e, h⟩
theorem Reps.two {G : Gc} {H : Hp} {d d' : D} {vs : List V} (r : Reps G H [d, d'] vs) : ∃ v v', vs = [v, v'] ∧ Rep G H d v ∧ Rep G H d' v' := by
  obtain ⟨v, r', e, h, q⟩ := r
  obtain ⟨v', e', h'⟩ := q.one
  subst e'
  exact ⟨v, v', e, h, h'⟩
theorem cd_len : CallD c X (.builtin "len") lenD := by
  rintro pins s σ H vs us Q I rv ⟨Hf, ds, d, s0, r, e, k⟩
  have sq : ∀ (d0 : D) (xs : List D), ds = [d0] → seqD d0 = some xs → d = .int xs.length → wpAny (model X.prog X.w) X.A (call (.builtin "len") us) (EP X pins σ Q) X.xe s := fun d0 xs ed es e0 => by
    subst ed e0
    obtain ⟨v, e1, r1⟩ := r.one
    subst e1
    obtain ⟨a, ws, e2, q, rs⟩ := seq_rep es r1
    subst e2
    refine call_len_seq pins s σ H _ us Q I rv ⟨a, ws, rfl, sq_up s0 q, ?_⟩
    rw [← rs.length]
    exact k _ Hf H (Ext.refl s0) rfl
  unfold lenD at e
  split at e
  · cases e; exact sq _ _ rfl rfl rfl
  · cases e; exact sq _ _ rfl rfl rfl
  · cases e; exact sq _ _ rfl rfl rfl
  · cases e; exact sq _ _ rfl rfl rfl
  · split at e
    · rename_i hl
      cases e
      obtain ⟨v, e1, r1⟩ := r.one
      subst e1
      exact call_len_str pins s σ H _ us Q I rv ⟨_, by rw [show v = V.str _ from r1], by rw [sizeLine_eq]; exact hl, k _ Hf H (Ext.refl s0) rfl⟩
    · cases e
  · cases e
theorem sc_len : ∀ ds d, lenD ds = some d → d.scalar = true := by
  intro ds d e
  unfold lenD at e
  split at e <;> first | (cases e; done) | (cases e; rfl) | (split at e <;> first | (cases e; done) | (cases e; rfl))

noncomputable def intsD : List D → Option (List Int)
  | [] => some []
  | .int i :: ds => (intsD ds).map fun r => i :: r
  | _ => none
theorem ints_rep {G : Gc} {H : Hp} : ∀ {ds : List D} {ns : List Int} {vs : List V}, intsD ds = some ns → Reps G H ds vs → vs = ns.map V.int
  | [], _, _, e, r => by cases e; exact r
  | .int i :: ds, _, _, e, ⟨v, r', e', h1, h2⟩ => by
    subst e'
    cases es : intsD ds with
    | none => rw [intsD, es] at e; cases e
    | some ns =>
      rw [intsD, es] at e
      cases e
      rw [ints_rep es h2, show v = V.int i from h1]
      rfl
  | .non :: _, _, _, e, _ => by cases e
  | .bl _ :: _, _, _, e, _ => by cases e
  | .str _ :: _, _, _, e, _ => by cases e
  | .lst _ :: _, _, _, e, _ => by cases e
  | .tup _ :: _, _, _, e, _ => by cases e
  | .kl _ :: _, _, _, e, _ => by cases e
  | .kt _ :: _, _, _, e, _ => by cases e
  | .dic _ _ :: _, _, _, e, _ => by cases e
  | .ins _ _ _ :: _, _, _, e, _ => by cases e
theorem intsD_map (ns : List Int) : intsD (ns.map D.int) = some ns := by
  induction ns with
  | nil => rfl
  | cons n ns ih => rw [List.map_cons, intsD, ih]; rfl
noncomputable def sumD : List D → Option D
  | [d] => (lsD d).bind fun ds => (intsD ds).map fun ns => .int ns.sum
  | _ => none
theorem cd_sum (hc : X.calm = true) : CallD c X (.builtin "sum") sumD := by
  rintro pins s σ H vs us Q I rv ⟨Hf, ds, d, s0, r, e, k⟩
  unfold sumD at e
  split at e
  · rename_i d0
    cases e1 : lsD d0 with
    | none => rw [e1] at e; cases e
    | some xs =>
      cases e2 : intsD xs with
      | none => rw [e1] at e; replace e : (intsD xs).map _ = _ := e; rw [e2] at e; cases e
      | some ns =>
        rw [e1] at e
        replace e : (intsD xs).map _ = _ := e
        rw [e2] at e
        cases e
        obtain ⟨v, ev, r1⟩ := r.one
        subst ev
        obtain ⟨a, ws, ea, q, rs⟩ := ls_rep e1 r1
        subst ea
        refine call_sum hc pins s σ H _ us Q I rv ⟨a, ns, rfl, ?_, k _ Hf H (Ext.refl s0) rfl⟩
        rw [← ints_rep e2 rs]
        exact s0.seq q
  · cases e
theorem sc_sum : ∀ ds d, sumD ds = some d → d.scalar = true := by
  intro ds d e
  unfold sumD at e
  split at e
  · rename_i d0
    cases e1 : lsD d0 with
    | none => rw [e1] at e; cases e
    | some xs =>
      rw [e1] at e
      replace e : (intsD xs).map _ = _ := e
      cases e2 : intsD xs with
      | none => rw [e2] at e; cases e
      | some ns => rw [e2] at e; cases e; rfl
  · cases e

theorem do_list {f : List Sl → Option (List D)} {x : Str} (hx : bootBuiltins x = some (.type "list")) (hg : Gl X x) (hm : X.mg x = none) (ha : DC c X e f) (hs : starEach [e] X.env = (false, eval e X.env) :: starEach [] X.env := by rfl) (hn : x ≠ "__name__" := by decide) (hdb : (x == ("__debug__" : Str)) = false := by decide)
    (hpl : (backTo pos (starEach [] X.env)).any (·.1) = false := by rfl) : DO c X (.Call (.Name x p) [e] [] pos) f :=
  PE.imp (pe_callTy call_list_of hg hm hx (pa_cons ha pa_nil hs) hn hdb hs hpl) fun σ H Q ⟨Hf0, H0, Hf, ρ, ds, st, ef, k⟩ =>
    ⟨Hf0, H0, Hf, ρ, ds, st, ef, fun a vs Hf' H' x q r => ⟨a, vs, rfl, q, fun l hl => k l vs Hf' (upd H' l (.lst vs)) (x.trans (Ext.tmp x.s hl)) (x.h.free hl) (x.s.free hl) upd_same r⟩⟩


noncomputable def tyN : D → Option String
  | .non => some "NoneType"
  | .bl _ => some "bool"
  | .int _ => some "int"
  | .str _ => some "str"
  | .lst _ => some "list"
  | .tup _ => some "tuple"
  | .dic _ _ => some "dict"
  | _ => none
noncomputable def isTy (T : String) (d : D) : Option D := (tyN d).map fun t => .bl (t == T || (t == "bool" && T == "int"))
theorem ty_rep {G : Gc} {H : Hp} {d : D} {v : V} {t : String} (e : tyN d = some t) (r : Rep G H d v) : TyOf G.K H v (.type t) := by
  cases d with
  | non => cases e; cases r; exact .non
  | bl b => cases e; cases r; exact .bl b
  | int i => cases e; cases r; exact .int i
  | str x => cases e; cases r; exact .str x
  | lst xs => cases e; obtain ⟨a, vs, e1, q, r⟩ := r; subst e1; exact .lst q
  | tup xs => cases e; obtain ⟨a, vs, e1, q, r⟩ := r; subst e1; exact .tup q
  | dic ks xs => cases e; obtain ⟨a, vs, e1, q, l, r⟩ := r; subst e1; exact .dK q
  | _ => cases e

noncomputable def IsTyOk (K : PySem.W.Frag) (T : String) : Prop := ∀ t ∈ ["NoneType", "bool", "int", "str", "list", "tuple", "dict"], PySem.W.kitOne K (.type t) (.type T) = some (t == T || (t == "bool" && T == "int"))
theorem tyN_mem {d : D} {t : String} (e : tyN d = some t) : t ∈ ["NoneType", "bool", "int", "str", "list", "tuple", "dict"] := by
  cases d <;> first | (cases e; decide) | cases e
noncomputable def mIsT (T : String) (f : List Sl → Option D) (ρ : List Sl) : Option D := (f ρ).bind (isTy T)
theorem de_isT {f : List Sl → Option D} {T : String} {q1 : Pos} {y : Str} (hk : IsTyOk X.K T) (hg : Gl X "isinstance") (hm : X.mg "isinstance" = none) (hy : bootBuiltins y = some (.type T)) (hgy : Gl X y) (hmy : X.mg y = none) (ha : DB c X e f)
    (hs : starEach [e, .Name y q1] X.env = (false, eval e X.env) :: starEach [.Name y q1] X.env := by rfl) (hs2 : starEach [.Name y q1] X.env = (false, eval (.Name y q1) X.env) :: starEach [] X.env := by rfl)
    (hn : y ≠ "__name__" := by decide) (hdb : (y == ("__debug__" : Str)) = false := by decide) (hpl : (backTo pos (starEach [.Name y q1] X.env)).any (·.1) = false := by rfl) :
    DE c X (.Call (.Name "isinstance" p) [e, .Name y q1] [] pos) (mIsT T f) :=
  PE.imp (pe_callB call_isT hg hm boot_isinstance (pa_cons ha (pa_cons (pe_bltn (v := .ty T) hgy hmy hy rfl hn hdb) pa_nil hs2) hs) (by decide) (by decide) hs hpl) fun σ H Q q_ => by
    obtain ⟨Hf0, H0, Hf, ρ, d, st, ef, k⟩ := q_
    unfold mIsT at ef
    cases e1 : f ρ with
    | none => rw [e1] at ef; cases ef
    | some x =>
      rw [e1] at ef
      replace ef : isTy T x = some d := ef
      unfold isTy at ef
      cases e2 : tyN x with
      | none => rw [e2] at ef; cases ef
      | some t =>
        rw [e2] at ef
        cases ef
        exact ⟨Hf0, H0, Hf, ρ, x, st, e1, fun v Hf' H' x1 r => ⟨v, T, .type t, _, rfl, ty_rep e2 r, hk t (tyN_mem e2), k _ Hf' H' x1 rfl⟩⟩
end
noncomputable def tDG (G : Gc) (g : D → List Sl → Option (List Sl)) : TG := fun v σ H Q => ∃ Hf0 H0 Hf ρ d ρ', StOk G Hf0 H0 Hf H σ ρ ∧ Rep G Hf d v ∧ g d ρ = some ρ' ∧ ∀ σ', StOk G Hf0 H0 Hf H σ' ρ' → Q σ' H
noncomputable def tDGs (G : Gc) (g : List D → List Sl → Option (List Sl)) : TGs := fun vs σ H Q => ∃ Hf0 H0 Hf ρ ds ρ', StOk G Hf0 H0 Hf H σ ρ ∧ Reps G Hf ds vs ∧ g ds ρ = some ρ' ∧ ∀ σ', StOk G Hf0 H0 Hf H σ' ρ' → Q σ' H

structure DG (c : Str → Addr) (X : Cx) (tg : Expr) (k : Nat) (g : D → List Sl → Option (List Sl)) : Prop where
  pg : PG X tg (tDG (Gx c X) g)
  len : ∀ d ρ ρ', g d ρ = some ρ' → ρ'.length = ρ.length
  keep : ∀ d ρ ρ' i, g d ρ = some ρ' → k ≤ i → ρ'[i]? = ρ[i]?
structure DGs (c : Str → Addr) (X : Cx) (tg : List Expr) (k : Nat) (g : List D → List Sl → Option (List Sl)) : Prop where
  pg : PGs X tg (tDGs (Gx c X) g)
  len : ∀ d ρ ρ', g d ρ = some ρ' → ρ'.length = ρ.length
  keep : ∀ d ρ ρ' i, g d ρ = some ρ' → k ≤ i → ρ'[i]? = ρ[i]?
  many : ∀ ds ρ ρ', g ds ρ = some ρ' → ds.length = tg.length
section
variable {c : Str → Addr} {X : Cx} {e : Expr} {es : List Expr} {pos : Pos}
noncomputable def gSet (i : Nat) (d : D) (ρ : List Sl) : Option (List Sl) := some (ρ.set i (.im d))
theorem dg_of {i k : Nat} (h : PG X e (gName i)) (hk : i < k) : DG c X e k (gSet i) :=
  ⟨PG.imp h fun v σ H Q ⟨Hf0, H0, Hf, ρ, d, ρ', st, r, eg, q⟩ => by cases eg; exact q _ (st.setIm r), fun d ρ ρ' h => by cases h; simp, fun d ρ ρ' j h hj => by
    cases h
    rw [List.getElem?_set_ne (by omega)]⟩
theorem dg_name (i k : Nat) {x : Str} (hN : X.N.Nodup) (hk : i < k := by decide) (hi : X.N[i]? = some x := by rfl) (hx : Loc X.env.scope x := by first | exact Or.inl rfl | exact Or.inr rfl) (hf : X.fn x = true ∨ X.env.scope.names.lookup x = some .local := by first | exact .inl rfl | exact .inr rfl) : DG c X (.Name x pos) k (gSet i) :=
  dg_of (pg_name hN hi hx hf) hk
noncomputable def gsNil (ds : List D) (ρ : List Sl) : Option (List Sl) := match ds with
  | [] => some ρ
  | _ => none
noncomputable def gsCons (g : D → List Sl → Option (List Sl)) (h : List D → List Sl → Option (List Sl)) (ds : List D) (ρ : List Sl) : Option (List Sl) := match ds with
  | d :: ds => (g d ρ).bind fun ρ1 => h ds ρ1
  | [] => none
theorem dgs_nil {k : Nat} : DGs c X [] k gsNil := by
  refine ⟨PGs.imp pgs_nil fun vs σ H Q ⟨Hf0, H0, Hf, ρ, ds, ρ', st, r, eg, q⟩ => ?_, fun d ρ ρ' h => ?_, fun d ρ ρ' i h _ => ?_, fun d ρ ρ' h => ?_⟩
  · cases ds with
    | nil => cases eg; exact ⟨r, q _ st⟩
    | cons d ds => cases eg
  · cases d with
    | nil => cases h; rfl
    | cons a b => cases h
  · cases d with
    | nil => cases h; rfl
    | cons a b => cases h
  · cases d with
    | nil => cases h; rfl
    | cons a b => cases h
theorem gsCons_is {g : D → List Sl → Option (List Sl)} {h : List D → List Sl → Option (List Sl)} {ds : List D} {ρ ρ' : List Sl} (e : gsCons g h ds ρ = some ρ') : ∃ d r ρ1, ds = d :: r ∧ g d ρ = some ρ1 ∧ h r ρ1 = some ρ' := by
  cases ds with
  | nil => cases e
  | cons d r =>
    replace e : (g d ρ).bind _ = _ := e
    cases e1 : g d ρ with
    | none => rw [e1] at e; cases e
    | some ρ1 => rw [e1] at e; exact ⟨d, r, ρ1, rfl, e1, e⟩
theorem dgs_cons {k : Nat} {g : D → List Sl → Option (List Sl)} {h : List D → List Sl → Option (List Sl)} (h1 : DG c X e k g) (h2 : DGs c X es k h) (hs : (assignEach (e :: es) X.env).map (·.2) = assign e X.env :: (assignEach es X.env).map (·.2) := by rfl) : DGs c X (e :: es) k (gsCons g h) := by
  refine ⟨PGs.imp (pgs_cons h1.pg h2.pg hs) fun vs σ H Q ⟨Hf0, H0, Hf, ρ, ds, ρ', st, r, eg, q⟩ => ?_, fun d ρ ρ' h => ?_, fun d ρ ρ' i h hi => ?_, fun d ρ ρ' h => ?_⟩
  · obtain ⟨d, dr, ρ1, rfl, e1, e2⟩ := gsCons_is eg
    obtain ⟨v, vr, ev, rv, rr⟩ := r
    exact ⟨v, vr, ev, Hf0, H0, Hf, ρ, d, ρ1, st, rv, e1, fun σ1 st1 => ⟨Hf0, H0, Hf, ρ1, dr, ρ', st1, rr, e2, q⟩⟩
  · obtain ⟨d, dr, ρ1, rfl, e1, e2⟩ := gsCons_is h
    rw [h2.len _ _ _ e2, h1.len _ _ _ e1]
  · obtain ⟨d, dr, ρ1, rfl, e1, e2⟩ := gsCons_is h
    rw [h2.keep _ _ _ _ e2 hi, h1.keep _ _ _ _ e1 hi]
  · obtain ⟨d, dr, ρ1, rfl, e1, e2⟩ := gsCons_is h
    rw [List.length_cons, List.length_cons, h2.many _ _ _ e2]
noncomputable def tpD : D → Option (List D)
  | .tup xs => some xs
  | .kt xs => some xs
  | _ => none
theorem tp_rep {G : Gc} {H : Hp} {d : D} {v : V} {ds : List D} (e : tpD d = some ds) (r : Rep G H d v) : ∃ a vs, v = .ref a ∧ SqT G.K H a vs ∧ Reps G H ds vs := by
  cases d with
  | tup xs => cases e; obtain ⟨a, vs, e1, q, r⟩ := r; exact ⟨a, vs, e1, SqT.of q, r⟩
  | kt xs => cases e; obtain ⟨a, vs, e1, q, r⟩ := r; exact ⟨a, vs, e1, q, r⟩
  | _ => cases e
noncomputable def gTupD (g : List D → List Sl → Option (List Sl)) (d : D) (ρ : List Sl) : Option (List Sl) := (tpD d).bind fun ds => g ds ρ
theorem gTupD_is {g : List D → List Sl → Option (List Sl)} {d : D} {ρ ρ' : List Sl} (h : gTupD g d ρ = some ρ') : ∃ ds, tpD d = some ds ∧ g ds ρ = some ρ' := by
  unfold gTupD at h
  cases e : tpD d with
  | none => rw [e] at h; cases h
  | some ds => rw [e] at h; exact ⟨ds, rfl, h⟩
theorem dg_tup {k : Nat} {g : List D → List Sl → Option (List Sl)} {kk : Nat} (hc : X.calm = true) (h : DGs c X es k g) (hn : (assignEach es X.env).length = es.length := by rfl) (hst : (assignEach es X.env).findIdx? (·.1) = none := by rfl) : DG c X (.Tuple es kk pos) k (gTupD g) := by
  refine ⟨PG.imp (pg_tup hc h.pg hn hst) fun v σ H Q ⟨Hf0, H0, Hf, ρ, d, ρ', st, r, eg, q⟩ => ?_, fun d ρ ρ' h' => ?_, fun d ρ ρ' i h' hi => ?_⟩
  · obtain ⟨ds, e1, e2⟩ := gTupD_is eg
    obtain ⟨a, vs, ea, qa, ra⟩ := tp_rep e1 r
    exact ⟨a, vs, ea, st.sub.tup qa, by rw [← ra.length]; exact h.many _ _ _ e2, Hf0, H0, Hf, ρ, ds, ρ', st, ra, e2, q⟩
  · obtain ⟨ds, e1, e2⟩ := gTupD_is h'
    exact h.len _ _ _ e2
  · obtain ⟨ds, e1, e2⟩ := gTupD_is h'
    exact h.keep _ _ _ _ e2 hi
end
noncomputable def IterS (G : Gc) (Hf : Hp) (J : It) (ds : List D) : Prop := ∀ Hf' H', Same Hf Hf' → Same Hf' H' → ∀ i : Nat,
  (∀ d, ds[i]? = some d → J.go i H' ∧ ∀ x H2, J.yld i H' x H2 → ∃ Hf2, Ext Hf' H' Hf2 H2 ∧ Rep G Hf2 d x) ∧ (i = ds.length → J.stop i H')
noncomputable def IterE (G : Gc) (Hf H : Hp) (J : It) (ds : List D) : Prop := ∀ Hf' H', Ext Hf H Hf' H' → ∀ i : Nat,
  (∀ d, ds[i]? = some d → J.go i H' ∧ ∀ x H2, J.yld i H' x H2 → ∃ Hf2, Ext Hf' H' Hf2 H2 ∧ Rep G Hf2 d x) ∧ (i = ds.length → J.stop i H')
theorem IterS.toE {G : Gc} {Hf H : Hp} {J : It} {ds : List D} (h : IterS G Hf J ds) : IterE G Hf H J ds := fun Hf' H' x i => h Hf' H' x.f x.s i
noncomputable def tDI (G : Gc) (f : List Sl → Option (List D)) : TI := fun σ H R => ∃ Hf0 H0 Hf ρ ds, StOk G Hf0 H0 Hf H σ ρ ∧ f ρ = some ds ∧ ∀ J Hf' H', Ext Hf H Hf' H' → IterS G Hf' J ds → R J H'
noncomputable def tDIe (G : Gc) (f : List Sl → Option (List D)) : TI := fun σ H R => ∃ Hf0 H0 Hf ρ ds, StOk G Hf0 H0 Hf H σ ρ ∧ f ρ = some ds ∧ ∀ J Hf' H', Ext Hf H Hf' H' → IterE G Hf' H' J ds → R J H'
noncomputable def DI (c : Str → Addr) (X : Cx) (tg iter : Expr) (f : List Sl → Option (List D)) : Prop := PI X tg iter (tDI (Gx c X) f)
noncomputable def DIe (c : Str → Addr) (X : Cx) (tg iter : Expr) (f : List Sl → Option (List D)) : Prop := PI X tg iter (tDIe (Gx c X) f)
section
variable {c : Str → Addr} {X : Cx} {tg e a b : Expr} {es : List Expr} {pos p : Pos}
theorem DI.de {f : List Sl → Option (List D)} (h : DI c X tg e f) : DIe c X tg e f := PI.imp h fun σ H R q_ => by
  obtain ⟨Hf0, H0, Hf, ρ, ds, st, ef, k⟩ := q_
  exact (⟨Hf0, H0, Hf, ρ, ds, st, ef, fun J Hf' H' x i => k J Hf' H' x i.toE⟩)
theorem iter_tup {G : Gc} {Hf : Hp} {ds : List D} {l : Addr} {vs : List V} (q : SqT G.K Hf l vs) (r : Reps G Hf ds vs) : IterS G Hf (Itt G.K l) ds := fun Hf' H' f s i => by
  have q' : SqT G.K H' l vs := (f.trans s).tup q
  refine ⟨fun d ed => ?_, fun ei => ⟨vs, q', by rw [← r.length, ei]; exact Nat.le_refl _⟩⟩
  obtain ⟨v, ev, rv⟩ := r.get ed
  refine ⟨⟨vs, v, q', ev⟩, fun x H2 ⟨e2, y⟩ => ?_⟩
  subst e2
  have := y vs q'
  rw [ev] at this
  cases this
  exact ⟨Hf', Ext.refl s, rv.up f⟩
theorem di_seq {f : List Sl → Option D} (h : DE c X e f) : DI c X tg e (mSeqI f) := fun pins s σ H R I q_ => by
  obtain ⟨Hf0, H0, Hf, ρ, ds, st, ef, k⟩ := q_
  unfold mSeqI at ef
  cases e1 : f ρ with
  | none => rw [e1] at ef; cases ef
  | some d =>
    rw [e1] at ef
    replace ef : seqD d = some ds := ef
    have un : ∀ {l : Addr} {H' : Hp} {us vs : List V}, SqL X.K H' l us → SqL X.K H' l vs → us = vs ∨ True := fun _ _ => .inr trivial
    cases e2 : lsD d with
    | some ds' =>
      have : ds' = ds := by cases d <;> first | (cases e2; done) | (cases e2; cases ef; rfl)
      subst this
      refine pi_list h pins s σ H R I ⟨Hf0, H0, Hf, ρ, d, st, e1, fun v Hf' H' x r => ?_⟩
      obtain ⟨a, vs, ea, q, rs⟩ := ls_rep e2 r
      exact ⟨a, ea, ⟨vs, x.s.seq q⟩, k _ Hf' H' x fun Hf2 H2 f2 s2 i => by
        have q' : SqL X.K H2 a vs := (f2.trans s2).seq q
        refine ⟨fun d ed => ?_, fun ei => ⟨vs, q', by rw [← rs.length, ei]; exact Nat.le_refl _⟩⟩
        obtain ⟨v, ev, rv⟩ := rs.get ed
        refine ⟨⟨vs, v, q', ev⟩, fun x H3 ⟨e3, y⟩ => ?_⟩
        subst e3
        have := y vs q'
        rw [ev] at this
        cases this
        exact ⟨Hf2, Ext.refl s2, rv.up f2⟩⟩
    | none =>
      have e3 : tpD d = some ds := by cases d <;> first | (cases e2; done) | (cases ef; done) | (cases ef; rfl)
      refine pi_tup h pins s σ H R I ⟨Hf0, H0, Hf, ρ, d, st, e1, fun v Hf' H' x r => ?_⟩
      obtain ⟨a, vs, ea, q, rs⟩ := tp_rep e3 r
      exact ⟨a, ea, ⟨vs, x.s.tup q⟩, k _ Hf' H' x (iter_tup q rs)⟩

noncomputable def rng (lo : Int) (n : Nat) : List D := (List.range n).map fun (i : Nat) => .int (lo + i)
theorem iter_range {G : Gc} {Hf : Hp} {lo : Int} {n : Nat} : IterS G Hf (Itr lo n) (rng lo n) := fun Hf' H' f s i => by
  refine ⟨fun d ed => ?_, fun ei => ?_⟩
  · unfold rng at ed
    rw [List.getElem?_map] at ed
    cases e : (List.range n)[i]? with
    | none => rw [e] at ed; cases ed
    | some j =>
      rw [e] at ed
      obtain ⟨hi, ej⟩ := List.getElem?_eq_some_iff.mp e
      rw [List.length_range] at hi
      rw [List.getElem_range] at ej
      subst ej
      cases ed
      exact ⟨hi, fun x H2 ⟨e2, y⟩ => by subst e2; exact ⟨Hf', Ext.refl s, y⟩⟩
  · unfold rng at ei
    rw [List.length_map, List.length_range] at ei
    exact Nat.le_of_eq ei.symm
noncomputable def rngD : List D → Option (List D)
  | [.int j] => if -(2 ^ 62) ≤ j ∧ j < 2 ^ 62 then some (rng 0 j.toNat) else none
  | [.int i, .int j] => if -(2 ^ 62) ≤ i ∧ i < 2 ^ 62 ∧ -(2 ^ 62) ≤ j ∧ j < 2 ^ 62 then some (rng i (j - i).toNat) else none
  | _ => none
noncomputable def mRng (f : List Sl → Option (List D)) (ρ : List Sl) : Option (List D) := (f ρ).bind rngD
theorem di_range1 {f : List Sl → Option (List D)} (hg : Gl X "range") (hm : X.mg "range" = none) (ha : DA c X [a] f) (hs : starEach [a] X.env = [(false, eval a X.env)] := by rfl) : DI c X tg (.Call (.Name "range" p) [a] [] pos) (mRng f) :=
  PI.imp (pi_range1 hg hm ha.pa hs) fun σ H R q_ => by
    obtain ⟨Hf0, H0, Hf, ρ, ds, st, ef, k⟩ := q_
    unfold mRng at ef
    cases e1 : f ρ with
    | none => rw [e1] at ef; cases ef
    | some as =>
      rw [e1] at ef
      replace ef : rngD as = some ds := ef
      have hl := ha.len ρ as e1
      refine ⟨Hf0, H0, Hf, ρ, as, st, e1, fun vs Hf' H' x r => ?_⟩
      unfold rngD at ef
      split at ef
      · split at ef
        · rename_i j hj
          cases ef
          obtain ⟨v, ev, rv⟩ := r.one
          cases (show v = V.int j from rv)
          exact ⟨j, ev, hj.1, hj.2, k _ Hf' H' x iter_range⟩
        · cases ef
      · cases hl
      · cases ef
theorem di_range2 {f : List Sl → Option (List D)} (hg : Gl X "range") (hm : X.mg "range" = none) (ha : DA c X [a, b] f) (hs : starEach [a, b] X.env = [(false, eval a X.env), (false, eval b X.env)] := by rfl) (hs2 : starEach [b] X.env = [(false, eval b X.env)] := by rfl) : DI c X tg (.Call (.Name "range" p) [a, b] [] pos) (mRng f) :=
  PI.imp (pi_range2 hg hm ha.pa hs hs2) fun σ H R q_ => by
    obtain ⟨Hf0, H0, Hf, ρ, ds, st, ef, k⟩ := q_
    unfold mRng at ef
    cases e1 : f ρ with
    | none => rw [e1] at ef; cases ef
    | some as =>
      rw [e1] at ef
      replace ef : rngD as = some ds := ef
      have hl := ha.len ρ as e1
      refine ⟨Hf0, H0, Hf, ρ, as, st, e1, fun vs Hf' H' x r => ?_⟩
      unfold rngD at ef
      split at ef
      · cases hl
      · split at ef
        · rename_i i j hj
          cases ef
          obtain ⟨v, v', ev, rv, rv'⟩ := r.two
          cases (show v = V.int i from rv)
          cases (show v' = V.int j from rv')
          exact ⟨i, j, ev, hj, k _ Hf' H' x iter_range⟩
        · cases ef
      · cases ef
end
end L2
namespace L2
open PySem PySem.Spec PyProof.Rows
noncomputable def compRo (k : Nat) (js : List Nat) (ρ : List Sl) : List Sl := List.replicate k .no ++ js.map fun j => (ρ[j]?).getD .no
section
variable {G : Gc} {Hf0 H0 Hf H : Hp} {σ : St} {ρ : List Sl}
theorem StOk.weak {ρ' : List Sl} (h : StOk G Hf0 H0 Hf H σ ρ) (hl : ρ'.length = ρ.length) (hw : ∀ (i : Nat) (s : Sl), ρ'[i]? = some s → s = .no ∨ ρ[i]? = some s) : StOk G Hf0 H0 Hf H σ ρ' := by
  refine h.re h.ext hl (fun i v s a b => ?_) fun i s v a b c p => ?_
  · rcases hw i s b with e | e
    · subst e; trivial
    · exact h.at' i v s a e
  · rcases hw i s b with e | e
    · subst e; exact (p.calm rfl).elim
    · exact ⟨s, e, p⟩
theorem rep_app {α : Type} {k : Nat} {x : α} {l : List α} {i : Nat} {y : α} (h : (List.replicate k x ++ l)[i]? = some y) : (i < k ∧ y = x) ∨ (k ≤ i ∧ l[i - k]? = some y) := by
  by_cases hi : i < k
  · left
    rw [List.getElem?_append_left (by simpa using hi), List.getElem?_replicate, if_pos hi] at h
    exact ⟨hi, (Option.some.inj h).symm⟩
  · right
    rw [List.getElem?_append_right (by simpa using Nat.le_of_not_lt hi), List.length_replicate] at h
    exact ⟨Nat.le_of_not_lt hi, h⟩
theorem map_get {α β : Type} {f : α → β} {l : List α} {i : Nat} {y : β} (h : (l.map f)[i]? = some y) : ∃ x, l[i]? = some x ∧ y = f x := by
  rw [List.getElem?_map] at h
  cases e : l[i]? with
  | none => rw [e] at h; cases h
  | some x => rw [e] at h; exact ⟨x, rfl, (Option.some.inj h).symm⟩
theorem nodup_at {js : List Nat} (h : js.Nodup) {i j x : Nat} (a : js[i]? = some x) (b : js[j]? = some x) : i = j := by
  obtain ⟨h1, e1⟩ := List.getElem?_eq_some_iff.mp a
  obtain ⟨h2, e2⟩ := List.getElem?_eq_some_iff.mp b
  exact (List.getElem_inj h).mp (e1.trans e2.symm)
theorem StOk.comp (k : Nat) {js : List Nat} (h : StOk G Hf0 H0 Hf H σ ρ) (hj : js.Nodup) : StOk G Hf0 H0 Hf H (compSt k js σ) (compRo k js ρ) := by
  have own : ∀ (i : Nat) (s : Sl), (compRo k js ρ)[i]? = some s → s.calm = false → ∃ j, k ≤ i ∧ js[i - k]? = some j ∧ ρ[j]? = some s := fun i s a hs => by
    rcases rep_app a with ⟨_, e⟩ | ⟨hi, a⟩
    · subst e; cases hs
    · obtain ⟨j, ej, es⟩ := map_get a
      cases e : ρ[j]? with
      | none => rw [e] at es; subst es; cases hs
      | some t => rw [e] at es; replace es : s = t := es; subst es; exact ⟨j, hi, ej, e⟩
  have val : ∀ (i : Nat) (v : Option V) (j : Nat), (compSt k js σ)[i]? = some v → k ≤ i → js[i - k]? = some j → v = (σ[j]?).getD none := fun i v j a hi ej => by
    rcases rep_app a with ⟨hi', _⟩ | ⟨_, a⟩
    · omega
    · obtain ⟨j', ej', es⟩ := map_get a
      rw [ej] at ej'; cases ej'
      exact es
  refine ⟨h.ext, by simp [compSt, compRo], fun i v s a b => ?_, fun i j s t y z l a b c d p q => ?_⟩
  · rcases rep_app b with ⟨_, e⟩ | ⟨hi, b⟩
    · subst e; trivial
    · obtain ⟨j, ej, es⟩ := map_get b
      have ev := val i v j a hi ej
      cases e : ρ[j]? with
      | none => rw [e] at es; subst es; trivial
      | some t =>
        rw [e] at es
        replace es : s = t := es
        subst es
        obtain ⟨u, eu, q⟩ := h.slot e
        rw [eu] at ev
        replace ev : v = u := ev
        subst ev
        exact q
  · have hs : s.calm = false := by
      cases hc : s.calm with
      | true => exact (p.calm hc).elim
      | false => rfl
    have ht : t.calm = false := by
      cases hc : t.calm with
      | true => exact (q.calm hc).elim
      | false => rfl
    obtain ⟨i', hi, ei, e1⟩ := own i s a hs
    obtain ⟨j', hj', ej, e2⟩ := own j t b ht
    have v1 := val i _ i' c hi ei
    have v2 := val j _ j' d hj' ej
    obtain ⟨u1, eu1, _⟩ := h.slot e1
    obtain ⟨u2, eu2, _⟩ := h.slot e2
    rw [eu1] at v1
    rw [eu2] at v2
    replace v1 : some y = u1 := v1
    replace v2 : some z = u2 := v2
    subst v1 v2
    have := h.dj i' j' s t y z l e1 e2 eu1 eu2 p q
    subst this
    have := nodup_at hj ei ej
    omega
end
noncomputable def compM (h : D → Option (Option D)) : List D → Option (List D)
  | [] => some []
  | d :: ds => (h d).bind fun o => (compM h ds).map fun r => match o with
    | some y => y :: r
    | none => r
theorem compM_cons {h : D → Option (Option D)} {d : D} {ds r : List D} (e : compM h (d :: ds) = some r) : ∃ o r', h d = some o ∧ compM h ds = some r' ∧ r = (match o with | some y => y :: r' | none => r') := by
  unfold compM at e
  cases e1 : h d with
  | none => rw [e1] at e; cases e
  | some o =>
    cases e2 : compM h ds with
    | none => rw [e1, e2] at e; cases e
    | some r' =>
      rw [e1, e2] at e
      cases e
      refine ⟨o, r', rfl, rfl, ?_⟩
      cases o <;> rfl

noncomputable def mTurn (g : D → List Sl → Option (List Sl)) (ft : List Sl → Option Bool) (fe : List Sl → Option D) (ρ : List Sl) (d : D) : Option (Option D) := (g d ρ).bind fun ρ1 => (ft ρ1).bind fun b => if b then (fe ρ1).map some else some none
noncomputable def mComp (k : Nat) (js : List Nat) (fi : List Sl → Option (List D)) (g : D → List Sl → Option (List Sl)) (ft : List Sl → Option Bool) (fe : List Sl → Option D) (ρ : List Sl) : Option (List D) :=
  (fi ρ).bind fun ds => if ds.length ≤ 16777216 then compM (mTurn g ft fe (compRo k js ρ)) ds else none
theorem drop_get {α : Type} {l : List α} {i : Nat} (h : i < l.length) : ∃ x, l[i]? = some x ∧ l.drop i = x :: l.drop (i + 1) := ⟨l[i], by simp [h], (List.drop_eq_getElem_cons h)⟩
noncomputable def DTs (c : Str → Addr) (X : Cx) (ifs : List Expr) (f : List Sl → Option Bool) : Prop := PTs X ifs (tDT (Gx c X) f)
section
variable {c : Str → Addr} {X : Cx} {elt tg iter e : Expr} {ifs : List Expr} {scope : Scope} {pos : Pos} {Nc : List Str} {k : Nat} {js : List Nat}
  {fi : List Sl → Option (List D)} {g : D → List Sl → Option (List Sl)} {ft : List Sl → Option Bool} {fe : List Sl → Option D}
theorem dts_nil : DTs c X [] (fun _ => some true) := PTs.imp pts_nil fun σ H Q q_ => by
  obtain ⟨Hf0, H0, Hf, ρ, b, st, ef, k⟩ := q_
  exact (by cases ef; exact k Hf H (Ext.refl st.sub))
theorem dts_one {f : List Sl → Option Bool} (h : DT c X e f) : DTs c X [e] f := pts_one h
theorem comp_imp {G : Gc} (hj : js.Nodup) (hk : ∀ d ρ ρ' i, g d ρ = some ρ' → k ≤ i → ρ'[i]? = ρ[i]?) (hlen : ∀ d ρ ρ', g d ρ = some ρ' → ρ'.length = ρ.length) {σ : St} {H : Hp} {Q : VK} (h : tDO G (mComp k js fi g ft fe) σ H Q) :
    tComp k js (tDIe G fi) (tDG G g) (tDT G ft) (tD G fe) σ H Q := by
  obtain ⟨Hf0, H0, Hf, ρ, rs, st, ef, kq⟩ := h
  unfold mComp at ef
  cases e1 : fi ρ with
  | none => rw [e1] at ef; cases ef
  | some ds =>
    rw [e1] at ef
    replace ef : (if ds.length ≤ 16777216 then compM (mTurn g ft fe (compRo k js ρ)) ds else none) = some rs := ef
    by_cases hz : ds.length ≤ 16777216
    · rw [if_pos hz] at ef
      refine ⟨Hf0, H0, Hf, ρ, ds, st, e1, fun J Hf1 H1 x1 it => ?_⟩
      refine ⟨fun i m ys σ' H' => m = ds.length - i ∧ i ≤ ds.length ∧ ∃ Hf' as rest, Ext Hf1 H1 Hf' H' ∧ StOk G Hf0 H0 Hf' H' σ' (compRo k js ρ) ∧ Reps G Hf' as ys ∧ compM (mTurn g ft fe (compRo k js ρ)) (ds.drop i) = some rest ∧ rs = as ++ rest ∧ as.length ≤ i,
        ⟨ds.length, rfl, Nat.zero_le _, Hf1, [], rs, Ext.refl x1.s, (st.step x1).comp k hj, rfl, ef, rfl, Nat.le_refl _⟩, ?_⟩
      rintro i m ys σ' H' ⟨rfl, hi, Hf', as, rest, x2, st2, ra, ec, er, hal⟩
      have hys : ys.length ≤ sizeLine := by rw [sizeLine_eq, ← ra.length]; omega
      obtain ⟨it1, it2⟩ := it Hf' H' x2 i
      by_cases hlt : i < ds.length
      · obtain ⟨d, ed, edr⟩ := drop_get hlt
        obtain ⟨go, yl⟩ := it1 d ed
        refine .inr ⟨go, hys, fun ys' σ2 H2 => ds.length - (i + 1) = ds.length - (i + 1) ∧ i + 1 ≤ ds.length ∧ ∃ Hf' as rest, Ext Hf1 H1 Hf' H2 ∧ StOk G Hf0 H0 Hf' H2 σ2 (compRo k js ρ) ∧ Reps G Hf' as ys' ∧ compM (mTurn g ft fe (compRo k js ρ)) (ds.drop (i + 1)) = some rest ∧ rs = as ++ rest ∧ as.length ≤ i + 1,
          fun ys' σ2 H2 w => ⟨ds.length - (i + 1), by omega, w⟩, fun x H2 y => ?_⟩
        obtain ⟨Hf2, x3, rx⟩ := yl x H2 y
        rw [edr] at ec
        obtain ⟨o, r', eo, ec', erest⟩ := compM_cons ec
        unfold mTurn at eo
        cases eg : g d (compRo k js ρ) with
        | none => rw [eg] at eo; cases eo
        | some ρ1 =>
          rw [eg] at eo
          replace eo : (ft ρ1).bind _ = _ := eo
          cases et : ft ρ1 with
          | none => rw [et] at eo; cases eo
          | some b =>
            rw [et] at eo
            replace eo : (if b = true then (fe ρ1).map some else some none) = some o := eo
            refine ⟨Hf0, H0, Hf2, compRo k js ρ, d, ρ1, st2.step x3, rx, eg, fun σ3 st3 => ⟨Hf0, H0, Hf2, ρ1, b, st3, et, fun Hf4 H4 x4 => ?_⟩⟩
            have back : ∀ {Hf5 H5 : Hp}, StOk G Hf0 H0 Hf5 H5 σ3 ρ1 → StOk G Hf0 H0 Hf5 H5 σ3 (compRo k js ρ) := fun {Hf5 H5} s5 => s5.weak (hlen _ _ _ eg).symm fun j s hs => by
              rcases rep_app hs with ⟨_, e⟩ | ⟨hj', _⟩
              · exact .inl e
              · exact .inr (by rw [hk _ _ _ _ eg hj']; exact hs)
            cases b with
            | true =>
              rw [if_pos rfl] at eo
              refine iteT ?_
              cases ee : fe ρ1 with
              | none => rw [ee] at eo; cases eo
              | some y' =>
                rw [ee] at eo
                cases eo
                refine ⟨Hf0, H0, Hf4, ρ1, y', st3.step x4, ee, fun v Hf5 H5 x5 r5 => ?_⟩
                have x := (x3.trans x4).trans x5
                refine ⟨rfl, hlt, Hf5, as ++ [y'], r', x2.trans x, back ((st3.step x4).step x5), (ra.up x.f).append (.cons r5 .nil), ec', ?_, by rw [List.length_append, List.length_singleton]; omega⟩
                rw [er, erest, List.append_assoc]
                rfl
            | false =>
              rw [if_neg Bool.false_ne_true] at eo
              refine iteF ?_
              cases eo
              have x := x3.trans x4
              exact ⟨rfl, hlt, Hf4, as, r', x2.trans x, back (st3.step x4), ra.up x.f, ec', by rw [er, erest], by omega⟩
      · have ei : i = ds.length := by omega
        subst ei
        refine .inl ⟨it2 rfl, hys, fun l h1 h2 => ?_⟩
        rw [List.drop_eq_nil_of_le (Nat.le_refl _)] at ec
        cases ec
        rw [List.append_nil] at er
        subst er
        have x := x1.trans x2
        exact kq l ys Hf' (upd H' l (.lst ys)) (x.trans (Ext.tmp x.s h2)) (x.h.free h2) (x.s.free h2) upd_same ra
    · rw [if_neg hz] at ef
      cases ef
theorem do_comp (k : Nat) (js : List Nat) (Nc : List Str) (hc : X.calm = true) (hi : DIe c X tg iter fi) (hg : ∀ cl C ex s₂ H₂, DG c (X.comp scope Nc cl C ex s₂ H₂) tg k g) (ht : ∀ cl C ex s₂ H₂, DTs c (X.comp scope Nc cl C ex s₂ H₂) ifs ft)
    (he : ∀ cl C ex s₂ H₂, DE c (X.comp scope Nc cl C ex s₂ H₂) elt fe) (ck : compChk scope X.env.scope.names X.N Nc k js = true := by rfl) (hs : ∀ x, foldedSetIterable iter X.env x = pure x := by intro _; rfl) (hj : js.Nodup := by decide) :
    DO c X (.ListComp elt [⟨tg, iter, ifs, 0⟩] scope pos) (mComp k js fi g ft fe) :=
  PE.imp (pe_comp (g := tDG (Gx c X) g) (tt := tDT (Gx c X) ft) (te := tD (Gx c X) fe) k js Nc hc hi (fun cl C ex s₂ H₂ => (hg cl C ex s₂ H₂).pg) ht he ck hs) fun σ H Q h =>
    comp_imp hj (hg [] 0 [] X.s₀ X.H₀).keep (hg [] 0 [] X.s₀ X.H₀).len h
end
section
variable {c : Str → Addr} {X : Cx} {tg : Expr} {scope : Scope} {Nc : List Str} {cl : List (Str × Addr)} {C : Addr} {ex : List Addr} {s₂ : Shared} {H₂ : Hp}
theorem dvc (i : Nat) {x : Str} {pos : Pos} (hN : Nc[i]? = some x := by rfl) (hv : Vis scope x := by first | exact Or.inl rfl | exact Or.inr (Or.inl rfl) | exact Or.inr (Or.inr rfl)) (hd : (x == ("__debug__" : Str)) = false := by decide)
    (hcd : (x == ("__classdict__" : Str)) = false := by decide) : DE c (X.comp scope Nc cl C ex s₂ H₂) (.Name x pos) (mVar i) := de_of_var (pvc i hN hv hd hcd)
theorem dvcC (i : Nat) {x : Str} {pos : Pos} (hN : Nc[i]? = some x := by rfl) (hv : Vis scope x := by first | exact Or.inl rfl | exact Or.inr (Or.inl rfl) | exact Or.inr (Or.inr rfl)) (hd : (x == ("__debug__" : Str)) = false := by decide)
    (hcd : (x == ("__classdict__" : Str)) = false := by decide) : DC c (X.comp scope Nc cl C ex s₂ H₂) (.Name x pos) (mVarC i) := dc_of_var (pvc i hN hv hd hcd)
theorem dgc (i k : Nat) {x : Str} {pos : Pos} (hk : i < k := by decide) (hN : Nc.Nodup := by decide +kernel) (hi : Nc[i]? = some x := by rfl) (hl : scope.names.lookup x = some .local := by rfl) : DG c (X.comp scope Nc cl C ex s₂ H₂) (.Name x pos) k (gSet i) :=
  dg_of (pgc i hN hi hl) hk
end
inductive Fl where
  | nx (ρ : List Sl)
  | bk (ρ : List Sl)
  | ct (ρ : List Sl)
  | rt (d : D)
  | rtO (ds : List D)
  
  | rtS (d : D) (ρ : List Sl)
  
  | rtT (o : O)
noncomputable def EndOk (G : Gc) (Hf0 H0 Hf : Hp) (E : Ends) : Fl → Prop
  | .nx ρ' => ∀ σ' Hf' H', Same Hf Hf' → StOk G Hf0 H0 Hf' H' σ' ρ' → E.nx σ' H'
  | .bk ρ' => ∀ σ' Hf' H', Same Hf Hf' → StOk G Hf0 H0 Hf' H' σ' ρ' → E.bk σ' H'
  | .ct ρ' => ∀ σ' Hf' H', Same Hf Hf' → StOk G Hf0 H0 Hf' H' σ' ρ' → E.ct σ' H'
  | .rt d => ∀ v Hf' H', Ext Hf0 H0 Hf' H' → Rep G Hf' d v → E.rt v H'
  | .rtO ds => ∀ l vs Hf' H', Ext Hf0 H0 Hf' H' → H0 l = none → Hf' l = none → H' l = some (.lst vs) → Reps G Hf' ds vs → E.rt (.ref l) H'
  | .rtS d ρ => ∀ v σ' Hf' H', StOk G Hf0 H0 Hf' H' σ' ρ → Rep G Hf' d v → E.rt v H'
  | .rtT o => ∀ u fp Hf' H', Ext Hf0 H0 Hf' H' → OT G Hf' H' o u fp → fp.Nodup → (∀ a ∈ fp, H0 a = none ∧ Hf' a = none) → E.rt u H'
noncomputable def tDS (G : Gc) (F : List Sl → Option Fl) : TS := fun E σ H => ∃ Hf0 H0 Hf ρ o, StOk G Hf0 H0 Hf H σ ρ ∧ F ρ = some o ∧ EndOk G Hf0 H0 Hf E o
noncomputable def DS (c : Str → Addr) (X : Cx) (st : Stmt) (F : List Sl → Option Fl) : Prop := PS X st (tDS (Gx c X) F)
noncomputable def DSs (c : Str → Addr) (X : Cx) (st : List Stmt) (F : List Sl → Option Fl) : Prop := PSs X st (tDS (Gx c X) F)
noncomputable def mNext (ρ : List Sl) : Option Fl := some (.nx ρ)
noncomputable def mSeq (F F' : List Sl → Option Fl) (ρ : List Sl) : Option Fl := (F ρ).bind fun o => match o with
  | .nx ρ' => F' ρ'
  | o => some o
noncomputable def mIfS (t : List Sl → Option Bool) (F F' : List Sl → Option Fl) (ρ : List Sl) : Option Fl := (t ρ).bind fun b => if b then F ρ else F' ρ
noncomputable def mSet (i : Nat) (f : List Sl → Option D) (ρ : List Sl) : Option Fl := (f ρ).map fun d => .nx (ρ.set i (.im d))
noncomputable def mSetO (i : Nat) (f : List Sl → Option (List D)) (ρ : List Sl) : Option Fl := (f ρ).map fun d => .nx (ρ.set i (.own d))
noncomputable def mRet (f : List Sl → Option D) (ρ : List Sl) : Option Fl := (f ρ).map .rt
noncomputable def mRetO (f : List Sl → Option (List D)) (ρ : List Sl) : Option Fl := (f ρ).map .rtO
noncomputable def mRetV (i : Nat) (ρ : List Sl) : Option Fl := match ρ[i]? with
  | some (.im d) => some (.rt d)
  | some (.own xs) => some (.rtO xs)
  | _ => none
noncomputable def mForL (g : D → List Sl → Option (List Sl)) (F : List Sl → Option Fl) : List D → List Sl → Option Fl
  | [], ρ => some (.nx ρ)
  | d :: ds, ρ => (g d ρ).bind fun ρ1 => (F ρ1).bind fun o => match o with
    | .nx ρ2 => mForL g F ds ρ2
    | .ct ρ2 => mForL g F ds ρ2
    | .bk ρ2 => some (.nx ρ2)
    | .rt d => some (.rt d)
    | .rtO d => some (.rtO d)
    | .rtS d ρ2 => some (.rtS d ρ2)
    | .rtT o => some (.rtT o)
noncomputable def mFor (fi : List Sl → Option (List D)) (g : D → List Sl → Option (List Sl)) (F : List Sl → Option Fl) (ρ : List Sl) : Option Fl := (fi ρ).bind fun ds => mForL g F ds ρ
noncomputable def mApp (i : Nat) (f : List Sl → Option D) (ρ : List Sl) : Option Fl := (f ρ).bind fun d => match ρ[i]? with
  | some (.own xs) => if xs.length < 16777216 then some (.nx (ρ.set i (.own (xs ++ [d])))) else none
  | _ => none
section
variable {c : Str → Addr} {X : Cx} {st : Stmt} {sts a b : List Stmt} {e cd tg iter : Expr} {pos : Pos} {F F' : List Sl → Option Fl}
theorem dss_nil : DSs c X [] mNext := PSs.imp pss_nil fun E σ H q_ => by
  obtain ⟨Hf0, H0, Hf, ρ, o, so, ef, k⟩ := q_
  exact (by cases ef; exact k σ Hf H (Same.refl _) so)
theorem EndOk.up {G : Gc} {Hf0 H0 Hf Hf' : Hp} {E : Ends} {o : Fl} (h : EndOk G Hf0 H0 Hf E o) (s : Same Hf Hf') : EndOk G Hf0 H0 Hf' E o := by
  cases o with
  | nx ρ => exact fun σ' Hf2 H2 s2 q => h σ' Hf2 H2 (s.trans s2) q
  | bk ρ => exact fun σ' Hf2 H2 s2 q => h σ' Hf2 H2 (s.trans s2) q
  | ct ρ => exact fun σ' Hf2 H2 s2 q => h σ' Hf2 H2 (s.trans s2) q
  | rt d => exact h
  | rtO d => exact h
  | rtS d ρ => exact h
  | rtT o => exact h
theorem dss_cons (h1 : DS c X st F) (h2 : DSs c X sts F') : DSs c X (st :: sts) (mSeq F F') := PSs.imp (pss_cons h1 h2) fun E σ H q_ => by
  obtain ⟨Hf0, H0, Hf, ρ, o, so, ef, k⟩ := q_
  unfold mSeq at ef
  cases e1 : F ρ with
  | none => rw [e1] at ef; cases ef
  | some o1 =>
    rw [e1] at ef
    refine ⟨Hf0, H0, Hf, ρ, o1, so, e1, ?_⟩
    cases o1 with
    | nx ρ1 => exact fun σ1 Hf1 H1 s1 so1 => ⟨Hf0, H0, Hf1, ρ1, o, so1, ef, k.up s1⟩
    | bk ρ1 => cases ef; exact k
    | ct ρ1 => cases ef; exact k
    | rt d => cases ef; exact k
    | rtO d => cases ef; exact k
    | rtS d ρ1 => cases ef; exact k
    | rtT o' => cases ef; exact k
theorem dss_one (h1 : DS c X st F) : DSs c X [st] F := pss_one h1
theorem ds_if {t : List Sl → Option Bool} (hc : DT c X cd t) (ha : DSs c X a F) (hb : DSs c X b F') : DS c X (.If cd a b pos) (mIfS t F F') := PS.imp (ps_if hc ha hb) fun E σ H q_ => by
  obtain ⟨Hf0, H0, Hf, ρ, o, so, ef, k⟩ := q_
  unfold mIfS at ef
  cases e1 : t ρ with
  | none => rw [e1] at ef; cases ef
  | some x =>
    rw [e1] at ef
    refine ⟨Hf0, H0, Hf, ρ, x, so, e1, fun Hf1 H1 x1 => ?_⟩
    cases x with
    | true => rw [if_pos rfl]; exact ⟨Hf0, H0, Hf1, ρ, o, so.step x1, ef, k.up x1.f⟩
    | false => rw [if_neg Bool.false_ne_true]; exact ⟨Hf0, H0, Hf1, ρ, o, so.step x1, ef, k.up x1.f⟩
theorem ds_set_of {te : TE} {i : Nat} {f : List Sl → Option D} (hp : PS X st (tAsg te (gName i))) (hi : ∀ σ H Q, tD (Gx c X) f σ H Q → te σ H Q) : DS c X st (mSet i f) := PS.imp hp fun E σ H q_ => by
  obtain ⟨Hf0, H0, Hf, ρ, o, so, ef, k⟩ := q_
  unfold mSet at ef
  cases e1 : f ρ with
  | none => rw [e1] at ef; cases ef
  | some d =>
    rw [e1] at ef
    cases ef
    exact hi _ _ _ ⟨Hf0, H0, Hf, ρ, d, so, e1, fun v Hf' H' x r => k _ Hf' H' x.f ((so.step x).setIm r)⟩
theorem ds_setO_of {te : TE} {i : Nat} {f : List Sl → Option (List D)} (hp : PS X st (tAsg te (gName i))) (hi : ∀ σ H Q, tDO (Gx c X) f σ H Q → te σ H Q) : DS c X st (mSetO i f) := PS.imp hp fun E σ H q_ => by
  obtain ⟨Hf0, H0, Hf, ρ, o, so, ef, k⟩ := q_
  unfold mSetO at ef
  cases e1 : f ρ with
  | none => rw [e1] at ef; cases ef
  | some d =>
    rw [e1] at ef
    cases ef
    exact hi _ _ _ ⟨Hf0, H0, Hf, ρ, d, so, e1, fun l vs Hf' H' x hn hf hl r => k _ Hf' H' x.f (so.setOwn (s := .own d) rfl x hn hf ⟨vs, hl, r⟩)⟩
theorem ds_set (i : Nat) {x : Str} {f : List Sl → Option D} {pos' : Pos} (hN : X.N.Nodup) (he : DE c X e f) (hi : X.N[i]? = some x := by rfl) (hx : Loc X.env.scope x := by first | exact Or.inl rfl | exact Or.inr rfl) (hs : swapsWith e (some (.Name x pos')) pos.line X.env = pure false := by rfl) (hf : X.fn x = true ∨ X.env.scope.names.lookup x = some .local := by first | exact .inl rfl | exact .inr rfl) :
    DS c X (.Assign [.Name x pos'] e pos) (mSet i f) := ds_set_of (ps_set hN hi hx he hs hf) fun _ _ _ h => h
theorem ds_setO (i : Nat) {x : Str} {f : List Sl → Option (List D)} {pos' : Pos} (hN : X.N.Nodup) (he : DO c X e f) (hi : X.N[i]? = some x := by rfl) (hx : Loc X.env.scope x := by first | exact Or.inl rfl | exact Or.inr rfl) (hs : swapsWith e (some (.Name x pos')) pos.line X.env = pure false := by rfl) (hf : X.fn x = true ∨ X.env.scope.names.lookup x = some .local := by first | exact .inl rfl | exact .inr rfl) :
    DS c X (.Assign [.Name x pos'] e pos) (mSetO i f) := ds_setO_of (ps_set hN hi hx he hs hf) fun _ _ _ h => h
theorem tDO_tD {G : Gc} {f : List Sl → Option (List D)} {σ : St} {H : Hp} {Q : VK} (h : tD G (mLst f) σ H Q) : tDO G f σ H Q := by
  obtain ⟨Hf0, H0, Hf, ρ, d, st, ef, k⟩ := h
  unfold mLst at ef
  cases ed : f ρ with
  | none => rw [ed] at ef; cases ef
  | some ds =>
    rw [ed] at ef
    have ef : D.lst ds = d := Option.some.inj ef
    subst ef
    exact ⟨Hf0, H0, Hf, ρ, ds, st, ed, fun l vs Hf' H' x hn hf hl r => k _ (upd Hf' l (.lst vs)) H' (x.fix hn hf hl) ⟨l, vs, rfl, upd_same, r.up (same_upd hf)⟩⟩

theorem ds_setCompI (i : Nat) {x : Str} {pos' spos : Pos} {elt : Expr} {ifs : List Expr} {scope : Scope} {fi : List Sl → Option (List D)} {g : D → List Sl → Option (List Sl)} {ft : List Sl → Option Bool} {fe : List Sl → Option D} (k : Nat) (js : List Nat) (Nc : List Str) (hN : X.N.Nodup) (hc : X.calm = true) (hi : DIe c X tg iter fi)
    (hg : ∀ cl C ex s₂ H₂, DG c (X.comp scope Nc cl C ex s₂ H₂) tg k g) (ht : ∀ cl C ex s₂ H₂, DTs c (X.comp scope Nc cl C ex s₂ H₂) ifs ft) (he : ∀ cl C ex s₂ H₂, DE c (X.comp scope Nc cl C ex s₂ H₂) elt fe)
    (hi' : X.N[i]? = some x := by rfl) (hx : Loc X.env.scope x := by first | exact Or.inl rfl | exact Or.inr rfl)
    (hsw : swapsWith (.ListComp elt [⟨tg, iter, ifs, 0⟩] scope pos) (some (.Name x pos')) spos.line X.env = pure true := by rfl)
    (ck : compChk scope X.env.scope.names X.N Nc k js = true := by rfl) (hs : ∀ x, foldedSetIterable iter X.env x = pure x := by intro _; rfl) (hj : js.Nodup := by decide)
    (hf : X.fn x = true ∨ X.env.scope.names.lookup x = some .local := by first | exact .inl rfl | exact .inr rfl) :
    DS c X (.Assign [.Name x pos'] (.ListComp elt [⟨tg, iter, ifs, 0⟩] scope pos) spos) (mSet i (mLst (mComp k js fi g ft fe))) :=
  ds_set_of (ps_setComp (g := tDG (Gx c X) g) (tt := tDT (Gx c X) ft) (te := tD (Gx c X) fe) k js Nc hN hi' hx hc hi (fun cl C ex s₂ H₂ => (hg cl C ex s₂ H₂).pg) ht he hsw ck hs hf) fun σ H Q h => comp_imp hj (hg [] 0 [] X.s₀ X.H₀).keep (hg [] 0 [] X.s₀ X.H₀).len (tDO_tD h)
theorem ds_ret {f : List Sl → Option D} (he : DE c X e f) : DS c X (.Return (some e) pos) (mRet f) := PS.imp (ps_ret he) fun E σ H q_ => by
  obtain ⟨Hf0, H0, Hf, ρ, o, so, ef, k⟩ := q_
  unfold mRet at ef
  cases e1 : f ρ with
  | none => rw [e1] at ef; cases ef
  | some d =>
    rw [e1] at ef
    cases ef
    exact ⟨Hf0, H0, Hf, ρ, d, so, e1, fun v Hf' H' x r => k v Hf' H' (so.ext.trans x) r⟩
theorem ds_retO {f : List Sl → Option (List D)} (he : DO c X e f) : DS c X (.Return (some e) pos) (mRetO f) := PS.imp (ps_ret he) fun E σ H q_ => by
  obtain ⟨Hf0, H0, Hf, ρ, o, so, ef, k⟩ := q_
  unfold mRetO at ef
  cases e1 : f ρ with
  | none => rw [e1] at ef; cases ef
  | some d =>
    rw [e1] at ef
    cases ef
    exact ⟨Hf0, H0, Hf, ρ, d, so, e1, fun l vs Hf' H' x hn hf hl r => k l vs Hf' H' (so.ext.trans x) (so.ext.h.free hn) hf hl r⟩
theorem ds_retV_of {i : Nat} (he : PE X e (tVar i)) : DS c X (.Return (some e) pos) (mRetV i) := PS.imp (ps_ret he) fun E σ H q_ => by
  obtain ⟨Hf0, H0, Hf, ρ, o, so, ef, k⟩ := q_
  unfold mRetV at ef
  cases es : ρ[i]? with
  | none => rw [es] at ef; cases ef
  | some s =>
    rw [es] at ef
    cases s with
    | im d =>
      cases ef
      obtain ⟨v, e1, r⟩ := so.imm es
      exact ⟨_, e1, k v Hf H so.ext r⟩
    | own xs =>
      cases ef
      obtain ⟨l, e1, h0, hf, vs, q, r⟩ := so.ownAt rfl es
      exact ⟨_, e1, k l vs Hf H so.ext h0 hf q r⟩
    | _ => cases ef
theorem ds_retV (i : Nat) {x : Str} {p : Pos} (hN : X.N[i]? = some x := by rfl) (hv : Vis X.env.scope x := by first | exact Or.inl rfl | exact Or.inr (Or.inl rfl) | exact Or.inr (Or.inr rfl)) (hd : (x == ("__debug__" : Str)) = false := by decide)
    (hcd : (x == ("__classdict__" : Str)) = false := by decide) : DS c X (.Return (some (.Name x p)) pos) (mRetV i) := ds_retV_of (pe_var hN hv hd hcd)
theorem ds_for {fi : List Sl → Option (List D)} {g : D → List Sl → Option (List Sl)} {kk : Nat} (hp : PassesOwn (model X.prog X.w) X.A X.env X.xe) (hc : X.calm = true) (hi : DI c X tg iter fi) (hg : DG c X tg kk g) (hb : DSs c X a F) (hs : ∀ x, foldedSetIterable iter X.env x = pure x := by intro _; rfl) :
    DS c X (.For tg iter a [] pos) (mFor fi g F) := PS.imp (ps_for hp hc hi hg.pg hb hs) fun E σ H q_ => by
  obtain ⟨Hf0, H0, Hf, ρ, o, so, ef, k⟩ := q_
  unfold mFor at ef
  cases e1 : fi ρ with
  | none => rw [e1] at ef; cases ef
  | some ds =>
    rw [e1] at ef
    replace ef : mForL g F ds ρ = some o := ef
    refine ⟨Hf0, H0, Hf, ρ, ds, so, e1, fun J Hf1 H1 x1 it => ?_⟩
    refine ⟨fun i m σ' H' => m = ds.length - i ∧ i ≤ ds.length ∧ ∃ Hf' ρ', StOk (Gx c X) Hf0 H0 Hf' H' σ' ρ' ∧ Same Hf1 Hf' ∧ mForL g F (ds.drop i) ρ' = some o, ⟨ds.length, rfl, Nat.zero_le _, Hf1, ρ, so.step x1, Same.refl _, ef⟩, ?_⟩
    rintro i m σ' H' ⟨rfl, hi', Hf', ρ', so', s1, em⟩
    obtain ⟨it1, it2⟩ := it Hf' H' s1 so'.sub i
    by_cases hlt : i < ds.length
    · obtain ⟨d, ed, edr⟩ := drop_get hlt
      obtain ⟨go, yl⟩ := it1 d ed
      rw [edr] at em
      unfold mForL at em
      refine .inr ⟨go, fun σ2 H2 => ds.length - (i + 1) = ds.length - (i + 1) ∧ i + 1 ≤ ds.length ∧ ∃ Hf' ρ', StOk (Gx c X) Hf0 H0 Hf' H2 σ2 ρ' ∧ Same Hf1 Hf' ∧ mForL g F (ds.drop (i + 1)) ρ' = some o, fun σ2 H2 w => ⟨ds.length - (i + 1), by omega, w⟩, fun x H2 y => ?_⟩
      obtain ⟨Hf2, x2, rx⟩ := yl x H2 y
      cases eg : g d ρ' with
      | none => rw [eg] at em; cases em
      | some ρ1 =>
        rw [eg] at em
        replace em : (F ρ1).bind _ = _ := em
        cases eF : F ρ1 with
        | none => rw [eF] at em; cases em
        | some o1 =>
          rw [eF] at em
          refine ⟨Hf0, H0, Hf2, ρ', d, ρ1, so'.step x2, rx, eg, fun σ3 so3 => ⟨Hf0, H0, Hf2, ρ1, o1, so3, eF, ?_⟩⟩
          have sf := s1.trans x2.f
          cases o1 with
          | nx ρ2 => exact fun σ4 Hf4 H4 s4 so4 => ⟨rfl, hlt, Hf4, ρ2, so4, sf.trans s4, em⟩
          | ct ρ2 => exact fun σ4 Hf4 H4 s4 so4 => ⟨rfl, hlt, Hf4, ρ2, so4, sf.trans s4, em⟩
          | bk ρ2 => cases em; exact fun σ4 Hf4 H4 s4 so4 => k σ4 Hf4 H4 ((x1.f.trans sf).trans s4) so4
          | rt d => cases em; exact k
          | rtO d => cases em; exact k
          | rtS d ρ2 => cases em; exact k
          | rtT o' => cases em; exact k
    · have ei : i = ds.length := by omega
      subst ei
      rw [List.drop_eq_nil_of_le (Nat.le_refl _)] at em
      cases em
      exact .inl ⟨it2 rfl, k σ' Hf' H' (x1.f.trans s1) so'⟩
theorem ds_app_of {i : Nat} {f : List Sl → Option D} (h : PS X st (tDrop (tBM X.K "list" rAppend (tVar i) (tCons (tD (Gx c X) f) tNil)))) : DS c X st (mApp i f) := PS.imp h fun E σ H q_ => by
  obtain ⟨Hf0, H0, Hf, ρ, o, so, ef, k⟩ := q_
  unfold mApp at ef
  cases e1 : f ρ with
  | none => rw [e1] at ef; cases ef
  | some d =>
    rw [e1] at ef
    replace ef : (match ρ[i]? with | some (.own xs) => if xs.length < 16777216 then some (Fl.nx (ρ.set i (.own (xs ++ [d])))) else none | _ => none) = some o := ef
    split at ef
    · rename_i xs es
      split at ef
      · rename_i hl
        cases ef
        obtain ⟨l, e2, h0, hf, vs, q, r⟩ := so.ownAt rfl es
        refine ⟨_, e2, .inl ⟨rfl, _, SqL.of q⟩, Hf0, H0, Hf, ρ, d, so, e1, fun v Hf' H' x r' => ?_⟩
        have so' := so.step x
        have q' := x.h _ _ q
        refine ⟨l, vs, v, rfl, rfl, q', by rw [sizeLine_eq, ← r.length]; exact hl, k σ Hf' _ x.f (so'.mutd (s := .own xs) (s' := .own (xs ++ [d])) rfl rfl es e2 ⟨vs ++ [v], upd_same, (r.up x.f).append (.cons r' .nil)⟩)⟩
      · cases ef
    · cases ef
end
noncomputable def retD : Fl → Option D
  | .rt d => some d
  | .rtO ds => some (.lst ds)
  | .rtS d _ => some d
  | .nx _ => some .non
  | _ => none
noncomputable def args0 (n : Nat) (ds : List D) : List Sl := ds.map .im ++ List.replicate (n - ds.length) .no
noncomputable def runD (n : Nat) (F : List Sl → Option Fl) (ds : List D) : Option D := (F (args0 n ds)).bind retD
noncomputable def runO (n : Nat) (F : List Sl → Option Fl) (ds : List D) : Option (List D) := (F (args0 n ds)).bind fun o => match o with
  | .rtO ds => some ds
  | _ => none
noncomputable def spD (G : Gc) (n : Nat) (m : List D → Option D) : Sp := fun vs H Q _ => ∃ Hf ds d, Same Hf H ∧ Reps G Hf ds vs ∧ ds.length = n ∧ m ds = some d ∧ ∀ v Hf' H', Ext Hf H Hf' H' → Rep G Hf' d v → Q v H'
noncomputable def spO (G : Gc) (n : Nat) (m : List D → Option (List D)) : Sp := fun vs H Q _ => ∃ Hf ds rs, Same Hf H ∧ Reps G Hf ds vs ∧ ds.length = n ∧ m ds = some rs ∧
  ∀ l us Hf' H', Ext Hf H Hf' H' → H l = none → Hf' l = none → H' l = some (.lst us) → Reps G Hf' rs us → Q (.ref l) H'
theorem StOk.start {G : Gc} {Hf H : Hp} {N : List Str} {ds : List D} {vs : List V} (s0 : Same Hf H) (r : Reps G Hf ds vs) : StOk G Hf H Hf H (start N vs) (args0 N.length ds) := by
  have hl := r.length
  have im : ∀ (i : Nat) (s : Sl), (args0 N.length ds)[i]? = some s → s = .no ∨ ∃ d, ds[i]? = some d ∧ s = .im d := fun i s b => by
    unfold args0 at b
    by_cases hi : i < ds.length
    · rw [List.getElem?_append_left (by simpa using hi)] at b
      obtain ⟨d, ed, es⟩ := map_get b
      exact .inr ⟨d, ed, es⟩
    · rw [List.getElem?_append_right (by simpa using Nat.le_of_not_lt hi)] at b
      obtain ⟨_, e⟩ := List.getElem?_eq_some_iff.mp b
      rw [List.getElem_replicate] at e
      exact .inl e.symm
  refine ⟨Ext.refl s0, by simp [L2.start, args0, hl], fun i v s a b => ?_, fun i j s t v w l a b c d p q => ?_⟩
  · rcases im i s b with e | ⟨d, ed, es⟩
    · subst e; trivial
    · subst es
      obtain ⟨u, eu, ru⟩ := r.get ed
      refine ⟨u, ?_, ru⟩
      have hi : i < vs.length := (List.getElem?_eq_some_iff.mp eu).1
      unfold L2.start at a
      rw [List.getElem?_append_left (by simpa using hi), List.getElem?_map, eu] at a
      exact (Option.some.inj a).symm
  · rcases im i s a with e | ⟨d, ed, es⟩
    · subst e; exact (p.calm rfl).elim
    · subst es; exact (p.calm rfl).elim
section
variable {P : Program} {w : World} {K : PySem.W.Frag} {mg : Str → Option Value} {base : Heap} {c : Str → Addr}
theorem fn_D {x qual : Str} {st : Stmt} {f : Addr} {fd : FuncData} {N ps : List Str} {k : Nat} {F : List Sl → Option Fl} (Fn : Fun K x qual st f fd) (S : FnScope N ps (defScope st))
    (h : ∀ (cdv : Value) (A : Around) (outer : List Env) (s : Shared) (H : Hp) (E : XK), Room k (A.deeper (envOfC qual (defScope st) s.heap.objs.size f cdv)) → DSs c (cxOf CX0 P w K mg base N qual (defScope st) f cdv A outer s H E).nox (defBody st) F) :
    FnOk P w K mg base CX0 (k + 1) f fd ps (spD ⟨K, c⟩ ps.length (runD N.length F)) := by
  refine Fn.ok S (fun vs H Q E ⟨Hf, ds, d, s0, r, hl, _⟩ => by rw [← r.length]; exact hl) fun cdv A outer s H vs Q E hr ⟨Hf, ds, d, s0, r, hl, e, kq⟩ => ⟨_, h cdv A outer s H E hr, ?_⟩
  unfold runD at e
  cases eF : F (args0 N.length ds) with
  | none => rw [eF] at e; cases e
  | some o =>
    rw [eF] at e
    replace e : retD o = some d := e
    refine ⟨Hf, H, Hf, _, o, StOk.start s0 r, eF, ?_⟩
    cases o with
    | nx ρ => cases e; exact fun σ' Hf' H' _ so => kq _ Hf' H' so.ext rfl
    | bk ρ => cases e
    | ct ρ => cases e
    | rt d => cases e; exact kq
    | rtO rs => cases e; exact fun l vs Hf' H' x hn hf hl r => kq _ (upd Hf' l (.lst vs)) H' (x.fix hn hf hl) ⟨l, vs, rfl, upd_same, r.up (same_upd hf)⟩
    | rtS d ρ => cases e; exact fun v σ' Hf' H' so r => kq v Hf' H' so.ext r
    | rtT o => cases e
theorem fn_O {x qual : Str} {st : Stmt} {f : Addr} {fd : FuncData} {N ps : List Str} {k : Nat} {F : List Sl → Option Fl} (Fn : Fun K x qual st f fd) (S : FnScope N ps (defScope st))
    (h : ∀ (cdv : Value) (A : Around) (outer : List Env) (s : Shared) (H : Hp) (E : XK), Room k (A.deeper (envOfC qual (defScope st) s.heap.objs.size f cdv)) → DSs c (cxOf CX0 P w K mg base N qual (defScope st) f cdv A outer s H E).nox (defBody st) F) :
    FnOk P w K mg base CX0 (k + 1) f fd ps (spO ⟨K, c⟩ ps.length (runO N.length F)) := by
  refine Fn.ok S (fun vs H Q E ⟨Hf, ds, d, s0, r, hl, _⟩ => by rw [← r.length]; exact hl) fun cdv A outer s H vs Q E hr ⟨Hf, ds, rs, s0, r, hl, e, kq⟩ => ⟨_, h cdv A outer s H E hr, ?_⟩
  unfold runO at e
  cases eF : F (args0 N.length ds) with
  | none => rw [eF] at e; cases e
  | some o =>
    rw [eF] at e
    refine ⟨Hf, H, Hf, _, o, StOk.start s0 r, eF, ?_⟩
    cases o with
    | rtO rs' => cases e; exact kq
    | _ => cases e
end
section
variable {c : Str → Addr} {X : Cx} {k : Nat} {f C : Addr} {fd : FuncData} {ps : List Str} {x : Str} {p pos apos : Pos} {e o : Expr} {es : List Expr} {fa : List Sl → Option (List D)}
theorem de_call {m : List D → Option D} (F : FnOk X.prog X.w X.K X.mg X.base CX0 k f fd ps (spD (Gx c X) ps.length m)) (hr : Room k X.A) (hg : Gl X x) (hm : X.mg x = some (.ref f)) (hk : PySem.W.keepIn X.K (.ref f) = true) (hb : Binds X.K fd ps []) (ha : DA c X (e :: es) fa)
    (hl : (e :: es).length = ps.length := by rfl) (hdb : (x == ("__debug__" : Str)) = false := by decide) (he : starEach (e :: es) X.env = (false, eval e X.env) :: starEach es X.env := by rfl) (hpl : (backTo pos (starEach es X.env)).any (·.1) = false := by rfl) :
    DE c X (.Call (.Name x p) (e :: es) [] pos) (mCall m fa) := PE.imp (pe_call F hr hg hm hk hb .nil pass0 ha.pa hdb he hpl) fun σ H Q q_ => by
  obtain ⟨Hf0, H0, Hf, ρ, d, st, ef, kq⟩ := q_
  obtain ⟨ds, e1, e2⟩ := mCall_is ef
  refine ⟨Hf0, H0, Hf, ρ, ds, st, e1, fun vs Hf' H' x r => ?_⟩
  dsimp only
  rw [List.append_nil]
  exact ⟨Hf', ds, d, x.s, r, (ha.len ρ ds e1).trans hl, e2, fun v Hf2 H2 x2 r2 => kq v Hf2 H2 (x.trans x2) r2⟩
noncomputable def mCallO (m : List D → Option (List D)) (f : List Sl → Option (List D)) (ρ : List Sl) : Option (List D) := (f ρ).bind m
theorem do_call {m : List D → Option (List D)} (F : FnOk X.prog X.w X.K X.mg X.base CX0 k f fd ps (spO (Gx c X) ps.length m)) (hr : Room k X.A) (hg : Gl X x) (hm : X.mg x = some (.ref f)) (hk : PySem.W.keepIn X.K (.ref f) = true) (hb : Binds X.K fd ps []) (ha : DA c X (e :: es) fa)
    (hl : (e :: es).length = ps.length := by rfl) (hdb : (x == ("__debug__" : Str)) = false := by decide) (he : starEach (e :: es) X.env = (false, eval e X.env) :: starEach es X.env := by rfl) (hpl : (backTo pos (starEach es X.env)).any (·.1) = false := by rfl) :
    DO c X (.Call (.Name x p) (e :: es) [] pos) (mCallO m fa) := PE.imp (pe_call F hr hg hm hk hb .nil pass0 ha.pa hdb he hpl) fun σ H Q q_ => by
  obtain ⟨Hf0, H0, Hf, ρ, rs, st, ef, kq⟩ := q_
  unfold mCallO at ef
  cases e1 : fa ρ with
  | none => rw [e1] at ef; cases ef
  | some ds =>
    rw [e1] at ef
    refine ⟨Hf0, H0, Hf, ρ, ds, st, e1, fun vs Hf' H' x r => ?_⟩
    dsimp only
    rw [List.append_nil]
    exact ⟨Hf', ds, rs, x.s, r, (ha.len ρ ds e1).trans hl, ef, fun l us Hf2 H2 x2 hn hf hl' r2 => kq l us Hf2 H2 (x.trans x2) (x.h.free hn) hf hl' r2⟩

noncomputable def mCallS (m : List D → Option D) (f : List Sl → Option (List D)) (ρ : List Sl) : Option D := (f ρ).bind fun ds => (m ds).bind fun d => if d.scalar then some d else none
theorem de_callS {m : List D → Option D} (F : FnOk X.prog X.w X.K X.mg X.base CX0 k f fd ps (spD (Gx c X) ps.length m)) (hr : Room k X.A) (hg : Gl X x) (hm : X.mg x = some (.ref f)) (hk : PySem.W.keepIn X.K (.ref f) = true) (hb : Binds X.K fd ps []) (ha : DAB c X (e :: es) fa)
    (hl : (e :: es).length = ps.length := by rfl) (hdb : (x == ("__debug__" : Str)) = false := by decide) (he : starEach (e :: es) X.env = (false, eval e X.env) :: starEach es X.env := by rfl) (hpl : (backTo pos (starEach es X.env)).any (·.1) = false := by rfl) :
    DE c X (.Call (.Name x p) (e :: es) [] pos) (mCallS m fa) := PE.imp (pe_call F hr hg hm hk hb .nil pass0 ha.pa hdb he hpl) fun σ H Q q_ => by
  obtain ⟨Hf0, H0, Hf, ρ, d, st, ef, kq⟩ := q_
  unfold mCallS at ef
  cases e1 : fa ρ with
  | none => rw [e1] at ef; cases ef
  | some ds =>
    rw [e1] at ef
    replace ef : (m ds).bind _ = _ := ef
    cases e2 : m ds with
    | none => rw [e2] at ef; cases ef
    | some d' =>
      rw [e2] at ef
      replace ef : (if d'.scalar = true then some d' else none) = some d := ef
      split at ef
      · rename_i hs
        cases ef
        refine ⟨Hf0, H0, Hf, ρ, ds, st, e1, fun vs Hf' H' x r => ?_⟩
        dsimp only
        rw [List.append_nil]
        exact ⟨H', ds, _, Same.refl _, r, (ha.len ρ ds e1).trans hl, e2, fun v Hf2 H2 x2 r2 => kq v Hf' H2 (x.trans (Ext.grow x.s x2.h)) (r2.sc hs)⟩
      · cases ef
end
end L2
namespace L2
open PySem PySem.Spec PyProof.Rows
theorem lookup_rep {G : Gc} {H : Hp} {f : Str} {d : D} : ∀ {ns : List Str} {ds : List D} {vs : List V}, (ns.zip ds).lookup f = some d → Reps G H ds vs → ∃ v, (ns.zip vs).lookup f = some v ∧ Rep G H d v
  | [], _, _, e, _ => by simp at e
  | n :: ns, [], _, e, _ => by simp at e
  | n :: ns, x :: ds, _, e, ⟨v, r, ev, h1, h2⟩ => by
    subst ev
    rw [List.zip_cons_cons, List.lookup_cons] at e
    rw [List.zip_cons_cons, List.lookup_cons]
    cases hf : f == n with
    | true => rw [hf] at e; cases e; exact ⟨v, rfl, h1⟩
    | false => rw [hf] at e; exact lookup_rep e h2
theorem lookup_no {f : Str} : ∀ {ns : List Str} {vs : List V}, ns.contains f = false → (ns.zip vs).lookup f = none
  | [], _, _ => by simp
  | n :: ns, [], _ => by simp
  | n :: ns, v :: vs, h => by
    rw [List.contains_cons, Bool.or_eq_false_iff] at h
    rw [List.zip_cons_cons, List.lookup_cons, h.1]
    exact lookup_no h.2
noncomputable def fldD (cn f : Str) : D → Option D
  | .ins c' ns ds => if c' = cn then (ns.zip ds).lookup f else none
  | _ => none
noncomputable def mFld (cn f : Str) (m : List Sl → Option D) (ρ : List Sl) : Option D := (m ρ).bind (fldD cn f)
noncomputable def mMeth (cn f : Str) (m : List D → Option D) (fo : List Sl → Option D) (fa : List Sl → Option (List D)) (ρ : List Sl) : Option D := (fo ρ).bind fun d => match d with
  | .ins c' ns ds => if c' = cn ∧ ns.contains f = false then (fa ρ).bind fun as => m (.ins c' ns ds :: as) else none
  | _ => none
section
variable {c : Str → Addr} {X : Cx} {k : Nat} {f C : Addr} {fd : FuncData} {ps : List Str} {x fl cn : Str} {p pos apos : Pos} {e o : Expr} {es : List Expr} {fo : List Sl → Option D} {fa : List Sl → Option (List D)}
theorem de_fld (cn : Str) (hc : Cls X.K (c cn)) (hn : NoAttr X.K (c cn) fl) (ho : DE c X o fo) (hb : attributeBase o fl X.env (eval o X.env) = eval o X.env := by rfl) : DE c X (.Attribute o fl pos) (mFld cn fl fo) :=
  PE.imp (pe_fld ho hb) fun σ H Q q_ => by
    obtain ⟨Hf0, H0, Hf, ρ, d, st, ef, k⟩ := q_
    unfold mFld at ef
    cases e1 : fo ρ with
    | none => rw [e1] at ef; cases ef
    | some y =>
      rw [e1] at ef
      replace ef : fldD cn fl y = some d := ef
      cases y with
      | ins c' ns ds =>
        replace ef : (if c' = cn then (ns.zip ds).lookup fl else none) = some d := ef
        split at ef
        · rename_i hcc
          subst hcc
          refine ⟨Hf0, H0, Hf, ρ, _, st, e1, fun v Hf' H' x r => ?_⟩
          obtain ⟨a, dx, vs, ev, q, hl, rs⟩ := r
          obtain ⟨u, eu, ru⟩ := lookup_rep ef rs
          exact ⟨a, c c', dx, ns.zip vs, u, ev, x.s _ _ q, hc, hn, eu, k u Hf' H' x ru⟩
        · cases ef
      | _ => cases ef
theorem de_meth {m : List D → Option D} {pl : Sem Bool} (cn : Str) (ho : DE c X o fo) (hc : Cls X.K (c cn)) (hm : Meth X.K (c cn) fl f) (F : FnOk X.prog X.w X.K X.mg X.base CX0 k f fd ps (spD (Gx c X) ps.length m)) (hr : Room k X.A) (hb : Binds X.K fd ps []) (ha : DA c X (e :: es) fa)
    (hl : (e :: es).length + 1 = ps.length := by rfl)
    (hst : starEach (e :: es) X.env = (false, eval e X.env) :: starEach es X.env := by rfl) (hpl : (backTo pos (starEach es X.env)).any (·.1) = false := by rfl)
    (ht : eval (.Call (.Attribute o fl apos) (e :: es) [] pos) X.env = (do
      let ov ← eval o X.env
      standAt apos.atName
      let (f, first) ← holding [ov] (getMethod ov fl pl)
      callWith pos f first (backTo pos (starEach (e :: es) X.env)) (backToKw pos (keywordEach [] X.env))) := by rfl) :
    DE c X (.Call (.Attribute o fl apos) (e :: es) [] pos) (mMeth cn fl m fo fa) := PE.imp (pe_meth ho hc hm F hr hb .nil pass0 ha.pa hst hpl ht) fun σ H Q q_ => by
  obtain ⟨Hf0, H0, Hf, ρ, d, st, ef, kq⟩ := q_
  unfold mMeth at ef
  cases e1 : fo ρ with
  | none => rw [e1] at ef; cases ef
  | some y =>
    rw [e1] at ef
    cases y with
    | ins c' ns ds =>
      replace ef : (if c' = cn ∧ ns.contains fl = false then (fa ρ).bind fun as => m (.ins c' ns ds :: as) else none) = some d := ef
      split at ef
      · rename_i hcc
        obtain ⟨rfl, hno⟩ := hcc
        cases e2 : fa ρ with
        | none => rw [e2] at ef; cases ef
        | some as =>
          rw [e2] at ef
          replace ef : m (.ins c' ns ds :: as) = some d := ef
          refine ⟨Hf0, H0, Hf, ρ, _, st, e1, fun v Hf' H' x r => ?_⟩
          obtain ⟨a, dx, vs, ev, q, hlen, rs⟩ := id r
          refine ⟨a, dx, ns.zip vs, ev, x.s _ _ q, lookup_no hno, Hf0, H0, Hf', ρ, as, st.step x, e2, fun ws Hf2 H2 x2 r2 => ?_⟩
          dsimp only
          rw [List.append_nil]
          exact ⟨Hf2, .ins c' ns ds :: as, d, x2.s, .cons (r.up x2.f) r2, by rw [List.length_cons, ha.len ρ as e2]; exact hl, ef, fun u Hf3 H3 x3 r3 => kq u Hf3 H3 ((x.trans x2).trans x3) r3⟩
      · cases ef
    | _ => cases ef
end
theorem putF_new {f : Str} {v : V} : ∀ {ns : List Str} {us : List V}, ns.length = us.length → ns.contains f = false → putF f v (ns.zip us) = (ns ++ [f]).zip (us ++ [v])
  | [], [], _, _ => rfl
  | n :: ns, u :: us, hl, h => by
    rw [List.contains_cons, Bool.or_eq_false_iff] at h
    have h1 : ¬ (n = f) := fun z => by rw [z, beq_self_eq_true] at h; cases h.1
    rw [List.zip_cons_cons]
    unfold putF
    first
      | (rw [if_neg h1, putF_new (by simpa using hl) h.2]; rfl)
      | (rw [if_neg (fun z => h1 (Eq.symm z)), putF_new (by simpa using hl) h.2]; rfl)
      | (rw [if_neg (by simpa using h1), putF_new (by simpa using hl) h.2]; rfl)
      | (rw [if_neg (by simpa using fun z => h1 (Eq.symm z)), putF_new (by simpa using hl) h.2]; rfl)
  | [], _ :: _, hl, _ => by cases hl
  | _ :: _, [], hl, _ => by cases hl
section
variable {c : Str → Addr} {X : Cx} {cn fl : Str} {e o : Expr} {sts : List Stmt} {pos pos' : Pos} {m : List Sl → Option D} {fs : List (Str × (List Sl → Option D))}
end
noncomputable def del (H : Hp) (x : Addr) : Hp := fun b => if b = x then none else H b
theorem del_same {H : Hp} {x : Addr} : del H x x = none := if_pos rfl
theorem del_ne {H : Hp} {x b : Addr} (h : b ≠ x) : del H x b = H b := if_neg h
section
variable {P : Program} {w : World} {K : PySem.W.Frag} {mg : Str → Option Value} {base : Heap} {c : Str → Addr}
end
section
variable {c : Str → Addr} {X : Cx} {k : Nat} {f : Addr} {fd : FuncData} {ps : List Str} {x cn : Str} {p pos : Pos} {e : Expr} {es : List Expr} {fa : List Sl → Option (List D)}
end
end L2
namespace L2
open PySem PySem.Spec PyProof.Rows
theorem seq_nx {F F' : List Sl → Option Fl} {ρ ρ' : List Sl} {r : Option Fl} (h : F ρ = some (.nx ρ')) (h' : F' ρ' = r) : mSeq F F' ρ = r := by
  unfold mSeq
  rw [h]
  exact h'
theorem seq_rt {F F' : List Sl → Option Fl} {ρ : List Sl} {d : D} (h : F ρ = some (.rt d)) : mSeq F F' ρ = some (.rt d) := by
  unfold mSeq
  rw [h]
  rfl
theorem if_T {t : List Sl → Option Bool} {F F' : List Sl → Option Fl} {ρ : List Sl} {r : Option Fl} (h : t ρ = some true) (h' : F ρ = r) : mIfS t F F' ρ = r := by
  unfold mIfS
  rw [h]
  exact h'
theorem if_F {t : List Sl → Option Bool} {F F' : List Sl → Option Fl} {ρ : List Sl} {r : Option Fl} (h : t ρ = some false) (h' : F' ρ = r) : mIfS t F F' ρ = r := by
  unfold mIfS
  rw [h]
  exact h'
theorem set_is {i : Nat} {f : List Sl → Option D} {ρ : List Sl} {d : D} (h : f ρ = some d) : mSet i f ρ = some (.nx (ρ.set i (.im d))) := by
  unfold mSet
  rw [h]
  rfl
theorem setO_is {i : Nat} {f : List Sl → Option (List D)} {ρ : List Sl} {d : List D} (h : f ρ = some d) : mSetO i f ρ = some (.nx (ρ.set i (.own d))) := by
  unfold mSetO
  rw [h]
  rfl
theorem ret_is {f : List Sl → Option D} {ρ : List Sl} {d : D} (h : f ρ = some d) : mRet f ρ = some (.rt d) := by
  unfold mRet
  rw [h]
  rfl
theorem run_rt {n : Nat} {F : List Sl → Option Fl} {ds : List D} {d : D} (h : F (args0 n ds) = some (.rt d)) : runD n F ds = some d := by
  unfold runD
  rw [h]
  rfl
theorem run_rtO {n : Nat} {F : List Sl → Option Fl} {ds : List D} {d : List D} (h : F (args0 n ds) = some (.rtO d)) : runD n F ds = some (.lst d) := by
  unfold runD
  rw [h]
  rfl
theorem call_is {m : List D → Option D} {f : List Sl → Option (List D)} {ρ : List Sl} {ds : List D} {d : D} (h : f ρ = some ds) (h' : m ds = some d) : mCall m f ρ = some d := by
  unfold mCall
  rw [h]
  exact h'

theorem compM_ff {α : Type} {h : D → Option (Option D)} (f : α → D) (p : α → Bool) (q : α → D) : ∀ (xs : List α), (∀ x ∈ xs, h (f x) = some (if p x then some (q x) else none)) → compM h (xs.map f) = some ((xs.filter p).map q)
  | [], _ => rfl
  | x :: xs, hh => by
    rw [List.map_cons]
    unfold compM
    rw [hh x List.mem_cons_self, compM_ff f p q xs fun y hy => hh y (List.mem_cons_of_mem _ hy)]
    cases hp : p x with
    | true => rw [List.filter_cons_of_pos hp]; rfl
    | false => rw [List.filter_cons_of_neg (by rw [hp]; exact Bool.false_ne_true)]; rfl
theorem compM_f {α : Type} {h : D → Option (Option D)} (f : α → D) (q : α → D) (xs : List α) (hh : ∀ x ∈ xs, h (f x) = some (some (q x))) : compM h (xs.map f) = some (xs.map q) := by
  have := compM_ff (h := h) f (fun _ => true) q xs fun x hx => (hh x hx).trans rfl
  rw [this, List.filter_eq_self.mpr fun _ _ => rfl]
theorem comp_ff {α : Type} {k : Nat} {js : List Nat} {fi : List Sl → Option (List D)} {g : D → List Sl → Option (List Sl)} {ft : List Sl → Option Bool} {fe : List Sl → Option D} {ρ : List Sl} (xs : List α) (f : α → D) (p : α → Bool) (q : α → D)
    (hi : fi ρ = some (xs.map f)) (hz : xs.length ≤ 16777216) (hh : ∀ x ∈ xs, mTurn g ft fe (compRo k js ρ) (f x) = some (if p x then some (q x) else none)) : mComp k js fi g ft fe ρ = some ((xs.filter p).map q) := by
  unfold mComp
  rw [hi]
  show (if (xs.map f).length ≤ 16777216 then _ else none) = _
  rw [List.length_map, if_pos hz]
  exact compM_ff f p q xs hh
theorem comp_f {α : Type} {k : Nat} {js : List Nat} {fi : List Sl → Option (List D)} {g : D → List Sl → Option (List Sl)} {ft : List Sl → Option Bool} {fe : List Sl → Option D} {ρ : List Sl} (xs : List α) (f : α → D) (q : α → D)
    (hi : fi ρ = some (xs.map f)) (hz : xs.length ≤ 16777216) (hh : ∀ x ∈ xs, mTurn g ft fe (compRo k js ρ) (f x) = some (some (q x))) : mComp k js fi g ft fe ρ = some (xs.map q) := by
  unfold mComp
  rw [hi]
  show (if (xs.map f).length ≤ 16777216 then _ else none) = _
  rw [List.length_map, if_pos hz]
  exact compM_f f q xs hh

theorem for_inv {α : Type} {g : D → List Sl → Option (List Sl)} {F : List Sl → Option Fl} (f : α → D) (I : List α → List Sl → Prop) : ∀ (post pre : List α) (ρ : List Sl), I pre ρ →
    (∀ pre' x post' ρ, pre ++ post = pre' ++ x :: post' → I pre' ρ → ∃ ρ1 ρ2, g (f x) ρ = some ρ1 ∧ (F ρ1 = some (.nx ρ2) ∨ F ρ1 = some (.ct ρ2)) ∧ I (pre' ++ [x]) ρ2) → ∃ ρ', mForL g F (post.map f) ρ = some (.nx ρ') ∧ I (pre ++ post) ρ'
  | [], pre, ρ, h, _ => ⟨ρ, rfl, by rw [List.append_nil]; exact h⟩
  | x :: post, pre, ρ, h, hs => by
    obtain ⟨ρ1, ρ2, e1, e2, h2⟩ := hs pre x post ρ rfl h
    obtain ⟨ρ', e3, h3⟩ := for_inv f I post (pre ++ [x]) ρ2 h2 (by rw [List.append_assoc]; exact hs)
    refine ⟨ρ', ?_, by rw [List.append_assoc] at h3; exact h3⟩
    rw [List.map_cons]
    unfold mForL
    rw [e1]
    show (F ρ1).bind _ = _
    rcases e2 with e2 | e2
    · rw [e2]; exact e3
    · rw [e2]; exact e3
theorem for_go {α : Type} {fi : List Sl → Option (List D)} {g : D → List Sl → Option (List Sl)} {F : List Sl → Option Fl} {ρ : List Sl} (xs : List α) (f : α → D) (I : List α → List Sl → Prop) (hi : fi ρ = some (xs.map f)) (h0 : I [] ρ)
    (hs : ∀ pre x post ρ, xs = pre ++ x :: post → I pre ρ → ∃ ρ1 ρ2, g (f x) ρ = some ρ1 ∧ (F ρ1 = some (.nx ρ2) ∨ F ρ1 = some (.ct ρ2)) ∧ I (pre ++ [x]) ρ2) : ∃ ρ', mFor fi g F ρ = some (.nx ρ') ∧ I xs ρ' := by
  unfold mFor
  rw [hi]
  exact for_inv f I xs [] ρ h0 hs
theorem rng_map (lo : Int) (n : Nat) : rng lo n = (List.range n).map fun (i : Nat) => D.int (lo + i) := rfl

theorem sum_is {ns : List Int} : sumD [.lst (ns.map D.int)] = some (.int ns.sum) := by
  unfold sumD lsD
  show (intsD (ns.map D.int)).map _ = _
  rw [intsD_map]
  rfl
theorem atD_ok {α : Type} {f : α → D} {xs : List α} {i : Int} (h0 : 0 ≤ i) (h1 : i < xs.length) : ∃ x, xs[i.toNat]? = some x ∧ atI (xs.map f) i = some (f x) := by
  have hl : i.toNat < xs.length := by omega
  refine ⟨xs[i.toNat], by simp [hl], ?_⟩
  have := atI_nat (xs := xs.map f) (j := i.toNat) (v := f xs[i.toNat]) (by simp [hl])
  rw [show ((i.toNat : Nat) : Int) = i by omega] at this
  exact this
theorem atD_getD {α : Type} {f : α → D} {xs : List α} {i : Int} (d : α) (h0 : 0 ≤ i) (h1 : i < xs.length) : atI (xs.map f) i = some (f (xs.getD i.toNat d)) := by
  obtain ⟨x, e1, e2⟩ := atD_ok (f := f) h0 h1
  rw [e2, List.getD_eq_getElem?_getD, e1]
  rfl

noncomputable def Plain : Nat → D → Prop
  | 0, _ => False
  | n + 1, d => match d with
    | .lst xs => ∀ x ∈ xs, Plain n x
    | .tup xs => ∀ x ∈ xs, Plain n x
    | d => d.scalar = true
theorem deqL_self {f : D → D → Option Bool} : ∀ (xs : List D), (∀ x ∈ xs, f x x = some true) → deqL f xs xs = some true
  | [], _ => rfl
  | x :: xs, h => by
    unfold deqL
    rw [h x List.mem_cons_self, deqL_self xs fun y hy => h y (List.mem_cons_of_mem _ hy)]
    rfl
theorem deq_self : ∀ (n : Nat) (d : D), Plain n d → deq n d d = some true
  | 0, _, h => h.elim
  | n + 1, d, h => by
    show deqB (deq n) d d = some true
    cases d with
    | lst xs =>
      show (if xs.length = xs.length then deqL (deq n) xs xs else some false) = _
      rw [if_pos rfl]
      exact deqL_self xs fun x hx => deq_self n x (h x hx)
    | tup xs =>
      show (if xs.length = xs.length then deqL (deq n) xs xs else none) = _
      rw [if_pos rfl]
      exact deqL_self xs fun x hx => deq_self n x (h x hx)
    | non => rfl
    | bl b => show some (b == b) = _; rw [beq_self_eq_true]
    | int b => show some (b == b) = _; rw [beq_self_eq_true]
    | str b => show some (b == b) = _; rw [beq_self_eq_true]
    | _ => cases h
theorem Plain.mono : ∀ (n : Nat) (d : D), Plain n d → Plain (n + 1) d
  | 0, _, h => h.elim
  | n + 1, d, h => by
    cases d with
    | lst xs => exact fun x hx => Plain.mono n x (h x hx)
    | tup xs => exact fun x hx => Plain.mono n x (h x hx)
    | _ => exact h
theorem Plain.le {n m : Nat} {d : D} (h : Plain n d) (hm : n ≤ m) : Plain m d := by
  induction hm with
  | refl => exact h
  | step _ ih => exact Plain.mono _ _ ih
theorem dEq_self {d : D} (h : Plain 20 d) : dEq d d = some (.bl true) := by
  unfold dEq
  rw [deq_self 20 d h]
  rfl
theorem dNe_self {d : D} (h : Plain 20 d) : dNe d d = some (.bl false) := by
  unfold dNe
  rw [deq_self 20 d h]
  rfl
theorem dEq_int (i j : Int) : dEq (.int i) (.int j) = some (.bl (i == j)) := rfl
theorem dEq_str (i j : Str) : dEq (.str i) (.str j) = some (.bl (i == j)) := rfl
theorem dEq_bl (i j : Bool) : dEq (.bl i) (.bl j) = some (.bl (i == j)) := rfl
theorem dNe_int (i j : Int) : dNe (.int i) (.int j) = some (.bl (!(i == j))) := rfl
theorem dNe_str (i j : Str) : dNe (.str i) (.str j) = some (.bl (!(i == j))) := rfl
end L2
namespace L2
open PySem PySem.Spec PyProof.Rows
theorem m2_eq {m : D → D → Option D} {f g : List Sl → Option D} {ρ : List Sl} {x y d : D} (h1 : f ρ = some x) (h2 : g ρ = some y) (h3 : m x y = some d) : m2 m f g ρ = some d := by
  unfold m2
  rw [h1, h2]
  exact h3
theorem mB_eq {f : List Sl → Option D} {ρ : List Sl} {b : Bool} (h : f ρ = some (.bl b)) : mB f ρ = some b := by
  unfold mB
  rw [h]
  rfl
theorem mTru_eq {f : List Sl → Option D} {ρ : List Sl} {d : D} {b : Bool} (h : f ρ = some d) (h' : truD d = some b) : mTru f ρ = some b := by
  unfold mTru
  rw [h]
  exact h'
theorem mNot_eq {f : List Sl → Option Bool} {ρ : List Sl} {b : Bool} (h : f ρ = some b) : mNot f ρ = some (!b) := by
  unfold mNot
  rw [h]
  rfl
theorem mAnd_T {f g : List Sl → Option Bool} {ρ : List Sl} {r : Option Bool} (h : f ρ = some true) (h' : g ρ = r) : mAnd f g ρ = r := by
  unfold mAnd
  rw [h]
  exact h'
theorem mAnd_F {f g : List Sl → Option Bool} {ρ : List Sl} (h : f ρ = some false) : mAnd f g ρ = some false := by
  unfold mAnd
  rw [h]
  rfl
theorem mOr_T {f g : List Sl → Option Bool} {ρ : List Sl} (h : f ρ = some true) : mOr f g ρ = some true := by
  unfold mOr
  rw [h]
  rfl
theorem mOr_F {f g : List Sl → Option Bool} {ρ : List Sl} {r : Option Bool} (h : f ρ = some false) (h' : g ρ = r) : mOr f g ρ = r := by
  unfold mOr
  rw [h]
  exact h'
theorem mAnd_eq {f g : List Sl → Option Bool} {ρ : List Sl} {a b : Bool} (h : f ρ = some a) (h' : g ρ = some b) : mAnd f g ρ = some (a && b) := by
  cases a with
  | true => exact mAnd_T h h'
  | false => exact mAnd_F h
theorem mOr_eq {f g : List Sl → Option Bool} {ρ : List Sl} {a b : Bool} (h : f ρ = some a) (h' : g ρ = some b) : mOr f g ρ = some (a || b) := by
  cases a with
  | true => exact mOr_T h
  | false => exact mOr_F h h'
theorem vAnd_eq {f g : List Sl → Option D} {ρ : List Sl} {a b : Bool} (h : f ρ = some (.bl a)) (h' : g ρ = some (.bl b)) : vAnd f g ρ = some (.bl (a && b)) := by
  unfold vAnd
  rw [mB_eq h]
  cases a with
  | true => exact h'
  | false => rfl
theorem vOr_eq {f g : List Sl → Option D} {ρ : List Sl} {a b : Bool} (h : f ρ = some (.bl a)) (h' : g ρ = some (.bl b)) : vOr f g ρ = some (.bl (a || b)) := by
  unfold vOr
  rw [mB_eq h]
  cases a with
  | true => rfl
  | false => exact h'
theorem vNot_eq {f : List Sl → Option D} {ρ : List Sl} {a : Bool} (h : f ρ = some (.bl a)) : vNot f ρ = some (.bl (!a)) := by
  unfold vNot
  rw [mB_eq h]
  rfl
theorem cons_eq {f : List Sl → Option D} {g : List Sl → Option (List D)} {ρ : List Sl} {d : D} {ds : List D} (h : f ρ = some d) (h' : g ρ = some ds) : mCons f g ρ = some (d :: ds) := by
  unfold mCons
  rw [h, h']
  rfl
theorem tup_eq {f : List Sl → Option (List D)} {ρ : List Sl} {ds : List D} (h : f ρ = some ds) : mTup f ρ = some (.tup ds) := by
  unfold mTup
  rw [h]
  rfl
theorem lst_eq {f : List Sl → Option (List D)} {ρ : List Sl} {ds : List D} (h : f ρ = some ds) : mLst f ρ = some (.lst ds) := by
  unfold mLst
  rw [h]
  rfl
theorem ix_eq {f : List Sl → Option (List D)} {g : List Sl → Option D} {ρ : List Sl} {ds : List D} {i : Int} {r : Option D} (h : f ρ = some ds) (h' : g ρ = some (.int i)) (h2 : atI ds i = r) : mIx f g ρ = r := by
  unfold mIx
  rw [h, h']
  exact h2
theorem dI_pos {C : Int → Int → Prop} [∀ i j, Decidable (C i j)] {g : Int → Int → D} {i j : Int} (h : C i j) : dI C g (.int i) (.int j) = some (g i j) := by
  show (if C i j then some (g i j) else none) = _
  rw [if_pos h]
theorem app_eq {i : Nat} {f : List Sl → Option D} {ρ : List Sl} {d : D} {xs : List D} (h : f ρ = some d) (h' : ρ[i]? = some (.own xs)) (hl : xs.length < 16777216) : mApp i f ρ = some (.nx (ρ.set i (.own (xs ++ [d])))) := by
  unfold mApp
  rw [h]
  show (match ρ[i]? with | some (.own xs) => if xs.length < 16777216 then some (Fl.nx (ρ.set i (.own (xs ++ [d])))) else none | _ => none) = _
  rw [h']
  show (if xs.length < 16777216 then _ else none) = _
  rw [if_pos hl]
theorem turn_eq {g : D → List Sl → Option (List Sl)} {ft : List Sl → Option Bool} {fe : List Sl → Option D} {ρ ρ1 : List Sl} {d y : D} {b : Bool} (h1 : g d ρ = some ρ1) (h2 : ft ρ1 = some b) (h3 : b = true → fe ρ1 = some y) : mTurn g ft fe ρ d = some (if b then some y else none) := by
  unfold mTurn
  rw [h1]
  show (ft ρ1).bind _ = _
  rw [h2]
  show (if b = true then (fe ρ1).map some else some none) = _
  cases b with
  | true => rw [h3 rfl]; rfl
  | false => rfl
theorem turn_T {g : D → List Sl → Option (List Sl)} {ft : List Sl → Option Bool} {fe : List Sl → Option D} {ρ ρ1 : List Sl} {d y : D} (h1 : g d ρ = some ρ1) (h2 : ft ρ1 = some true) (h3 : fe ρ1 = some y) : mTurn g ft fe ρ d = some (some y) := turn_eq h1 h2 fun _ => h3
theorem seqI_eq {f : List Sl → Option D} {ρ : List Sl} {d : D} {ds : List D} (h : f ρ = some d) (h' : seqD d = some ds) : mSeqI f ρ = some ds := by
  unfold mSeqI
  rw [h]
  exact h'
theorem orE_1 {f g : List Sl → Option D} {ρ : List Sl} {d : D} (h : f ρ = some d) : mOrE f g ρ = some d := by
  unfold mOrE
  rw [h]
  rfl
theorem orE_2 {f g : List Sl → Option D} {ρ : List Sl} {r : Option D} (h : f ρ = none) (h' : g ρ = r) : mOrE f g ρ = r := by
  unfold mOrE
  rw [h]
  exact h'
theorem rng1_eq {f : List Sl → Option (List D)} {ρ : List Sl} {n : Int} (h : f ρ = some [.int n]) (h0 : 0 ≤ n) (h1 : n < 2 ^ 62) : mRng f ρ = some ((List.range n.toNat).map fun (i : Nat) => D.int i) := by
  unfold mRng
  rw [h]
  show (if -(2 ^ 62) ≤ n ∧ n < 2 ^ 62 then some (rng 0 n.toNat) else none) = _
  rw [if_pos ⟨by omega, h1⟩, rng_map]
  congr 1
  refine List.map_congr_left fun i _ => ?_
  rw [Int.zero_add]
end L2
namespace L2
open PySem PySem.Spec PyProof.Rows
theorem meth_is {cn f : Str} {m : List D → Option D} {fo : List Sl → Option D} {fa : List Sl → Option (List D)} {ρ : List Sl} {ns : List Str} {ds as : List D} (h : fo ρ = some (.ins cn ns ds)) (hn : ns.contains f = false) (h' : fa ρ = some as) : mMeth cn f m fo fa ρ = m (.ins cn ns ds :: as) := by
  unfold mMeth
  rw [h]
  show (if cn = cn ∧ ns.contains f = false then (fa ρ).bind fun as => m (.ins cn ns ds :: as) else none) = _
  rw [if_pos ⟨rfl, hn⟩, h']
  rfl
theorem meth_no {cn f c' : Str} {m : List D → Option D} {fo : List Sl → Option D} {fa : List Sl → Option (List D)} {ρ : List Sl} {ns : List Str} {ds : List D} (h : fo ρ = some (.ins c' ns ds)) (hn : c' ≠ cn) : mMeth cn f m fo fa ρ = none := by
  unfold mMeth
  rw [h]
  show (if c' = cn ∧ ns.contains f = false then (fa ρ).bind fun as => m (.ins c' ns ds :: as) else none) = _
  rw [if_neg fun z => hn z.1]
end L2
namespace L2
open PySem PySem.Spec PyProof.Rows
noncomputable def itD (z : Int × Int) : D := .tup [.int z.1, .int z.2]
noncomputable def shD : Option Bool → D
  | none => .non
  | some b => .bl b
noncomputable def InN (n : Nat) (its : List (Int × Int)) : Prop := ∀ z ∈ its, 0 ≤ z.1 ∧ z.1 < (n : Int) ∧ 0 ≤ z.2
theorem plain_ints (bs : List Int) : Plain 2 (.lst (bs.map D.int)) := fun x hx => by
  obtain ⟨b, _, rfl⟩ := List.mem_map.mp hx
  exact rfl
theorem plain_it (z : Int × Int) : Plain 2 (itD z) := fun x hx => by
  simp only [List.mem_cons, List.not_mem_nil, or_false] at hx
  rcases hx with rfl | rfl <;> exact rfl
theorem plain_its (its : List (Int × Int)) : Plain 3 (.lst (its.map itD)) := fun x hx => by
  obtain ⟨z, _, rfl⟩ := List.mem_map.mp hx
  exact plain_it z
theorem at_shD {es : List (Option Bool)} {i : Int} (h0 : 0 ≤ i) (h1 : i < es.length) : atI (es.map shD) i = some (shD (es.getD i.toNat none)) := atD_getD none h0 h1
theorem at_blD {es : List Bool} {i : Int} (h0 : 0 ≤ i) (h1 : i < es.length) : atI (es.map D.bl) i = some (.bl (es.getD i.toNat false)) := atD_getD false h0 h1
theorem is_sh (e : Option Bool) (b : Bool) : dIs (shD e) (.bl b) = some (.bl (e == some b)) := by
  cases e with
  | none => rfl
  | some c => cases b <;> cases c <;> rfl
noncomputable def Prt.toD : Prt → D
  | .inn t => .tup [.str "in", .int t]
  | .out t => .tup [.str "out", .int t]
  | .least k its => .tup [.str "least", .int k, .lst (its.map itD)]
  | .most k its => .tup [.str "most", .int k, .lst (its.map itD)]
noncomputable def Prt.obj : Prt → D
  | .inn t => .ins "In" ["thing"] [.int t]
  | .out t => .ins "Out" ["thing"] [.int t]
  | .least k its => .ins "Least" ["bound", "pieces"] [.int k, .lst (its.map itD)]
  | .most k its => .ins "Most" ["bound", "pieces"] [.int k, .lst (its.map itD)]

noncomputable def Prt.Ok (n : Nat) : Prt → Prop
  | .inn t => 0 ≤ t ∧ t < (n : Int)
  | .out t => 0 ≤ t ∧ t < (n : Int)
  | .least _ its => InN n its ∧ its.length ≤ 100000
  | .most _ its => InN n its ∧ its.length ≤ 100000
theorem plain_part (p : Prt) : Plain 4 p.toD := by
  cases p with
  | inn t => intro x hx; simp only [List.mem_cons, List.not_mem_nil, or_false] at hx; rcases hx with rfl | rfl <;> exact rfl
  | out t => intro x hx; simp only [List.mem_cons, List.not_mem_nil, or_false] at hx; rcases hx with rfl | rfl <;> exact rfl
  | least k its =>
    intro x hx
    simp only [List.mem_cons, List.not_mem_nil, or_false] at hx
    rcases hx with rfl | rfl | rfl
    · exact rfl
    · exact rfl
    · exact plain_its its
  | most k its =>
    intro x hx
    simp only [List.mem_cons, List.not_mem_nil, or_false] at hx
    rcases hx with rfl | rfl | rfl
    · exact rfl
    · exact rfl
    · exact plain_its its
theorem worthP_map (p : Int → Bool) (its : List (Int × Int)) : ((its.filter fun z => p z.1).map fun z => D.int z.2) = ((its.filter fun z => p z.1).map (·.2)).map D.int := by
  rw [List.map_map]
  rfl
theorem sum_worth (p : Int → Bool) (its : List (Int × Int)) : sumD [.lst ((its.filter fun z => p z.1).map fun z => D.int z.2)] = some (.int (worthP p its)) := by
  rw [worthP_map, sum_is]
  rfl
end L2
namespace L2
open PySem PySem.Spec PyProof.Rows
section
variable {c : Str → Addr} {X : Cx}
noncomputable def blsD : List D → Option (List Bool)
  | [] => some []
  | .bl b :: ds => (blsD ds).map fun r => b :: r
  | _ => none
theorem blsD_map (bs : List Bool) : blsD (bs.map D.bl) = some bs := by
  induction bs with
  | nil => rfl
  | cons n ns ih => rw [List.map_cons, blsD, ih]; rfl
noncomputable def allD : List D → Option D
  | [d] => (lsD d).bind fun ds => (blsD ds).map fun bs => .bl (bs.all id)
  | _ => none
theorem all_is (bs : List Bool) : allD [.lst (bs.map D.bl)] = some (.bl (bs.all id)) := by
  show (blsD (bs.map D.bl)).map _ = _
  rw [blsD_map]
  rfl
end
end L2
namespace L2
open PySem PySem.Spec PyProof.Rows
inductive Wrd where
  | make | may | never
  deriving DecidableEq
noncomputable def Wrd.s : Wrd → Str
  | .make => "make"
  | .may => "may"
  | .never => "never"
structure Rul where
  w : Wrd
  hd : Int
  ps : List Prt
noncomputable def Rul.hdD (r : Rul) : D := match r.w with
  | .never => .non
  | _ => .int r.hd
noncomputable def Rul.toD (r : Rul) : D := .tup [.str r.w.s, r.hdD, .lst (r.ps.map Prt.toD)]
structure Rul.Ok (n : Nat) (r : Rul) : Prop where
  hd : r.w ≠ .never → 0 ≤ r.hd ∧ r.hd < (n : Int)
  ps : ∀ p ∈ r.ps, p.Ok n
  len : r.ps.length ≤ 100000
theorem map_bl {α : Type} (f : α → Bool) (xs : List α) : (xs.map fun x => D.bl (f x)) = (xs.map f).map D.bl := by
  rw [List.map_map]
  rfl
theorem all_map (f : Prt → Bool) (xs : List Prt) : allD [.lst (xs.map fun x => D.bl (f x))] = some (.bl (xs.all f)) := by
  rw [map_bl, all_is, List.all_map]
  rfl
end L2
namespace L2
open PySem PySem.Spec PyProof.Rows
theorem bs_shD (l : List Bool) : (bs l).map shD = l.map D.bl := by
  unfold bs
  rw [List.map_map]
  rfl
theorem bs_at {l : List Bool} {i : Nat} (h : i < l.length) : (bs l).getD i none = some (l.getD i false) := by
  unfold bs
  rw [List.getD_eq_getElem?_getD, List.getD_eq_getElem?_getD, List.getElem?_map]
  simp [h]
theorem worthP_cong {p q : Int → Bool} {its : List (Int × Int)} (h : ∀ z ∈ its, p z.1 = q z.1) : worthP p its = worthP q its := by
  unfold worthP
  rw [List.filter_congr h]
structure Fuller (es es' : List (Option Bool)) : Prop where
  len : es'.length = es.length
  at' : ∀ i, es.getD i none = none ∨ es'.getD i none = es.getD i none
structure Wider (ws ws' : List Bool) : Prop where
  len : ws'.length = ws.length
  at' : ∀ i, ws.getD i false = true → ws'.getD i false = true
theorem Fuller.refl (es : List (Option Bool)) : Fuller es es := ⟨rfl, fun _ => .inr rfl⟩
theorem Wider.refl (ws : List Bool) : Wider ws ws := ⟨rfl, fun _ h => h⟩
theorem Prt.Ok.le {n m : Nat} {p : Prt} (h : p.Ok n) (e : m = n) : p.Ok m := e ▸ h
end L2
namespace L2
open PySem PySem.Spec PyProof.Rows
section
variable {X : Cx} {elts : List Expr} {kx : Nat} {tpos : Pos}
end
section
variable {c : Str → Addr} {X : Cx} {a : Expr} {pos p : Pos}
end
noncomputable def hasK (ks : List Key) (k : Key) : Bool := ks.any fun j => decide (j = k)
noncomputable def putX {α : Type} (ks : List Key) (xs : List α) (k : Key) (x : α) : List α := if hasK ks k = true then List.zipWith (fun j y => if j = k then x else y) ks xs else xs ++ [x]
theorem Reps.zipW {G : Gc} {H : Hp} {k : Key} {d : D} {v : V} (q : Rep G H d v) : ∀ {ks : List Key} {ds : List D} {vs : List V}, Reps G H ds vs → Reps G H (List.zipWith (fun j y => if j = k then d else y) ks ds) (List.zipWith (fun j y => if j = k then v else y) ks vs)
  | [], _, _, _ => .nil
  | _ :: _, [], _, h => by cases (show _ = [] from h); exact .nil
  | j :: ks, x :: ds, _, ⟨u, r, e, h1, h2⟩ => by
    subst e
    rw [List.zipWith_cons_cons, List.zipWith_cons_cons]
    refine .cons ?_ (Reps.zipW q h2)
    by_cases e : j = k
    · rw [if_pos e, if_pos e]; exact q
    · rw [if_neg e, if_neg e]; exact h1
theorem Reps.put {G : Gc} {H : Hp} {k : Key} {ks : List Key} {d : D} {v : V} {ds : List D} {vs : List V} (r : Reps G H ds vs) (q : Rep G H d v) : Reps G H (putX ks ds k d) (putX ks vs k v) := by
  unfold putX
  by_cases e : hasK ks k = true
  · rw [if_pos e, if_pos e]; exact r.zipW q
  · rw [if_neg e, if_neg e]; exact r.append (.cons q .nil)
section
variable {c : Str → Addr} {X : Cx} {st : Stmt} {e a b i' value : Expr} {pos pos' p' : Pos}
end
end L2
namespace L2
open PySem PySem.Spec PyProof.Rows
section
variable {c : Str → Addr} {X : Cx} {st : Stmt} {e a b i' value : Expr} {pos pos' : Pos}
end
section
variable {c : Str → Addr} {X : Cx}
open Classical in
end
end L2
namespace L2
open PySem PySem.Spec PyProof.Rows
noncomputable def Ris (xs : Array Nat) : Prop := xs.toList.Pairwise (· < ·)
theorem ris_lt {xs : Array Nat} (h : Ris xs) {a b j : Nat} (hab : a < b) (hb : b < xs.size) : xs.getD a j < xs.getD b j := by
  have h1 := List.pairwise_iff_getElem.mp h a b (by simpa using Nat.lt_trans hab hb) (by simpa using hb) hab
  rw [Array.getD, Array.getD, dif_pos (Nat.lt_trans hab hb), dif_pos hb]
  simpa using h1
theorem ris_le {xs : Array Nat} (h : Ris xs) {a b j : Nat} (hab : a ≤ b) (hb : b < xs.size) : xs.getD a j ≤ xs.getD b j := by
  rcases Nat.eq_or_lt_of_le hab with e | e
  · subst e; exact Nat.le_refl _
  · exact Nat.le_of_lt (ris_lt h e hb)
theorem below_go {xs : Array Nat} {j : Nat} (h : Ris xs) : ∀ (fuel lo hi : Nat), lo ≤ hi → hi ≤ xs.size → hi - lo ≤ fuel → (∀ i, i < lo → xs.getD i j < j) → (∀ i, hi ≤ i → i < xs.size → ¬ xs.getD i j < j) →
    SetTable.below.go xs j fuel lo hi ≤ xs.size ∧ (∀ i, i < SetTable.below.go xs j fuel lo hi → xs.getD i j < j) ∧ ∀ i, SetTable.below.go xs j fuel lo hi ≤ i → i < xs.size → ¬ xs.getD i j < j
  | 0, lo, hi, h1, h2, h3, h4, h5 => by
    have e : lo = hi := by omega
    subst e
    exact ⟨h2, h4, h5⟩
  | fuel + 1, lo, hi, h1, h2, h3, h4, h5 => by
    unfold SetTable.below.go
    by_cases hl : lo < hi
    · rw [if_pos hl]
      by_cases hm : xs.getD ((lo + hi) / 2) j < j
      · simp only [hm, if_true]
        refine below_go h fuel ((lo + hi) / 2 + 1) hi (by omega) h2 (by omega) (fun i hi' => ?_) h5
        exact Nat.lt_of_le_of_lt (ris_le h (by omega) (by omega)) hm
      · simp only [hm, if_false]
        refine below_go h fuel lo ((lo + hi) / 2) (by omega) (by omega) (by omega) h4 fun i hi' hs hc => ?_
        exact hm (Nat.lt_of_le_of_lt (ris_le h hi' hs) hc)
    · rw [if_neg hl]
      have e : lo = hi := by omega
      subst e
      exact ⟨h2, h4, h5⟩
theorem below_is {xs : Array Nat} (h : Ris xs) (j : Nat) : SetTable.below xs j ≤ xs.size ∧ (∀ i, i < SetTable.below xs j → xs.getD i j < j) ∧ ∀ i, SetTable.below xs j ≤ i → i < xs.size → ¬ xs.getD i j < j :=
  below_go h xs.size 0 xs.size (Nat.zero_le _) (Nat.le_refl _) (by omega) (fun i hi => by omega) fun i hi hs => by omega

theorem below_next {xs : Array Nat} (h : Ris xs) {i : Nat} (hi : i < xs.size) : SetTable.below xs (xs[i] + 1) = i + 1 := by
  obtain ⟨h1, h2, h3⟩ := below_is h (xs[i] + 1)
  have e : xs.getD i (xs[i] + 1) = xs[i] := by rw [Array.getD, dif_pos hi]; rfl
  by_cases hlt : SetTable.below xs (xs[i] + 1) ≤ i
  · exact absurd (by rw [e]; omega) (h3 i hlt hi)
  · by_cases hgt : i + 1 < SetTable.below xs (xs[i] + 1)
    · have a := h2 (i + 1) hgt
      have b := ris_lt h (j := xs[i] + 1) (show i < i + 1 by omega) (by omega)
      rw [e] at b
      omega
    · omega
theorem below_zero {xs : Array Nat} (h : Ris xs) : SetTable.below xs 0 = 0 := by
  obtain ⟨h1, h2, h3⟩ := below_is h 0
  by_cases e : 0 < SetTable.below xs 0
  · have := h2 0 e; omega
  · omega

theorem ris_insert {xs : Array Nat} (h : Ris xs) {j : Nat} (hn : xs[SetTable.below xs j]? ≠ some j) : Ris (SetTable.insertAt xs (SetTable.below xs j) j) := by
  obtain ⟨h1, h2, h3⟩ := below_is h j
  unfold Ris SetTable.insertAt
  have g : ∀ i, (hi : i < xs.size) → xs.getD i j = xs[i] := fun i hi => by rw [Array.getD, dif_pos hi]; rfl
  rw [Array.toList_append, Array.toList_push, Array.toList_extract, Array.toList_extract]
  simp only [List.extract_eq_drop_take, Nat.sub_zero, List.drop_zero]
  have hlt : ∀ x ∈ xs.toList.take (SetTable.below xs j), x < j := fun x hx => by
    obtain ⟨i, hi, e⟩ := List.mem_take_iff_getElem.mp hx
    have hi' : i < SetTable.below xs j := by omega
    have := h2 i hi'
    rw [g i (by omega)] at this
    rw [← e]
    simpa using this
  have hgt : ∀ x ∈ xs.toList.drop (SetTable.below xs j), j < x := fun x hx => by
    obtain ⟨i, hi, e⟩ := List.mem_drop_iff_getElem.mp hx
    have hs : SetTable.below xs j + i < xs.size := by simpa [Nat.add_comm] using hi
    have a := h3 (SetTable.below xs j + i) (by omega) hs
    rw [g _ hs] at a
    have ex : x = xs[SetTable.below xs j + i] := by rw [← e]; simp
    rw [ex]
    rcases Nat.lt_or_ge j xs[SetTable.below xs j + i] with q | q
    · exact q
    · exfalso
      have ej : xs[SetTable.below xs j + i] = j := by omega
      have hb : SetTable.below xs j < xs.size := by omega
      have b := ris_le h (j := j) (show SetTable.below xs j ≤ SetTable.below xs j + i by omega) hs
      rw [g _ hs, g _ hb, ej] at b
      have c := h3 (SetTable.below xs j) (Nat.le_refl _) hb
      rw [g _ hb] at c
      exact hn (by rw [Array.getElem?_eq_getElem hb]; congr 1; omega)
  have ed : List.take (xs.size - SetTable.below xs j) (List.drop (SetTable.below xs j) xs.toList) = List.drop (SetTable.below xs j) xs.toList := List.take_of_length_le (by simp)
  rw [ed]
  refine List.pairwise_append.mpr ⟨List.pairwise_append.mpr ⟨List.Pairwise.sublist (List.take_sublist _ _) h, by simp, fun a ha b hb => ?_⟩, List.Pairwise.sublist (List.drop_sublist _ _) h, fun a ha b hb => ?_⟩
  · have : b = j := by simpa using hb
    subst this; exact hlt a ha
  · rcases List.mem_append.mp ha with ha | ha
    · exact Nat.lt_trans (hlt a ha) (hgt b hb)
    · have : a = j := by simpa using ha
      subst this; exact hgt b hb
theorem ris_range (n : Nat) : Ris (Array.range n) := by
  unfold Ris
  rw [Array.toList_range]
  exact List.pairwise_lt_range
theorem slot_live {t : SetTable} {j : Nat} (h : t.slot j = .empty ∨ t.slot j = .dummy) : t.place[SetTable.below t.place j]? ≠ some j := fun e => by
  have : t.slot j = .live (SetTable.below t.place j) := by
    unfold SetTable.slot
    simp only [e, beq_self_eq_true, if_true]
  rw [this] at h
  rcases h with h | h <;> cases h
theorem probe_free {t : SetTable} {h : Int} : ∀ (fuel : Nat) (p : SetTable.Probe) {j : Nat} {d : Option Nat}, (∀ d', p.dummy = some d' → t.place[SetTable.below t.place d']? ≠ some d') → SetTable.probe.go t (fun _ => h + 1) h fuel p = some (.empty j d) →
    t.place[SetTable.below t.place j]? ≠ some j ∧ ∀ d', d = some d' → t.place[SetTable.below t.place d']? ≠ some d'
  | 0, _, _, _, _, e => by cases e
  | fuel + 1, p, j, d, hd, e => by
    unfold SetTable.probe.go at e
    split at e
    · rename_i hs
      cases e
      exact ⟨slot_live (.inl hs), hd⟩
    · rename_i hs
      refine probe_free fuel _ (fun d' q => ?_) e
      have : d' = p.j := by
        unfold SetTable.advance at q
        split at q
        · exact (Option.some.inj q).symm
        · exact (Option.some.inj q).symm
      subst this
      exact slot_live (.inr hs)
    · rename_i i hs
      split at e
      · cases e
      · refine probe_free fuel _ (fun d' q => hd d' ?_) e
        unfold SetTable.advance at q
        split at q <;> exact q
theorem freeSlot_free {t : SetTable} {h : Int} {j : Nat} {w : Bool} (e : t.freeSlot h = some (j, w)) : t.place[SetTable.below t.place j]? ≠ some j := by
  unfold SetTable.freeSlot at e
  split at e
  · rename_i j' d hp
    obtain ⟨h1, h2⟩ := probe_free _ _ (fun d' q => by cases q) hp
    cases d with
    | none => cases e; exact h1
    | some d' => cases e; exact h2 _ rfl
  · cases e
theorem standIn_ris (t : SetTable) (n : Nat) : Ris (t.standIn n).place ∧ (t.standIn n).led = t.led := ⟨ris_range n, rfl⟩
theorem orStandIn_ris {t : SetTable} (n : Nat) (h : Ris t.place) : Ris (t.orStandIn n).place ∧ (t.orStandIn n).led = t.led := by
  unfold SetTable.orStandIn
  split
  · exact ⟨h, rfl⟩
  · exact standIn_ris t n
theorem layNew_ris {t : SetTable} (es : Array (Int × Value)) (h : Int) (x : Value) (hr : Ris t.place) : Ris (layNew t es h x).2.1.place ∧ (layNew t es h x).2.1.led = t.led := by
  unfold layNew
  split
  · rename_i slot wd hf
    exact orStandIn_ris (t := (t.put slot).1) _ (ris_insert hr (freeSlot_free hf))
  · exact standIn_ris t _
theorem laid_ris {mask finger moves : Nat} {led plain : Bool} {hashes : Array Int} {t' : SetTable} {order : Array Nat} (e : SetTable.laid mask finger moves led plain hashes = some (t', order)) : Ris t'.place ∧ t'.led = led := by
  unfold SetTable.laid at e
  cases ho : SetTable.layClean mask hashes with
  | none => rw [ho] at e; cases e
  | some owner =>
    rw [ho] at e
    cases e
    refine ⟨?_, rfl⟩
    unfold Ris
    show List.Pairwise _ (List.map _ _)
    rw [List.pairwise_map, List.pairwise_filterMap]
    refine List.Pairwise.imp (fun {a b} hab => ?_) List.pairwise_lt_range
    intro p hp q hq
    cases ha : owner.getD a none with
    | none => rw [ha] at hp; cases hp
    | some ka =>
      cases hb : owner.getD b none with
      | none => rw [hb] at hq; cases hq
      | some kb => rw [ha] at hp; rw [hb] at hq; cases hp; cases hq; exact hab
theorem relayAll_ris {t : SetTable} (es : Array (Int × Value)) (wanted : Nat) : Ris (relayAll t es wanted).2.1.place ∧ (relayAll t es wanted).2.1.led = t.led := by
  unfold relayAll
  split
  · rename_i t' order hl
    have hr : Ris t'.place ∧ t'.led = t.led := laid_ris hl
    dsimp only
    split
    · exact hr
    · exact standIn_ris t _
  · exact standIn_ris t _
end L2
namespace L2
open PySem PySem.Spec PyProof.Rows
noncomputable def SetI (P : Program) (w : World) (h : Heap) (a : Addr) (led : Bool) (S : Int → Bool) (n : Nat) : Prop :=
  ∃ o ents ep tb, h.get? a = some o ∧ o.ExactSet ∧ o.data = .set ents ep tb ∧ ElemsOf (intKind P w) ents.toList ∧ (∀ k, S k = true ↔ ∃ e ∈ ents.toList, (intKind P w).is k e.2 = true)
    ∧ ents.size < scanBound ∧ tb.fits ents.size = true ∧ ents.size = n ∧ Ris tb.place ∧ tb.led = led
section
variable {P : Program} {w : World} {A : Around} {E : Value → Shared → Prop} {s : Shared}
theorem SetI.stay {h h' : Heap} {a : Addr} {led : Bool} {S : Int → Bool} {n : Nat} (q : SetI P w h a led S n) (k : ∀ o, h.get? a = some o → h'.get? a = some o) : SetI P w h' a led S n := by
  obtain ⟨o, ents, ep, tb, ho, r⟩ := q
  exact ⟨o, ents, ep, tb, k o ho, r⟩
theorem SetI.congr {h : Heap} {a : Addr} {led : Bool} {S S' : Int → Bool} {n n' : Nat} (q : SetI P w h a led S n) (e : ∀ k, S k = S' k) (en : n = n') : SetI P w h a led S' n' := by
  have : S = S' := funext e
  subst this en
  exact q
theorem setI_store {h : Heap} {a : Addr} {o : Obj} {ents ents' : Array (Int × Value)} {ep : Nat} {tb tb' : SetTable} {led : Bool} {S : Int → Bool} (ho : h.get? a = some o) (hex : o.ExactSet) (hd : o.data = .set ents ep tb)
    (hel : ElemsOf (intKind P w) ents'.toList) (hm : ∀ k, S k = true ↔ ∃ e ∈ ents'.toList, (intKind P w).is k e.2 = true) (hb : ents'.size < scanBound) (hf : tb'.fits ents'.size = true) (hr : Ris tb'.place) (hled : tb'.led = led) :
    (h.update a (Obj.putSet ents' tb')).get? a = some { o with data := .set ents' (ep + 1) tb' } ∧ SetI P w (h.update a (Obj.putSet ents' tb')) a led S ents'.size := by
  have g1 := (SetOf_store (knd := intKind P w) ho hex hd hel hm hb hf).1
  exact ⟨g1, _, ents', ep + 1, tb', g1, hex, rfl, hel, hm, hb, hf, rfl, hr, hled⟩

theorem add_tail {g : Bool → Sem Unit} (hg : ∀ (b : Bool) (s₁ : Shared) (Q' : Unit → Shared → Prop), Q' () s₁ → wpAny (model P w) A (g b) Q' E s₁) {a : Addr} {o : Obj} {ents ents1 : Array (Int × Value)} {ep : Nat} {tb tb1 : SetTable} {led : Bool} {S : Int → Bool}
    (ho : s.heap.get? a = some o) (hex : o.ExactSet) (hd : o.data = .set ents ep tb) (hel : ElemsOf (intKind P w) ents1.toList) (hm : ∀ k, S k = true ↔ ∃ e ∈ ents1.toList, (intKind P w).is k e.2 = true)
    (hb : ents1.size < scanBound) (hf : tb1.fits ents1.size = true) (hr : Ris tb1.place) (hled : tb1.led = led) {dm : Bool} {R : Option Bool → Shared → Prop}
    (h : ∀ h', Heap.SameBut a s.heap h' → SetI P w h' a led S ents1.size → R (some true) { s with heap := h' }) :
    wpAny (model P w) A (do
        storeSet a ents1 tb1
        if (!dm && tb1.tooFull) = true then do
            g (relayAll tb1 ents1 (SetTable.grown ents1.size)).2.2
            storeSet a (relayAll tb1 ents1 (SetTable.grown ents1.size)).1 (relayAll tb1 ents1 (SetTable.grown ents1.size)).2.1
            pure (some true)
          else pure (some true)) R E s := by
  refine wpAny_bind (wpAny_storeSet_of ho hd ?_ (fits_of_scanBound hb))
  obtain ⟨ho1, q1⟩ := setI_store (P := P) (w := w) ho hex hd hel hm hb hf hr hled
  have sb := Heap.SameBut.update s.heap a (Obj.putSet ents1 tb1)
  split
  · have pp := relayAll_perm tb1 ents1 (SetTable.grown ents1.size)
    have ff := relayAll_fits tb1 ents1 (SetTable.grown ents1.size)
    have rr := relayAll_ris (t := tb1) ents1 (SetTable.grown ents1.size)
    generalize relayAll tb1 ents1 (SetTable.grown ents1.size) = z at pp ff rr ⊢
    obtain ⟨ents2, tb2, gv⟩ := z
    dsimp only at pp ff rr ⊢
    have zz : ents2.size = ents1.size := by rw [← Array.length_toList, pp.length_eq, Array.length_toList]
    refine wpAny_bind (hg _ _ _ (wpAny_bind (wpAny_storeSet_of ho1 rfl ?_ (fits_of_scanBound (by rw [zz]; exact hb)))))
    have q2 := (setI_store (P := P) (w := w) (led := led) (S := S) ho1 hex rfl (hel.perm pp) (fun k => (hm k).trans ⟨fun ⟨e, he, q⟩ => ⟨e, pp.mem_iff.mpr he, q⟩, fun ⟨e, he, q⟩ => ⟨e, pp.mem_iff.mp he, q⟩⟩) (by rw [zz]; exact hb) ff rr.1 (rr.2.trans hled)).2
    rw [zz] at q2
    exact wpAny_pure (h _ (sb.trans (Heap.SameBut.update _ a _)) q2)
  · exact wpAny_pure (h _ sb q1)
theorem add_led {a : Addr} {led : Bool} {S : Int → Bool} {n : Nat} {k : Int} {x : Value} {Q : Bool → Shared → Prop} (hk : (intKind P w).is k x = true) (hx : x.scannable = true) (q : SetI P w s.heap a led S n) (room : n + 1 < scanBound)
    (h : ∀ h', Heap.SameBut a s.heap h' → SetI P w h' a led (fun k' => S k' || decide (k' = k)) (if S k then n else n + 1) → Q (!S k) { s with heap := h' }) : wpAny (model P w) A (setAddHashed a x ((intKind P w).hash k)) Q E s := by
  obtain ⟨o, ents, ep, tb, ho, hex, hd, hel, hm, hb, hf, hn, hr, hled⟩ := q
  unfold setAddHashed setAddHashedIn
  refine wpAny_holding (wpAny_bind (wpAny_setState_of ho hd hf ?_))
  dsimp only
  rw [byScan_of hx hb hel, if_pos rfl]
  unfold setAddByScan
  refine wpAny_bind (wpAny_bind (wpAny_rule (wpAny_bind (wpAny_setScan_of hk ho hd hf hel ?_))))
  cases hi : List.findIdx? (fun e => (intKind P w).is k e.2) ents.toList with
  | some j =>
    dsimp only
    obtain ⟨hj, pj, _⟩ := List.findIdx?_eq_some_iff_getElem.mp hi
    have sk : S k = true := (hm k).mpr ⟨ents.toList[j], List.getElem_mem hj, pj⟩
    refine wpAny_pure (wpAny_pure ?_)
    have es : s = { s with heap := s.heap } := by cases s; rfl
    have fin := h s.heap (Heap.SameBut.refl a s.heap) ⟨o, ents, ep, tb, ho, hex, hd, hel, fun k' => by
      rw [Bool.or_eq_true, decide_eq_true_eq, ← hm k']
      exact ⟨fun z => z.elim id (fun e => e ▸ sk), .inl⟩, hb, hf, by rw [sk]; exact hn, hr, hled⟩
    rw [sk] at fin
    rw [es]
    exact fin
  | none =>
    dsimp only
    have sk : S k = false := by
      cases hs : S k with
      | false => rfl
      | true =>
        obtain ⟨e, he, pe⟩ := (hm k).mp hs
        have := List.findIdx?_eq_none_iff.mp hi e he
        rw [pe] at this
        cases this
    have gw : ∀ (b : Bool) (s₁ : Shared) (Q' : Unit → Shared → Prop), Q' () s₁ → wpAny (model P w) A (match b with | true => rule "set.scan.the-table-gave-way" | false => pure ()) Q' E s₁ :=
      fun b s₁ Q' hq => by cases b <;> first | exact wpAny_pure hq | exact wpAny_rule hq
    have pp := layNew_perm tb ents ((intKind P w).hash k) x
    have ff := layNew_fits tb ents ((intKind P w).hash k) x
    have rr := layNew_ris ents ((intKind P w).hash k) x hr
    generalize layNew tb ents ((intKind P w).hash k) x = z at pp ff rr ⊢
    obtain ⟨ents1, tb1, dm, gv⟩ := z
    dsimp only at pp ff rr ⊢
    rw [Array.toList_push] at pp
    have z1 : ents1.size = n + 1 := by rw [← Array.length_toList, pp.length_eq, List.length_append, Array.length_toList, hn]; rfl
    have fin : ∀ h', Heap.SameBut a s.heap h' → SetI P w h' a led (fun k' => S k' || decide (k' = k)) ents1.size → Q true { s with heap := h' } := fun h' sb q' => by
      have := h h' sb
      rw [sk] at this
      rw [z1] at q'
      exact this q'
    refine wpAny_bind (gw _ _ _ ?_)
    split
    · refine wpAny_bind ?_
      rw [hashByValue_scannable 8 hx]
      refine wpAny_pure (add_tail (led := led) (S := fun k' => S k' || decide (k' = k)) ?_ ho hex hd ((hel.push hk hx).perm pp) (mem_push_iff hk hm pp) (by rw [z1]; exact room) ?_ ?_ ?_ fun h' sb q' => ?_)
      · exact fun b s₁ Q' hq => by cases b <;> first | exact wpAny_pure hq | exact wpAny_rule hq
      · split
        · exact ff
        · exact SetTable.fits_plain_off ff
      · split
        · exact rr.1
        · exact rr.1
      · split
        · exact rr.2.trans hled
        · exact rr.2.trans hled
      · dsimp only
        exact wpAny_pure (fin h' sb q')
    · refine wpAny_bind (wpAny_pure ?_)
      simp only [↓reduceIte]
      refine add_tail (led := led) (S := fun k' => S k' || decide (k' = k)) ?_ ho hex hd ((hel.push hk hx).perm pp) (mem_push_iff hk hm pp) (by rw [z1]; exact room) ff rr.1 (rr.2.trans hled) fun h' sb q' => ?_
      · exact fun b s₁ Q' hq => by cases b <;> first | exact wpAny_pure hq | exact wpAny_rule hq
      · dsimp only
        exact wpAny_pure (fin h' sb q')
end
end L2
namespace L2
open PySem PySem.Spec PyProof.Rows
set_option maxRecDepth 100000
noncomputable def isLed (w : World) : Bool := !(w.params.followText "set-order")
section
variable {P : Program} {w : World} {A : Around} {R : Result → Shared → Prop} {I : Addr} {fp wr : List Addr} {G : Array GenState → Array GenState → Prop} {n : Nat} {Pv : Nat → Value → Prop} {St : Nat → Shared → Prop}
theorem upd_loop (W : WalksS P w A.in1 I fp wr G n Pv St) (S : Addr) (hS : S ∉ fp) {led : Bool} (val : Nat → Int) (hv : ∀ i v, Pv i v → ∃ t, v = .int (val i) t) (hb : n + 1 < scanBound) :
    ∀ (k i : Nat) (s : Shared), n - i = k → i ≤ n → St i s → SetI P w s.heap S led (fun j => (firstMet val i).any (· == j)) (firstMet val i).length →
      (∀ s', Moved (S :: wr) G s s' → SetI P w s'.heap S led (fun j => (firstMet val n).any (· == j)) (firstMet val n).length → R (.ok (.ret .none)) s') →
      codeAny (model P w) A (.builtin "set.update.loop" ⟨[.ref S, .ref I], []⟩) R s := by
  have hw : S ∉ wr := fun h => hS (W.sub _ h)
  have sub : ∀ b ∈ wr, b ∈ S :: wr := fun b h => List.mem_cons_of_mem _ h
  intro k
  induction k with
  | zero =>
    intro i s hk hi st q fin
    obtain rfl : i = n := by omega
    refine codeAny_builtin F.entry_set_update_loop ?_
    rw [Around.under_plainId F.plain_set_update_loop _]
    show wpAny _ A.in1 (pyNext (.ref I) >>= _) _ _ s
    refine wpAny_bind (W.done s _ _ st fun s' m => ?_)
    show wpAny _ A.in1 (ret Value.none) _ _ s'
    exact wpAny_pure (fin s' (m.mono sub) (q.stay fun o e => m.heap S o hw e))
  | succ k ih =>
    intro i s hk hi st q fin
    have lt : i < n := by omega
    refine codeAny_builtin F.entry_set_update_loop ?_
    rw [Around.under_plainId F.plain_set_update_loop _]
    show wpAny _ A.in1 (pyNext (.ref I) >>= _) _ _ s
    refine wpAny_bind (W.item i s _ _ lt st fun v s' hP st' m => ?_)
    obtain ⟨t, rfl⟩ := hv i v hP
    have q1 := q.stay fun o e => m.heap S o hw e
    show wpAny _ A.in1 (holding [Value.int (val i) t] (setAdd S (.int (val i) t)) >>= _) _ _ s'
    refine wpAny_bind (wpAny_holding ?_)
    unfold setAdd
    refine wpAny_holding (wpAny_bind ((intKind P w).pyHash (k := val i) (intKind_is _ _ _ _) ?_))
    have room : (firstMet val i).length + 1 < scanBound := by have := firstMet_length_le val i; omega
    refine add_led (s := { s' with toks := s'.toks + 1 }) (k := val i) (intKind_is _ _ _ _) rfl q1 room fun h' sb q2 => ?_
    have q3 : SetI P w h' S led (fun j => (firstMet val (i + 1)).any (· == j)) (firstMet val (i + 1)).length := q2.congr (fun j => by rw [firstMet_succ, step_any]) (by rw [firstMet_succ, step_length])
    refine wpAny_pure ⟨plainId_quiet F.plain_set_update_loop _, ih (i + 1) _ (by omega) lt (W.frame _ s' _ _ st' (Nat.le_succ _) fun b hb' o e => ?_) q3 fun s2 m2 q4 => ?_⟩
    · rw [sb.2 b fun h => hS (by rw [← h]; exact hb')]; exact e
    · refine fin s2 (Moved.trans W.gtrans ((m.mono sub).then_heap (Nat.le_succ _) fun b o hb' e => ?_) m2) q4
      rw [sb.2 b fun h => hb' (by rw [h]; exact List.mem_cons_self)]; exact e
end
section
variable {P : Program} {w : World} {A : Around} {E : Value → Shared → Prop} {s : Shared}
noncomputable abbrev newSetObj (led : Bool) : Obj := { cls := .type "set", dict := none, data := .set #[] 0 (.fresh 0 0 led) }
theorem set_new_led (a : Value) {Q : Value → Shared → Prop} (h : Q (.ref s.heap.objs.size) { s with heap := s.heap.push (newSetObj (isLed w)) }) :
    codeAny (model P w) A (.call (.builtin "set.__new__") ⟨[.type "set", a], []⟩) (wants Q E) s := by
  refine codeAny_of_tree ?_
  show wpAny _ A.in1 (do checkBuiltinCall "set.__new__" ⟨[.type "set", a], []⟩; again (.builtin "set.__new__" ⟨[.type "set", a], []⟩)) _ _ s
  refine wpAny_bind (wpAny_of_eq (F.newCall_set_1 a) (wpAny_pure ⟨plainId_quiet F.plain_set_new _, codeAny_builtin F.entry_set_new ?_⟩))
  rw [Around.under_plainId F.plain_set_new _]
  unfold Builtin.«set.__new__» Builtin.Frozenset.newClass
  have hsub := sub_set_self
  obtain ⟨hp, g, d, tk, os⟩ := s
  dsimp only
  wp_walk
  refine wpAny_askSetting (wpAny_pure ?_)
  dsimp only
  simp only [newObj]
  refine wpAny_bind (wpAny_alloc (wpAny_pure ?_))
  exact wpAny_pure h
theorem newSet_I (h : Heap) (led : Bool) : SetI P w (h.push (newSetObj led)) h.objs.size led (fun _ => false) 0 :=
  ⟨_, #[], 0, _, Heap.get?_push_size _ rfl, ⟨rfl, rfl, rfl⟩, rfl, fun e he => by simp at he, fun k => by simp, by decide, rfl, rfl, by unfold Ris; simp [SetTable.fresh], rfl⟩
end
end L2
namespace L2
open PySem PySem.Spec PyProof.Rows
set_option maxRecDepth 100000
section
variable {P : Program} {w : World} {A : Around} {E : Value → Shared → Prop} {s : Shared}
set_option maxHeartbeats 8000000 in
theorem call_set_led {l : Addr} {items : Array Value} {ns : List Int} {Q : Value → Shared → Prop} (hh : A.handled = none) (hl : s.heap.IsList l items) (hi : IntsAre items.toList ns) (hb : items.size + 1 < scanBound)
    (h : ∀ (h' : Heap) (tk : Nat), SetI P w h' s.heap.objs.size (isLed w) (fun j => (firstMet (fun i => ns.getD i 0) items.size).any (· == j)) (firstMet (fun i => ns.getD i 0) items.size).length →
      (∀ b o, b < s.heap.objs.size → s.heap.get? b = some o → h'.get? b = some o) → s.toks ≤ tk → Q (.ref s.heap.objs.size) { s with heap := h', toks := tk }) :
    wpAny (model P w) A (call (.type "set") [.ref l]) Q E s := by
  obtain ⟨c, tl, hmro⟩ := F.called_set.mro
  have hmade := F.called_set.made
  have hsub := F.called_set.sub
  refine wpAny_call (codeAny_of_tree ?_)
  show wpAny _ _ (callAny (.type "set") _) _ _ _
  refine wpAny_pure ⟨Code.quiet_builtin _ (by decide +kernel), codeAny_builtin F.entry_type_call ?_⟩
  rw [Around.under_plain (weight_type_call_type "set" [.ref l] []) rfl]
  have h1 := F.called_set.notType
  have h2 := F.called_set.canCreate
  have hct := F.typeCall_set_1 (.ref l)
  repeat (any_goals (first | assumption | wp_step))
  refine codeAny_mono (set_new_led (.ref l) (E := E) (Q := fun ob s₁ => ob = .ref s.heap.objs.size ∧ s₁ = { s with heap := s.heap.push (newSetObj (isLed w)) }) ⟨rfl, rfl⟩) fun r s₁ hr => ?_
  cases r with
  | error e => exact hr
  | ok fl =>
    cases fl with
    | ret ob =>
      obtain ⟨rfl, rfl⟩ := hr
      have g0 : (s.heap.push (newSetObj (isLed w))).get? s.heap.objs.size = some (newSetObj (isLed w)) := Heap.get?_push_size _ rfl
      have hT : Shared.TypeIs { s with heap := s.heap.push (newSetObj (isLed w)) } (.ref s.heap.objs.size) "set" := ⟨_, g0, rfl⟩
      have hli := F.called_set.init.lookup
      have hbi := F.called_set.init.bind (.ref s.heap.objs.size)
      repeat (any_goals (first | assumption | wp_step))
      refine codeAny_mono (codeAny_call_builtin (R := wants (fun r s₂ => r = .none ∧ ∃ h' tk, s₂ = { s with heap := h', toks := tk } ∧ s.toks ≤ tk ∧
          SetI P w h' s.heap.objs.size (isLed w) (fun j => (firstMet (fun i => ns.getD i 0) items.size).any (· == j)) (firstMet (fun i => ns.getD i 0) items.size).length ∧
          (∀ b o, b < s.heap.objs.size → s.heap.get? b = some o → h'.get? b = some o)) E) F.called_set.init.plain F.entry_set_init (check_set_init_1 hT ?_)) fun r₂ s₂ hr₂ => ?_
      · obtain ⟨⟨oc, od, odt, os⟩, hol, hcl, nl, hdl⟩ := hl
        simp only at hcl hdl
        subst hcl hdl
        have hol' : (s.heap.push (newSetObj (isLed w))).get? l = some { cls := .type "list", dict := od, data := .seq items nl, slots := os } := Heap.get?_push_of_some _ hol
        have k1 := F.sub_list_set
        have k2 := F.sub_list_frozenset
        have k3 : (Value.type "list" == Value.type "dict") = false := by decide
        have hl1 : (s.heap.push (newSetObj (isLed w))).IsList l items := ⟨_, hol', rfl, nl, rfl⟩
        unfold Builtin.«set.__init__» noKeywords Builtin.Frozenset.updateFrom
        generalize hPI : pyIter = PI
        wp_walk
        subst hPI
        refine wpAny_pyIter_list hl1 (wpAny_bind (wpAny_runValue ?_))
        have lt : l < s.heap.objs.size := Heap.lt_size hol
        have hh3 : A.in1.in1.in1.handled = none := by simp [hh]
        have ne1 : l ≠ (s.heap.push (newSetObj (isLed w))).objs.size := by rw [Heap.size_push]; exact Nat.ne_of_lt (Nat.lt_succ_of_lt lt)
        have nin : s.heap.objs.size ∉ [(s.heap.push (newSetObj (isLed w))).objs.size, l] := by
          rw [Heap.size_push]
          simp only [List.mem_cons, List.not_mem_nil, or_false, not_or]
          exact ⟨Nat.ne_of_lt (Nat.lt_succ_self _), Nat.ne_of_gt lt⟩
        have hv : ∀ (i : Nat) (v : Value), items[i]? = some v → ∃ t, v = .int ((fun i => ns.getD i 0) i) t := fun i v hv => IntsAre.int_at hi i v (by rw [Array.getElem?_toList]; exact hv)
        refine upd_loop (led := isLed w) ((Walks.list hh3 _ l ne1 items).toS) s.heap.objs.size nin (fun i => ns.getD i 0) hv hb (items.size - 0) 0 _ (by omega) (Nat.zero_le _) ⟨⟨_, Heap.get?_push_size _ rfl, rfl, rfl⟩, (hl1.push _)⟩ ?hS0 ?hR
        case hS0 => exact ((newSet_I (P := P) (w := w) s.heap (isLed w)).stay fun o e => Heap.get?_push_of_some _ e).congr (fun _ => rfl) rfl
        case hR =>
          intro s' hm hS'
          obtain ⟨h', g', d', tk', os'⟩ := s'
          have eg : g' = s.gens := hm.gens
          have ed : d' = s.drawn := hm.drawn
          have eo : os' = s.os := hm.os
          subst eg ed eo
          show wpAny _ _ _ _ _ _
          refine wpAny_pure ?_
          show wpAny _ _ (ret Value.none) _ _ _
          refine wpAny_pure ⟨rfl, h', tk', rfl, hm.toks, hS', fun b o hb' e => ?_⟩
          have n2 : b ≠ (s.heap.push (newSetObj (isLed w))).objs.size := by rw [Heap.size_push]; exact Nat.ne_of_lt (Nat.lt_succ_of_lt hb')
          refine hm.heap b o ?_ (Heap.get?_push_of_some _ (Heap.get?_push_of_some _ e))
          simp only [List.mem_cons, List.not_mem_nil, or_false, not_or]
          exact ⟨Nat.ne_of_lt hb', n2⟩
      · cases r₂ with
        | error e => exact hr₂
        | ok fl₂ =>
          cases fl₂ with
          | ret r =>
            obtain ⟨rfl, h', tk, rfl, htk, q', kk⟩ := hr₂
            repeat (any_goals (first | assumption | wp_step))
            exact h _ _ q' kk htk
          | _ => exact hr₂.elim
    | _ => exact hr.elim
end
end L2
namespace L2
open PySem PySem.Spec PyProof.Rows
set_option maxRecDepth 100000
theorem erase_perm {α : Type} : ∀ (l : List α) (i : Nat) (x : α), l[i]? = some x → (x :: l.eraseIdx i).Perm l
  | [], _, _, h => by simp at h
  | y :: l, 0, x, h => by simp at h; subst h; simp
  | y :: l, i + 1, x, h => by
    have := erase_perm l i x (by simpa using h)
    rw [List.eraseIdx_cons_succ]
    exact (List.Perm.swap y x _).trans (List.Perm.cons y this)
theorem pick_go {α : Type} (next : Nat → Nat) : ∀ (fuel k : Nat) (left : List α) (out : Array α), left.length = fuel → (pickOrder.go next fuel k left out).toList.Perm (out.toList ++ left)
  | 0, k, left, out, h => by
    obtain rfl : left = [] := List.length_eq_zero_iff.mp h
    unfold pickOrder.go
    simp
  | fuel + 1, k, left, out, h => by
    unfold pickOrder.go
    have hlt : next k % left.length < left.length := Nat.mod_lt _ (by omega)
    have hx : left[next k % left.length]? = some left[next k % left.length] := List.getElem?_eq_getElem hlt
    rw [hx]
    dsimp only
    refine (pick_go next fuel (k + 1) _ _ (by rw [List.length_eraseIdx_of_lt hlt]; omega)).trans ?_
    rw [Array.toList_push, List.append_assoc]
    exact List.Perm.append_left _ (erase_perm left _ _ hx)
theorem pick_perm {α : Type} (next : Nat → Nat) (xs : Array α) : (pickOrder next xs).toList.Perm xs.toList := by
  have := pick_go next xs.size 0 xs.toList #[] (by simp)
  simpa [pickOrder] using this
section
variable {P : Program} {w : World} {A : Around} {E : Value → Shared → Prop}
theorem choose_any {src : Source} {n : Nat} {s : Shared} {Q : Nat → Shared → Prop} (hn : n ≠ 0) (h : ∀ i, i < n → Q i { s with drawn := s.drawn.bump src }) : wpAny (model P w) A (choose src n) Q E s := fun Γ p hΓ =>
  ⟨hn, h _ (Nat.mod_lt _ (Nat.pos_of_ne_zero hn))⟩
theorem draw_any {α : Type} : ∀ (n : Nat) (xs : List α) {s : Shared} {Q : List α → Shared → Prop}, xs.length = n → (∀ ys d, ys.Perm xs → Q ys { s with drawn := d }) → wpAny (model P w) A (drawOrder n xs) Q E s
  | 0, xs, s, Q, hl, h => by
    obtain rfl : xs = [] := List.length_eq_zero_iff.mp hl
    unfold drawOrder
    have := h [] s.drawn (List.Perm.refl _)
    exact wpAny_pure (by cases s; exact this)
  | n + 1, [], s, Q, hl, h => by cases hl
  | n + 1, x :: xs, s, Q, hl, h => by
    unfold drawOrder
    refine wpAny_bind (choose_any (by simp) fun i hi => ?_)
    have hx : (x :: xs)[i]? = some ((x :: xs)[i]) := List.getElem?_eq_getElem hi
    rw [hx]
    dsimp only
    refine wpAny_bind (draw_any n _ (by rw [List.length_eraseIdx_of_lt hi]; omega) fun ys d hp => wpAny_pure ?_)
    exact h _ d ((List.Perm.cons _ hp).trans (erase_perm _ _ _ hx))
end
end L2
namespace L2
open PySem PySem.Spec PyProof.Rows
set_option maxRecDepth 100000
theorem slot_setit_next : Slot "set_iterator" "__next__" "set_iterator.__next__" :=
  .of (owner := "set_iterator") (n := "__next__") (by rw [typeLookup_type, builtinLookup_eq_fast]; kernel_rfl) (by decide +kernel) (by decide +kernel) (by decide +kernel) (by first | exact .inl (by decide +kernel) | exact .inr (by decide +kernel)) (by rw [isSubtype_type]; kernel_rfl)
theorem entry_setit_next : entryFor table "set_iterator.__next__" = some Builtin.«set_iterator.__next__» := entryFor_of_fast (by kernel_rfl)
theorem args_setit_next (a : Value) : argsOk "set_iterator.__next__" ⟨[a], []⟩ := by unfold argsOk; kernel_rfl
theorem slot_setit_iter : Slot "set_iterator" "__iter__" "set_iterator.__iter__" :=
  .of (owner := "set_iterator") (n := "__iter__") (by rw [typeLookup_type, builtinLookup_eq_fast]; kernel_rfl) (by decide +kernel) (by decide +kernel) (by decide +kernel) (by first | exact .inl (by decide +kernel) | exact .inr (by decide +kernel)) (by rw [isSubtype_type]; kernel_rfl)
theorem entry_setit_iter : entryFor table "set_iterator.__iter__" = some Builtin.«dict_keyiterator.__iter__» :=
  entryFor_alias (id' := "dict_keyiterator.__iter__") (by kernel_rfl) (by first | rfl | decide +kernel | (unfold String.splitOn; simp +decide [String.splitOnAux])) (by decide +kernel) (by kernel_rfl)
theorem args_setit_iter (a : Value) : argsOk "set_iterator.__iter__" ⟨[a], []⟩ := by unfold argsOk; kernel_rfl
noncomputable abbrev SetItr (h : Heap) (I : Addr) (first : Value) (i : Nat) (a : Addr) (n ep : Nat) : Prop :=
  h.get? I = some { cls := .type "set_iterator", dict := none, data := .fields #[first, rawInt i, .ref a, rawInt n, rawInt ep], slots := #[] }
section
variable {P : Program} {w : World} {A : Around} {E : Value → Shared → Prop} {s : Shared}
theorem setit_item {I a : Addr} {slot slot' i n ep : Nat} {o : Obj} {ents : Array (Int × Value)} {tb : SetTable} {v : Value} {Q : Option Value → Shared → Prop} (hI : SetItr s.heap I (rawInt slot) i a n ep) (ho : s.heap.get? a = some o) (hd : o.data = .set ents ep tb) (hf : tb.fits ents.size = true) (hn : ents.size = n)
    (hN : ∀ (A' : Around) (E' : Value → Shared → Prop) (R : Option (Value × Nat) → Shared → Prop), R (some (v, slot')) s → wpAny (model P w) A' (setNext a slot i ep) R E' s)
    (hQ : ∀ h', SetItr h' I (rawInt slot') (i + 1) a n ep → Heap.SameBut I s.heap h' → Q (some v) { s with heap := h' }) : wpAny (model P w) A (pyNext (.ref I)) Q E s := by
  have hT : s.TypeIs (.ref I) "set_iterator" := ⟨_, hI, rfl⟩
  unfold pyNext
  refine wpAny_bind (wpAny_attempt (wpAny_callSpecial?_slot (name := Str.ofString "__next__") hT slot_setit_next (wpAny_call_entry slot_setit_next hT entry_setit_next ?_ (args_setit_next _))))
  show wpAny _ _ (fieldsOf (.ref I) >>= _) _ _ s
  refine wpAny_bind (wpAny_fieldsOf hI rfl ?_)
  show wpAny _ _ (setEntries a >>= _) _ _ s
  refine wpAny_bind (wpAny_setEntries_of ho hd hf ?_)
  have e1 : (((ents.size : Nat) : Int) != (n : Int)) = false := by rw [hn]; simp
  show wpAny _ _ (if (((ents.size : Nat) : Int) != (n : Int)) = true then _ else _) _ _ s
  rw [e1, if_neg Bool.false_ne_true]
  show wpAny _ _ (setNext a ((slot : Nat) : Int).toNat ((i : Nat) : Int).toNat ((ep : Nat) : Int).toNat >>= _) _ _ s
  rw [Int.toNat_natCast, Int.toNat_natCast, Int.toNat_natCast]
  refine wpAny_bind (hN _ _ _ ?_)
  refine wpAny_bind (wpAny_setField_rec hI (by simp) fun h1 g1 s1 => ?_)
  refine wpAny_bind (wpAny_setField_rec g1 (by simp) fun h2 g2 s2 => wpAny_pure ⟨v, rfl, wpAny_pure (hQ h2 ?_ (Heap.SameBut.trans s1 s2))⟩)
  show h2.get? I = _
  rw [g2]
  simp [rawInt]
theorem setit_end {I a : Addr} {slot i n ep : Nat} {o : Obj} {ents : Array (Int × Value)} {tb : SetTable} {Q : Option Value → Shared → Prop} (hh : A.handled = none) (hI : SetItr s.heap I (rawInt slot) i a n ep) (ho : s.heap.get? a = some o) (hd : o.data = .set ents ep tb) (hf : tb.fits ents.size = true) (hn : ents.size = n)
    (hN : ∀ (A' : Around) (E' : Value → Shared → Prop) (R : Option (Value × Nat) → Shared → Prop), R none s → wpAny (model P w) A' (setNext a slot i ep) R E' s)
    (hQ : ∀ h', Heap.ExtBut I s.heap h' → Q none { s with heap := h' }) : wpAny (model P w) A (pyNext (.ref I)) Q E s := by
  have hT : s.TypeIs (.ref I) "set_iterator" := ⟨_, hI, rfl⟩
  unfold pyNext
  refine wpAny_bind (wpAny_attempt (wpAny_callSpecial?_slot (name := Str.ofString "__next__") hT slot_setit_next (wpAny_call_entry slot_setit_next hT entry_setit_next ?_ (args_setit_next _))))
  show wpAny _ _ (fieldsOf (.ref I) >>= _) _ _ s
  refine wpAny_bind (wpAny_fieldsOf hI rfl ?_)
  show wpAny _ _ (setEntries a >>= _) _ _ s
  refine wpAny_bind (wpAny_setEntries_of ho hd hf ?_)
  have e1 : (((ents.size : Nat) : Int) != (n : Int)) = false := by rw [hn]; simp
  show wpAny _ _ (if (((ents.size : Nat) : Int) != (n : Int)) = true then _ else _) _ _ s
  rw [e1, if_neg Bool.false_ne_true]
  show wpAny _ _ (setNext a ((slot : Nat) : Int).toNat ((i : Nat) : Int).toNat ((ep : Nat) : Int).toNat >>= _) _ _ s
  rw [Int.toNat_natCast, Int.toNat_natCast, Int.toNat_natCast]
  refine wpAny_bind (hN _ _ _ ?_)
  refine wpAny_bind (wpAny_setField_rec hI (by simp) fun h1 g1 s1 => ?_)
  show wpAny _ _ (newExc (.type "StopIteration") [] >>= _) _ _ _
  refine wpAny_bind ?_
  simp only [newExc, newTuple]
  refine wpAny_bind (wpAny_newObj_type ?_ (by size_fits))
  refine wpAny_bind (m := firstArgMember _ _) (wpAny_of_eq (a := Value.none) (by first | rfl | (simp only [firstArgMember]; rfl)) ?_)
  refine wpAny_newObj_type ?_ (by size_fits)
  simp only [raiseNew]
  refine wpAny_bind (wpAny_handled ?_)
  rw [show A.in1.handled = none from hh]
  refine wpAny_bind (wpAny_pure (wpAny_throw ?_))
  refine wpAny_bind (wpAny_isInstance (T := "StopIteration") (b := true) ⟨_, Heap.get?_push_size _ rfl, rfl⟩ isSubtype_stop ?_)
  exact wpAny_pure (hQ _ ((s1.extBut.push _).push _))

theorem setit_itemD {I a T : Addr} {i n ep pl : Nat} {o : Obj} {ents : Array (Int × Value)} {tb : SetTable} {pls : Array Value} {hx : Int} {v : Value} {Q : Option Value → Shared → Prop} (hI : SetItr s.heap I (.ref T) i a n ep) (ho : s.heap.get? a = some o) (hd : o.data = .set ents ep tb) (hf : tb.fits ents.size = true) (hn : ents.size = n)
    (hT : s.heap.get? T = some { cls := .type "tuple", data := .seq pls }) (hp : pls[i]? = some (rawInt pl)) (he : ents[pl]? = some (hx, v))
    (hQ : ∀ h', SetItr h' I (.ref T) (i + 1) a n ep → Heap.SameBut I s.heap h' → Q (some v) { s with heap := h' }) : wpAny (model P w) A (pyNext (.ref I)) Q E s := by
  have hTy : s.TypeIs (.ref I) "set_iterator" := ⟨_, hI, rfl⟩
  unfold pyNext
  refine wpAny_bind (wpAny_attempt (wpAny_callSpecial?_slot (name := Str.ofString "__next__") hTy slot_setit_next (wpAny_call_entry slot_setit_next hTy entry_setit_next ?_ (args_setit_next _))))
  show wpAny _ _ (fieldsOf (.ref I) >>= _) _ _ s
  refine wpAny_bind (wpAny_fieldsOf hI rfl ?_)
  show wpAny _ _ (setEntries a >>= _) _ _ s
  refine wpAny_bind (wpAny_setEntries_of ho hd hf ?_)
  have e1 : (((ents.size : Nat) : Int) != (n : Int)) = false := by rw [hn]; simp
  show wpAny _ _ (if (((ents.size : Nat) : Int) != (n : Int)) = true then _ else _) _ _ s
  rw [e1, if_neg Bool.false_ne_true]
  show wpAny _ _ (seqItems? (.ref T) >>= _) _ _ s
  refine wpAny_bind (wpAny_seqItems hT rfl ?_)
  show wpAny _ _ (match pls[((i : Nat) : Int).toNat]? with | some (.int place _) => _ | some _ => _ | none => _) _ _ s
  rw [Int.toNat_natCast, hp]
  show wpAny _ _ (setNextDrawn a ((pl : Nat) : Int).toNat ((ep : Nat) : Int).toNat >>= _) _ _ s
  rw [Int.toNat_natCast, Int.toNat_natCast]
  refine wpAny_bind ?_
  unfold setNextDrawn
  refine wpAny_bind (wpAny_setState_of ho hd hf ?_)
  dsimp only
  rw [if_neg (by simp)]
  rw [he]
  refine wpAny_pure ?_
  refine wpAny_bind (wpAny_setField_rec hI (by simp) fun h1 g1 s1 => wpAny_pure ⟨v, rfl, wpAny_pure (hQ h1 ?_ s1)⟩)
  show h1.get? I = _
  rw [g1]
  simp [rawInt]
theorem setit_endD {I a T : Addr} {i n ep : Nat} {pls : Array Value} {o : Obj} {ents : Array (Int × Value)} {tb : SetTable} {Q : Option Value → Shared → Prop} (hh : A.handled = none) (hI : SetItr s.heap I (.ref T) i a n ep) (ho : s.heap.get? a = some o) (hd : o.data = .set ents ep tb) (hf : tb.fits ents.size = true) (hn : ents.size = n)
    (hTu : s.heap.get? T = some { cls := .type "tuple", data := .seq pls }) (hp : pls[i]? = none)
    (hQ : ∀ h', Heap.ExtBut I s.heap h' → Q none { s with heap := h' }) : wpAny (model P w) A (pyNext (.ref I)) Q E s := by
  have hT : s.TypeIs (.ref I) "set_iterator" := ⟨_, hI, rfl⟩
  unfold pyNext
  refine wpAny_bind (wpAny_attempt (wpAny_callSpecial?_slot (name := Str.ofString "__next__") hT slot_setit_next (wpAny_call_entry slot_setit_next hT entry_setit_next ?_ (args_setit_next _))))
  show wpAny _ _ (fieldsOf (.ref I) >>= _) _ _ s
  refine wpAny_bind (wpAny_fieldsOf hI rfl ?_)
  show wpAny _ _ (setEntries a >>= _) _ _ s
  refine wpAny_bind (wpAny_setEntries_of ho hd hf ?_)
  have e1 : (((ents.size : Nat) : Int) != (n : Int)) = false := by rw [hn]; simp
  show wpAny _ _ (if (((ents.size : Nat) : Int) != (n : Int)) = true then _ else _) _ _ s
  rw [e1, if_neg Bool.false_ne_true]
  show wpAny _ _ (seqItems? (.ref T) >>= _) _ _ s
  refine wpAny_bind (wpAny_seqItems hTu rfl ?_)
  show wpAny _ _ (match pls[((i : Nat) : Int).toNat]? with | some (.int place _) => _ | some _ => _ | none => _) _ _ s
  rw [Int.toNat_natCast, hp]
  refine wpAny_bind (wpAny_setField_rec hI (by simp) fun h0 g0 s0 => ?_)
  refine wpAny_bind (wpAny_setField_rec g0 (by simp) fun h1 g1 s1 => ?_)
  show wpAny _ _ (newExc (.type "StopIteration") [] >>= _) _ _ _
  refine wpAny_bind ?_
  simp only [newExc, newTuple]
  refine wpAny_bind (wpAny_newObj_type ?_ (by size_fits))
  refine wpAny_bind (m := firstArgMember _ _) (wpAny_of_eq (a := Value.none) (by first | rfl | (simp only [firstArgMember]; rfl)) ?_)
  refine wpAny_newObj_type ?_ (by size_fits)
  simp only [raiseNew]
  refine wpAny_bind (wpAny_handled ?_)
  rw [show A.in1.handled = none from hh]
  refine wpAny_bind (wpAny_pure (wpAny_throw ?_))
  refine wpAny_bind (wpAny_isInstance (T := "StopIteration") (b := true) ⟨_, Heap.get?_push_size _ rfl, rfl⟩ isSubtype_stop ?_)
  exact wpAny_pure (hQ _ (((Heap.SameBut.trans s0 s1).extBut.push _).push _))
end
end L2
namespace L2
open PySem PySem.Spec PyProof.Rows
set_option maxRecDepth 100000
theorem entry_set_iter : entryFor table "set.__iter__" = some Builtin.«frozenset.__iter__» :=
  entryFor_alias (id' := "frozenset.__iter__") (by kernel_rfl) (by first | rfl | decide +kernel | (unfold String.splitOn; simp +decide [String.splitOnAux])) (by decide +kernel) (by kernel_rfl)
noncomputable def slotAt (pl : Array Nat) : Nat → Nat
  | 0 => 0
  | i + 1 => pl.getD i 0 + 1
theorem slotAt_succ {pl : Array Nat} {i : Nat} (hi : i < pl.size) : slotAt pl (i + 1) = pl[i] + 1 := by
  show pl.getD i 0 + 1 = _
  simp [Array.getD, hi]
theorem fm_map {α β : Type} {f : α → Option β} {g : α → β} : ∀ (l : List α), (∀ x ∈ l, f x = some (g x)) → l.filterMap f = l.map g
  | [], _ => rfl
  | x :: l, h => by rw [List.filterMap_cons, h x List.mem_cons_self, List.map_cons, fm_map l fun y hy => h y (List.mem_cons_of_mem _ hy)]
theorem below_slot {pl : Array Nat} (h : Ris pl) : ∀ i, i ≤ pl.size → SetTable.below pl (slotAt pl i) = i
  | 0, _ => below_zero h
  | i + 1, hi => by
    rw [slotAt_succ (by omega)]
    exact below_next h (by omega)
section
variable {P : Program} {w : World} {A : Around} {E : Value → Shared → Prop} {s : Shared} {a : Addr} {o : Obj} {ents : Array (Int × Value)} {ep : Nat} {tb : SetTable}
theorem byText_is {Q : Bool → Shared → Prop} (h : Q (w.params.followText "set-order") s) : wpAny (model P w) A setsByText Q E s := by
  unfold setsByText
  exact wpAny_bind (wpAny_askSetting (wpAny_pure h))
theorem next_text {slot i : Nat} {R : Option (Value × Nat) → Shared → Prop} (ho : s.heap.get? a = some o) (hd : o.data = .set ents ep tb) (hf : tb.fits ents.size = true) (ht : w.params.followText "set-order" = true)
    (h : R (((pickOrder (w.params.setOrder a ep) ents)[i]?).map fun e => (e.2, slot)) s) : wpAny (model P w) A (setNext a slot i ep) R E s := by
  unfold setNext
  refine wpAny_bind (wpAny_setState_of ho hd hf ?_)
  dsimp only
  refine wpAny_bind (byText_is ?_)
  rw [ht, if_pos rfl, if_neg (by simp)]
  refine wpAny_bind ?_
  unfold setWalk
  refine wpAny_bind (wpAny_setState_of ho hd hf ?_)
  dsimp only
  refine wpAny_bind (byText_is ?_)
  rw [ht, if_pos rfl]
  refine wpAny_bind (wpAny_askSetting (wpAny_pure (wpAny_pure ?_)))
  exact h
theorem next_place {slot i : Nat} {R : Option (Value × Nat) → Shared → Prop} (ho : s.heap.get? a = some o) (hd : o.data = .set ents ep tb) (hf : tb.fits ents.size = true) (ht : w.params.followText "set-order" = false) (hw : (!tb.plain && decide (ents.size > 1)) = false) (hled : tb.led = true)
    (h : R (match ents[SetTable.below tb.place slot]?, tb.place[SetTable.below tb.place slot]? with | some (_, x), some j => some (x, j + 1) | _, _ => none) s) : wpAny (model P w) A (setNext a slot i ep) R E s := by
  unfold setNext
  refine wpAny_bind (wpAny_setState_of ho hd hf ?_)
  dsimp only
  refine wpAny_bind (byText_is ?_)
  rw [ht, if_neg Bool.false_ne_true]
  show wpAny _ _ (if (!tb.plain && decide (ents.size > 1)) = true then _ else _) _ _ s
  rw [hw, if_neg Bool.false_ne_true]
  show wpAny _ _ ((if (!tb.led && !ents.isEmpty) = true then unsupported "set:maker-not-led" else pure ()) >>= _) _ _ s
  rw [hled, Bool.not_true, Bool.false_and, if_neg Bool.false_ne_true]
  exact wpAny_bind (wpAny_pure (wpAny_pure h))
end
section
variable {P : Program} {w : World} {a I T : Addr} {o : Obj} {ents : Array (Int × Value)} {ep n : Nat} {tb : SetTable}
theorem setit_self {A : Around} {E : Value → Shared → Prop} {s : Shared} {first : Value} {i : Nat} {Q : Value → Shared → Prop} (hI : SetItr s.heap I first i a n ep) (h : Q (.ref I) s) : wpAny (model P w) A (pyIter (.ref I)) Q E s := by
  have hT : s.TypeIs (.ref I) "set_iterator" := ⟨_, hI, rfl⟩
  refine wpAny_pyIter_slot hT slot_setit_iter (wpAny_call_entry slot_setit_iter hT entry_setit_iter ?_ (args_setit_iter _))
  show wpAny _ _ (ret (.ref I)) _ _ s
  exact wpAny_pure ⟨_, rfl, "set_iterator", _, hT, slot_setit_next.lookup, h⟩
theorem walks_text {A : Around} (hh : A.handled = none) (ne : a ≠ I) (hd : o.data = .set ents ep tb) (hf : tb.fits ents.size = true) (hn : ents.size = n) (ht : w.params.followText "set-order" = true) :
    WalksS P w A I [I, a] [I] (fun x y => y = x) n (fun i v => ((pickOrder (w.params.setOrder a ep) ents).toList.map (·.2))[i]? = some v) (fun i s => SetItr s.heap I (rawInt ((0 : Nat) : Int)) i a n ep ∧ s.heap.get? a = some o) where
  sub := fun b hb => by simp at hb; simp [hb]
  grefl := fun _ => rfl
  gtrans := fun _ _ _ h1 h2 => h2.trans h1
  frame := fun i s h' tk st _ hk => ⟨hk I (by simp) _ st.1, hk a (by simp) _ st.2⟩
  item := fun i s Q E hi st hQ => by
    have hz : (pickOrder (w.params.setOrder a ep) ents).size = n := by rw [← Array.length_toList, (pick_perm _ _).length_eq, Array.length_toList, hn]
    have hx : (pickOrder (w.params.setOrder a ep) ents)[i]? = some (pickOrder (w.params.setOrder a ep) ents)[i] := Array.getElem?_eq_getElem (by omega)
    refine setit_item st.1 st.2 hd hf hn (v := ((pickOrder (w.params.setOrder a ep) ents)[i]'(by omega)).2) (slot' := 0) (fun A' E' R r => next_text st.2 hd hf ht (by rw [hx]; exact r)) fun h' g sb => ?_
    refine hQ _ _ (by rw [List.getElem?_map, Array.getElem?_toList, hx]; rfl) ⟨g, (sb.2 a ne).trans st.2⟩ ⟨fun b o' hb e => (sb.2 b (fun h => hb (by simp [h]))).trans e, rfl, rfl, rfl, Nat.le_refl _⟩
  done := fun s Q E st hQ => by
    have hz : (pickOrder (w.params.setOrder a ep) ents).size = n := by rw [← Array.length_toList, (pick_perm _ _).length_eq, Array.length_toList, hn]
    have hx : (pickOrder (w.params.setOrder a ep) ents)[n]? = none := Array.getElem?_eq_none (by omega)
    exact setit_end hh st.1 st.2 hd hf hn (fun A' E' R r => next_text st.2 hd hf ht (by rw [hx]; exact r)) fun h' eb => hQ _ ⟨fun b o' hb e => eb b o' (fun h => hb (by simp [h])) e, rfl, rfl, rfl, Nat.le_refl _⟩
  self := fun i s Q E st hQ => setit_self st.1 hQ
theorem walks_place {A : Around} (hh : A.handled = none) (ne : a ≠ I) (hd : o.data = .set ents ep tb) (hf : tb.fits ents.size = true) (hn : ents.size = n) (ht : w.params.followText "set-order" = false) (hw : (!tb.plain && decide (ents.size > 1)) = false) (hled : tb.led = true) (hr : Ris tb.place) :
    WalksS P w A I [I, a] [I] (fun x y => y = x) n (fun i v => (ents.toList.map (·.2))[i]? = some v) (fun i s => SetItr s.heap I (rawInt ((slotAt tb.place i : Nat) : Int)) i a n ep ∧ s.heap.get? a = some o) where
  sub := fun b hb => by simp at hb; simp [hb]
  grefl := fun _ => rfl
  gtrans := fun _ _ _ h1 h2 => h2.trans h1
  frame := fun i s h' tk st _ hk => ⟨hk I (by simp) _ st.1, hk a (by simp) _ st.2⟩
  item := fun i s Q E hi st hQ => by
    have hz : tb.place.size = ents.size := by simp only [SetTable.fits, Bool.and_eq_true, beq_iff_eq] at hf; exact hf.1
    have hb := below_slot hr i (by omega)
    have hx : ents[i]? = some ents[i] := Array.getElem?_eq_getElem (by omega)
    have hp : tb.place[i]? = some tb.place[i] := Array.getElem?_eq_getElem (by omega)
    have es : slotAt tb.place (i + 1) = tb.place[i]'(by omega) + 1 := slotAt_succ (by omega)
    refine setit_item st.1 st.2 hd hf hn (v := (ents[i]'(by omega)).2) (slot' := slotAt tb.place (i + 1)) (fun A' E' R r => next_place st.2 hd hf ht hw hled (by rw [hb, hx, hp]; rw [es] at r; exact r)) fun h' g sb => ?_
    refine hQ _ _ (by rw [List.getElem?_map, Array.getElem?_toList, hx]; rfl) ⟨g, (sb.2 a ne).trans st.2⟩ ⟨fun b o' hb e => (sb.2 b (fun h => hb (by simp [h]))).trans e, rfl, rfl, rfl, Nat.le_refl _⟩
  done := fun s Q E st hQ => by
    have hz : tb.place.size = ents.size := by simp only [SetTable.fits, Bool.and_eq_true, beq_iff_eq] at hf; exact hf.1
    have hb := below_slot hr n (by omega)
    have hx : ents[n]? = none := Array.getElem?_eq_none (by omega)
    exact setit_end hh st.1 st.2 hd hf hn (fun A' E' R r => next_place st.2 hd hf ht hw hled (by rw [hb, hx]; exact r)) fun h' eb => hQ _ ⟨fun b o' hb e => eb b o' (fun h => hb (by simp [h])) e, rfl, rfl, rfl, Nat.le_refl _⟩
  self := fun i s Q E st hQ => setit_self st.1 hQ
theorem walks_drawn {A : Around} (hh : A.handled = none) (ne : a ≠ I) (nT : T ≠ I) (hd : o.data = .set ents ep tb) (hf : tb.fits ents.size = true) (hn : ents.size = n) {ord : List Nat} (hp : ord.Perm (List.range n)) :
    WalksS P w A I [I, a, T] [I] (fun x y => y = x) n (fun i v => (ord.filterMap fun j => (ents[j]?).map (·.2))[i]? = some v)
      (fun i s => SetItr s.heap I (.ref T) i a n ep ∧ s.heap.get? a = some o ∧ s.heap.get? T = some { cls := .type "tuple", data := .seq (ord.map fun (j : Nat) => rawInt j).toArray }) where
  sub := fun b hb => by simp at hb; simp [hb]
  grefl := fun _ => rfl
  gtrans := fun _ _ _ h1 h2 => h2.trans h1
  frame := fun i s h' tk st _ hk => ⟨hk I (by simp) _ st.1, hk a (by simp) _ st.2.1, hk T (by simp) _ st.2.2⟩
  item := fun i s Q E hi st hQ => by
    have hl : ord.length = n := by rw [hp.length_eq, List.length_range]
    have lt : ∀ j ∈ ord, j < ents.size := fun j hj => by rw [hn]; exact List.mem_range.mp (hp.mem_iff.mp hj)
    have hj : ord[i]? = some (ord[i]'(by omega)) := List.getElem?_eq_getElem (by omega)
    have hlt : ord[i]'(by omega) < ents.size := lt _ (List.getElem_mem _)
    have hx : ents[ord[i]'(by omega)]? = some (ents[ord[i]'(by omega)]) := Array.getElem?_eq_getElem hlt
    have em : (ord.filterMap fun j => (ents[j]?).map (·.2)) = ord.map fun j => ((ents[j]?).map (·.2)).getD .none := by
      refine fm_map ord fun j hj => ?_
      have : ents[j]? = some (ents[j]'(lt j hj)) := Array.getElem?_eq_getElem (lt j hj)
      rw [this]
      rfl
    refine setit_itemD st.1 st.2.1 hd hf hn st.2.2 (pl := ord[i]'(by omega)) (hx := (ents[ord[i]'(by omega)]).1) (v := (ents[ord[i]'(by omega)]).2) (by rw [List.getElem?_toArray, List.getElem?_map, hj]; rfl) hx fun h' g sb => ?_
    refine hQ _ _ ?_ ⟨g, (sb.2 a ne).trans st.2.1, (sb.2 T nT).trans st.2.2⟩ ⟨fun b o' hb e => (sb.2 b (fun h => hb (by simp [h]))).trans e, rfl, rfl, rfl, Nat.le_refl _⟩
    rw [em, List.getElem?_map, hj]
    simp only [Option.map_some, hx]
    rfl
  done := fun s Q E st hQ => by
    have hl : ord.length = n := by rw [hp.length_eq, List.length_range]
    exact setit_endD hh st.1 st.2.1 hd hf hn st.2.2 (by rw [List.getElem?_toArray]; exact List.getElem?_eq_none (by simp; omega)) fun h' eb => hQ _ ⟨fun b o' hb e => eb b o' (fun h => hb (by simp [h])) e, rfl, rfl, rfl, Nat.le_refl _⟩
  self := fun i s Q E st hQ => setit_self st.1 hQ
end
end L2
namespace L2
open PySem PySem.Spec PyProof.Rows
set_option maxRecDepth 100000
theorem ints_of {P : Program} {w : World} : ∀ (l : List (Int × Value)), ElemsOf (intKind P w) l → ∃ ns : List Int, IntsAre (l.map (·.2)) ns ∧ ∀ k, (∃ e ∈ l, (intKind P w).is k e.2 = true) ↔ k ∈ ns
  | [], _ => ⟨[], .nil, fun k => by simp⟩
  | e :: l, h => by
    obtain ⟨ns, h1, h2⟩ := ints_of l h.tail
    obtain ⟨⟨k, hk, _⟩, _⟩ := h.head
    obtain ⟨t, et⟩ := Value.isInt_shape hk
    refine ⟨k :: ns, by rw [List.map_cons, et]; exact .cons k t h1, fun j => ?_⟩
    rw [List.mem_cons, ← h2 j]
    constructor
    · rintro ⟨x, hx, q⟩
      rcases List.mem_cons.mp hx with rfl | hx
      · exact .inl ((intKind P w).inj _ _ _ q hk)
      · exact .inr ⟨x, hx, q⟩
    · rintro (rfl | ⟨x, hx, q⟩)
      · exact ⟨e, List.mem_cons_self, hk⟩
      · exact ⟨x, List.mem_cons_of_mem _ hx, q⟩
theorem fm_drop {α : Type} (xs : List α) : ∀ (n k : Nat), k + n = xs.length → (List.range' k n).filterMap (fun j => xs[j]?) = xs.drop k
  | 0, k, h => by rw [List.range'_zero, List.filterMap_nil, List.drop_of_length_le (by omega)]
  | n + 1, k, h => by
    rw [List.range'_succ, List.filterMap_cons, List.getElem?_eq_getElem (show k < xs.length by omega), fm_drop xs n (k + 1) (by omega), List.drop_eq_getElem_cons (show k < xs.length by omega)]
theorem fm_range {α : Type} (xs : Array α) : (List.range xs.size).filterMap (fun j => xs[j]?) = xs.toList := by
  have := fm_drop xs.toList xs.size 0 (by simp)
  rw [List.drop_zero] at this
  rw [List.range_eq_range', ← this]
  simp
section
variable {P : Program} {w : World} {A : Around} {E : Value → Shared → Prop} {s : Shared} {a : Addr}
theorem iter_set {S : Int → Bool} {n : Nat} {Q : Value → Shared → Prop} (q : SetI P w s.heap a (isLed w) S n)
    (hQ : ∀ (I : Addr) (fp : List Addr) (vals : List Value) (ns : List Int) (St : Nat → Shared → Prop) (h' : Heap) (d' : Drawn), (∀ A' : Around, A'.handled = none → WalksS P w A' I fp [I] (fun x y => y = x) n (fun i v => vals[i]? = some v) St) →
      St 0 { s with heap := h', drawn := d' } → (∀ b o, s.heap.get? b = some o → h'.get? b = some o) → s.heap.objs.size ≤ I → I ∈ fp → (∀ b ∈ fp, b < h'.objs.size ∧ (b = a ∨ s.heap.objs.size ≤ b)) → IntsAre vals ns → ns.length = n → (∀ k, S k = true ↔ k ∈ ns) → Q (.ref I) { s with heap := h', drawn := d' }) :
    wpAny (model P w) A (pyIter (.ref a)) Q E s := by
  obtain ⟨o, ents, ep, tb, ho, hex, hd, hel, hm, hb, hf, hn, hr, hled⟩ := q
  have hT : s.TypeIs (.ref a) "set" := ⟨o, ho, hex.1⟩
  have la : a < s.heap.objs.size := Heap.lt_size ho
  have fin : ∀ (vs : List (Int × Value)), vs.Perm ents.toList → ∃ ns, IntsAre (vs.map (·.2)) ns ∧ ns.length = n ∧ ∀ k, S k = true ↔ k ∈ ns := fun vs hp => by
    obtain ⟨ns, h1, h2⟩ := ints_of vs (hel.perm hp)
    refine ⟨ns, h1, ?_, fun k => ?_⟩
    · rw [← h1.length, List.length_map, hp.length_eq, Array.length_toList, hn]
    · rw [hm k, ← h2 k]
      exact ⟨fun ⟨e, he, x⟩ => ⟨e, hp.mem_iff.mpr he, x⟩, fun ⟨e, he, x⟩ => ⟨e, hp.mem_iff.mp he, x⟩⟩
  refine wpAny_pyIter_slot hT F.slot_set_iter (wpAny_call_entry F.slot_set_iter hT entry_set_iter ?_ (F.args_set_iter_1 _))
  show wpAny _ _ (Builtin.Frozenset.sizeOf a >>= _) _ _ s
  refine wpAny_bind ?_
  unfold Builtin.Frozenset.sizeOf
  refine wpAny_bind (wpAny_setEntries_of ho hd hf (wpAny_pure ?_))
  refine wpAny_bind ?_
  unfold setDrawn
  refine wpAny_bind (wpAny_setState_of ho hd hf ?_)
  dsimp only
  refine wpAny_bind (byText_is (wpAny_pure ?_))
  show wpAny _ _ (if (!w.params.followText "set-order" && (!tb.plain && decide (ents.size > 1))) = true then _ else _) _ _ s
  cases ht : w.params.followText "set-order" with
  | true =>
    rw [Bool.not_true, Bool.false_and, if_neg Bool.false_ne_true]
    refine wpAny_bind (wpAny_pure (wpAny_bind (wpAny_setEpoch_of ho hd hf ?_)))
    refine wpAny_bind (wpAny_newObj_type ?_ (by size_fits))
    refine wpAny_pure ?_
    obtain ⟨ns, i1, i2, i3⟩ := fin _ (pick_perm (w.params.setOrder a ep) ents)
    have hI : SetItr (s.heap.push { cls := .type "set_iterator", dict := none, data := .fields #[rawInt ((0 : Nat) : Int), rawInt ((0 : Nat) : Int), .ref a, rawInt n, rawInt ep], slots := #[] }) s.heap.objs.size (rawInt ((0 : Nat) : Int)) 0 a n ep := Heap.get?_push_size _ rfl
    rw [hn]
    refine ⟨_, rfl, "set_iterator", _, ⟨_, hI, rfl⟩, slot_setit_next.lookup, ?_⟩
    refine hQ s.heap.objs.size [s.heap.objs.size, a] _ ns _ _ s.drawn (fun A' hh => walks_text hh (Nat.ne_of_lt la) hd hf hn ht) ⟨hI, Heap.get?_push_of_some _ ho⟩ (fun b o' e => Heap.get?_push_of_some _ e) (Nat.le_refl _) (by simp) (fun b hb' => ?_) i1 i2 i3
    rw [Heap.size_push]
    simp only [List.mem_cons, List.not_mem_nil, or_false] at hb'
    rcases hb' with rfl | rfl
    · exact ⟨Nat.lt_succ_self _, .inr (Nat.le_refl _)⟩
    · exact ⟨Nat.lt_succ_of_lt la, .inl rfl⟩
  | false =>
    rw [Bool.not_false, Bool.true_and]
    have hled' : tb.led = true := by rw [hled]; unfold isLed; rw [ht]; rfl
    cases hw : (!tb.plain && decide (ents.size > 1)) with
    | false =>
      rw [if_neg Bool.false_ne_true]
      refine wpAny_bind (wpAny_pure (wpAny_bind (wpAny_setEpoch_of ho hd hf ?_)))
      refine wpAny_bind (wpAny_newObj_type ?_ (by size_fits))
      refine wpAny_pure ?_
      obtain ⟨ns, i1, i2, i3⟩ := fin _ (List.Perm.refl _)
      have hI : SetItr (s.heap.push { cls := .type "set_iterator", dict := none, data := .fields #[rawInt ((0 : Nat) : Int), rawInt ((0 : Nat) : Int), .ref a, rawInt n, rawInt ep], slots := #[] }) s.heap.objs.size (rawInt ((0 : Nat) : Int)) 0 a n ep := Heap.get?_push_size _ rfl
      rw [hn]
      refine ⟨_, rfl, "set_iterator", _, ⟨_, hI, rfl⟩, slot_setit_next.lookup, ?_⟩
      refine hQ s.heap.objs.size [s.heap.objs.size, a] _ ns _ _ s.drawn (fun A' hh => walks_place hh (Nat.ne_of_lt la) hd hf hn ht hw hled' hr) ⟨hI, Heap.get?_push_of_some _ ho⟩ (fun b o' e => Heap.get?_push_of_some _ e) (Nat.le_refl _) (by simp) (fun b hb' => ?_) i1 i2 i3
      rw [Heap.size_push]
      simp only [List.mem_cons, List.not_mem_nil, or_false] at hb'
      rcases hb' with rfl | rfl
      · exact ⟨Nat.lt_succ_self _, .inr (Nat.le_refl _)⟩
      · exact ⟨Nat.lt_succ_of_lt la, .inl rfl⟩
    | true =>
      rw [if_pos rfl]
      refine wpAny_bind (draw_any _ _ (by rw [List.length_range]) fun ord d hp => ?_)
      rw [hn] at hp
      have hsz : ((ord.map fun (i : Nat) => rawInt i)).length ≤ sizeLine := by rw [List.length_map, hp.length_eq, List.length_range]; exact fits_of_scanBound (by omega)
      refine wpAny_bind (wpAny_newTuple ?_ hsz)
      refine wpAny_bind (wpAny_setEpoch_of (s := { s with heap := s.heap.push { cls := .type "tuple", data := .seq (ord.map fun (i : Nat) => rawInt i).toArray }, drawn := d }) (Heap.get?_push_of_some _ ho) hd hf ?_)
      refine wpAny_bind (wpAny_newObj_type ?_ (by size_fits))
      refine wpAny_pure ?_
      have pv : (ord.filterMap fun j => ents[j]?).Perm ents.toList := by
        have := hp.filterMap fun j => ents[j]?
        rw [← hn, fm_range] at this
        exact this
      obtain ⟨ns, i1, i2, i3⟩ := fin _ pv
      rw [List.map_filterMap] at i1
      have hI : SetItr ((s.heap.push { cls := .type "tuple", data := .seq (ord.map fun (i : Nat) => rawInt i).toArray }).push { cls := .type "set_iterator", dict := none, data := .fields #[.ref s.heap.objs.size, rawInt ((0 : Nat) : Int), .ref a, rawInt n, rawInt ep], slots := #[] })
          (s.heap.push { cls := .type "tuple", data := .seq (ord.map fun (i : Nat) => rawInt i).toArray }).objs.size (.ref s.heap.objs.size) 0 a n ep := Heap.get?_push_size _ rfl
      rw [hn]
      refine ⟨_, rfl, "set_iterator", _, ⟨_, hI, rfl⟩, slot_setit_next.lookup, ?_⟩
      have zI : (s.heap.push { cls := .type "tuple", data := .seq (ord.map fun (i : Nat) => rawInt i).toArray }).objs.size = s.heap.objs.size + 1 := Heap.size_push ..
      refine hQ _ [(s.heap.push { cls := .type "tuple", data := .seq (ord.map fun (i : Nat) => rawInt i).toArray }).objs.size, a, s.heap.objs.size] _ ns _ _ d (fun A' hh => walks_drawn hh (by rw [zI]; exact Nat.ne_of_lt (Nat.lt_succ_of_lt la)) (by rw [zI]; exact Nat.ne_of_lt (Nat.lt_succ_self _)) hd hf hn hp) ⟨hI, Heap.get?_push_of_some _ (Heap.get?_push_of_some _ ho), Heap.get?_push_of_some _ (Heap.get?_push_size _ rfl)⟩ (fun b o' e => Heap.get?_push_of_some _ (Heap.get?_push_of_some _ e)) (by rw [zI]; exact Nat.le_succ _) (by simp) (fun b hb' => ?_) i1 i2 i3
      rw [Heap.size_push]
      simp only [List.mem_cons, List.not_mem_nil, or_false] at hb'
      rcases hb' with rfl | rfl | rfl
      · exact ⟨Nat.lt_succ_self _, .inr (by rw [zI]; exact Nat.le_succ _)⟩
      · exact ⟨by rw [zI]; exact Nat.lt_succ_of_lt (Nat.lt_succ_of_lt la), .inl rfl⟩
      · exact ⟨by rw [zI]; exact Nat.lt_succ_of_lt (Nat.lt_succ_self _), .inr (Nat.le_refl _)⟩
end
end L2
namespace L2
open PySem PySem.Spec PyProof.Rows
set_option maxRecDepth 100000
theorem itemsOf_is {vals : List Value} {acc : Array Value} {n : Nat} (h : ItemsOf (fun i v => vals[i]? = some v) acc n) (hl : vals.length = n) : acc.toList = vals := by
  refine List.ext_getElem? fun i => ?_
  by_cases hi : i < n
  · have e : acc[i]? = some (acc[i]'(by rw [h.1]; exact hi)) := Array.getElem?_eq_getElem _
    rw [Array.getElem?_toList, e]
    exact (h.2 i _ e).symm
  · rw [List.getElem?_eq_none (by rw [Array.length_toList, h.1]; omega), List.getElem?_eq_none (by omega)]
theorem set_len_lookup : typeLookup (.type "set") "__len__" = pure (some (.builtin "set.__len__")) := by rw [typeLookup_type, builtinLookup_eq_fast]; kernel_rfl
theorem set_len_split : splitId "set.__len__" = some ("set", "__len__") := by decide +kernel
section
variable {P : Program} {w : World} {A : Around} {E : Value → Shared → Prop} {s : Shared} {a : Addr}
theorem collect_set {S : Int → Bool} {n : Nat} {Q : List Value → Shared → Prop} (hh : A.handled = none) (q : SetI P w s.heap a (isLed w) S n) (hn : n ≤ sizeLine)
    (hQ : ∀ (h' : Heap) (d' : Drawn) (tk : Nat) (vals : List Value) (ns : List Int), (∀ b o, s.heap.get? b = some o → h'.get? b = some o) → s.heap.objs.size ≤ h'.objs.size → s.toks ≤ tk → IntsAre vals ns → ns.length = n → (∀ k, S k = true ↔ k ∈ ns) → Q vals { s with heap := h', drawn := d', toks := tk }) :
    wpAny (model P w) A (collect (.ref a)) Q E s := by
  unfold collect
  refine wpAny_bind (wpAny_runValue (codeAny_builtin PySem.F.entry_proto_collect ?_))
  rw [Around.under_plainId PySem.F.plain_proto_collect _]
  show wpAny _ A.in1 (newList [] >>= fun l => again (.builtin "list.__iadd__" ⟨[l, .ref a], []⟩)) _ _ s
  refine wpAny_bind (wpAny_newObj_type ?_)
  refine wpAny_pure ⟨plainId_quiet PySem.F.plain_list_iadd _, codeAny_builtin PySem.F.entry_list_iadd ?_⟩
  rw [Around.under_plainId PySem.F.plain_list_iadd _]
  show wpAny _ A.in1 (Builtin.List.listExtendWith (.ref s.heap.objs.size) (.ref a) (.ref s.heap.objs.size)) _ _ _
  unfold Builtin.List.listExtendWith
  obtain ⟨o, ents, ep, tb, ho, hex, rest⟩ := id q
  have la : a < s.heap.objs.size := Heap.lt_size ho
  have q1 : SetI P w (s.heap.push { cls := .type "list", data := .seq ([] : List Value).toArray }) a (isLed w) S n := q.stay fun o e => Heap.get?_push_of_some _ e
  have hT : Shared.TypeIs { s with heap := s.heap.push { cls := .type "list", data := .seq ([] : List Value).toArray } } (.ref a) "set" := ⟨o, Heap.get?_push_of_some _ ho, hex.1⟩
  refine wpAny_bind (wpAny_typeOf hT ?_)
  have k1 : Builtin.List.listSameRef (.ref s.heap.objs.size) (.ref a) = false := by simp [Builtin.List.listSameRef, Nat.ne_of_gt la]
  have k2 : (Value.type "set" == Value.type "list") = false := by decide
  have k3 : (Value.type "set" == Value.type "tuple") = false := by decide
  simp only [k1, k2, k3, Bool.or_false, Bool.false_eq_true, if_false]
  refine wpAny_bind (iter_set q1 fun I fp vals ns St h1 d1 W st0 keep gI mI fpl i1 i2 i3 => ?_)
  have hT1 : Shared.TypeIs { s with heap := h1, drawn := d1 } (.ref a) "set" := ⟨o, keep _ _ (Heap.get?_push_of_some _ ho), hex.1⟩
  have zL : (s.heap.push { cls := .type "list", data := .seq ([] : List Value).toArray }).objs.size = s.heap.objs.size + 1 := Heap.size_push ..
  have nL : s.heap.objs.size ∉ fp := fun hm => by
    rcases (fpl _ hm).2 with e | e
    · exact Nat.lt_irrefl _ (by rw [← e] at la; exact la)
    · rw [zL] at e; exact Nat.not_succ_le_self _ e
  refine wpAny_bind (wpAny_holding ?_)
  unfold Builtin.List.listLengthHint
  refine wpAny_bind (wpAny_specialOf hT1 set_len_lookup ?_)
  dsimp only
  rw [set_len_split]
  dsimp only
  refine wpAny_bind (wpAny_isInstance hT1 sub_set_self ?_)
  simp only [Bool.not_true, Bool.false_eq_true, if_false]
  refine wpAny_bind (wpAny_typeOf hT1 (wpAny_pure ?_))
  show wpAny _ A.in1 (rule "list.extend.makes-room" >>= fun _ => Builtin.List.listTouch (.ref s.heap.objs.size) >>= fun _ =>
    again (.builtin "list.extend.loop" ⟨[.ref s.heap.objs.size, .ref I, .ref s.heap.objs.size], []⟩)) _ _ _
  refine wpAny_bind (wpAny_rule ?_)
  have g1 : h1.get? s.heap.objs.size = some { cls := .type "list", data := .seq ([] : List Value).toArray } := keep _ _ (Heap.get?_push_size _ rfl)
  refine wpAny_bind ?_
  show wpAny _ A.in1 (updateSeq s.heap.objs.size (·.push .none) >>= fun _ => updateSeq s.heap.objs.size (·.pop)) _ _ _
  refine wpAny_bind (wpAny_updateSeq (s := { s with heap := h1, drawn := d1 }) g1 rfl ?_)
  have g2 := Heap.get?_update_self (Obj.mapSeq (·.push Value.none)) g1 rfl
  refine wpAny_updateSeq (s := { s with heap := h1.update s.heap.objs.size (Obj.mapSeq (·.push Value.none)), drawn := d1 }) g2 rfl ?_
  have g3 := Heap.get?_update_self (Obj.mapSeq (·.pop)) g2 rfl
  have oth : ∀ b o, b ≠ s.heap.objs.size → h1.get? b = some o → ((h1.update s.heap.objs.size (Obj.mapSeq (·.push Value.none))).update s.heap.objs.size (Obj.mapSeq (·.pop))).get? b = some o :=
    fun b o hb e => (Heap.get?_update_other _ _ (Ne.symm hb)).trans ((Heap.get?_update_other _ _ (Ne.symm hb)).trans e)
  have W1 := W A.in1 (by simp [hh])
  refine wpAny_pure ⟨plainId_quiet PySem.F.plain_extend_loop _, codeAny_extend_loopS W1 hn _ nL _ n 0 _ _ _ rfl (Nat.zero_le _)
    (W1.frame 0 ({ s with heap := h1, drawn := d1 } : Shared) _ s.toks st0 (Nat.le_refl _) fun b hb o e => oth b o (fun h => nL (h ▸ hb)) e) g3 (ItemsOf.nil _) fun s' acc' c' hm hS' hacc => ?_⟩
  show wpAny _ A (load s.heap.objs.size >>= _) _ _ s'
  refine wpAny_bind (wpAny_load hS' (wpAny_pure ?_))
  have lv : vals.length = n := by rw [i1.length, i2]
  rw [itemsOf_is hacc lv]
  obtain ⟨h2, g', d', tk', os'⟩ := s'
  have eg : g' = s.gens := hm.gens
  have ed : d' = d1 := hm.drawn
  have eo : os' = s.os := hm.os
  subst eg ed eo
  refine hQ h2 d' tk' vals ns (fun b o' e => ?_) (Nat.le_of_lt (Heap.lt_size hS')) hm.toks i1 i2 i3
  have lb : b < s.heap.objs.size := Heap.lt_size e
  refine hm.heap b o' ?_ (oth b o' (Nat.ne_of_lt lb) (keep _ _ (Heap.get?_push_of_some _ e)))
  simp only [List.mem_cons, List.not_mem_nil, or_false, not_or]
  exact ⟨Nat.ne_of_lt lb, Nat.ne_of_lt (Nat.lt_of_lt_of_le lb (Nat.le_trans (by rw [zL]; exact Nat.le_succ _) gI))⟩

theorem sorted_set {S : Int → Bool} {n : Nat} {Q : Value → Shared → Prop} (hh : A.handled = none) (q : SetI P w s.heap a (isLed w) S n) (h64 : n < 64)
    (hQ : ∀ (p : Addr) (h' : Heap) (d' : Drawn) (tk e : Nat) (out : Array Value) (ns : List Int), (∀ b o, s.heap.get? b = some o → h'.get? b = some o) → s.heap.objs.size ≤ p → s.toks ≤ tk → h'.get? p = some (seqObj "list" out e) → IntsAre out.toList ns → ns.Pairwise (· ≤ ·) → ns.length = n → (∀ k, S k = true ↔ k ∈ ns) →
      Q (.ref p) { s with heap := h', drawn := d', toks := tk }) : wpAny (model P w) A (call (.builtin "sorted") [.ref a]) Q E s := by
  refine Calls.call_function_entry kind_sorted plain_sorted entry_sorted (args_sorted1 _) ?_
  unfold Builtin.«sorted»
  refine wpAny_bind (m := checkCount "sorted" 1 1 _) (wpAny_pure ?_)
  refine wpAny_bind (collect_set (by simp [hh]) q (by rw [sizeLine_eq]; omega) fun h1 d1 tk vals ns keep grow htk i1 i2 i3 => ?_)
  refine wpAny_bind (wpAny_newList ?_ (by rw [i1.length, i2, sizeLine_eq]; omega))
  have g0 : (h1.push (seqObj "list" vals.toArray 0)).get? h1.objs.size = some (seqObj "list" vals.toArray 0) := Heap.get?_push_size _ rfl
  refine wpAny_bind (wpAny_holding (wpAny_call_entry (s := { s with heap := h1.push (seqObj "list" vals.toArray 0), drawn := d1, toks := tk }) slot_list_sort ⟨_, g0, rfl⟩ entry_list_sort (list_sort_tree g0 i1 (by rw [i1.length, i2]; exact h64) fun out ns' o1 o2 o3 => ⟨_, rfl, ?_⟩) (args_list_sort _)))
  obtain ⟨e, ge⟩ := sortedHeap_at (out := out) g0
  refine wpAny_pure ⟨_, rfl, hQ _ _ d1 tk e out ns' (fun b o eb => ?_) grow htk ge o1 o3 (by rw [o2.length_eq, i2]) fun k => (i3 k).trans (o2.mem_iff).symm⟩
  have lb : b < h1.objs.size := Heap.lt_size (keep b o eb)
  rw [sortedHeap_old (Nat.ne_of_lt lb) (by rw [Heap.size_push]; exact Nat.lt_succ_of_lt lb)]
  exact Heap.get?_push_of_some _ (keep b o eb)
end
end L2
namespace L2
open PySem PySem.Spec PyProof.Rows
noncomputable def insZ (x : Int) : List Int → List Int
  | [] => [x]
  | y :: r => if x < y then x :: y :: r else if x = y then y :: r else y :: insZ x r
noncomputable def srtZ (ns : List Int) : List Int := ns.foldr insZ []
theorem mem_insZ (x k : Int) : ∀ l : List Int, k ∈ insZ x l ↔ k = x ∨ k ∈ l
  | [] => by simp [insZ]
  | y :: r => by
    unfold insZ
    split
    · simp
    · split
      · rename_i e; subst e; simp
      · rw [List.mem_cons, mem_insZ x k r, List.mem_cons]
        constructor
        · rintro (h | h | h)
          · exact .inr (.inl h)
          · exact .inl h
          · exact .inr (.inr h)
        · rintro (h | h | h)
          · exact .inr (.inl h)
          · exact .inl h
          · exact .inr (.inr h)
theorem ris_insZ (x : Int) : ∀ l : List Int, l.Pairwise (· < ·) → (insZ x l).Pairwise (· < ·)
  | [], _ => by simp [insZ]
  | y :: r, h => by
    obtain ⟨h1, h2⟩ := List.pairwise_cons.mp h
    unfold insZ
    split
    · rename_i hx
      refine List.pairwise_cons.mpr ⟨fun k hk => ?_, h⟩
      rcases List.mem_cons.mp hk with e | hk
      · subst e; exact hx
      · exact Int.lt_trans hx (h1 k hk)
    · split
      · exact h
      · rename_i a b
        refine List.pairwise_cons.mpr ⟨fun k hk => ?_, ris_insZ x r h2⟩
        rcases (mem_insZ x k r).mp hk with e | hk
        · subst e; omega
        · exact h1 k hk
theorem mem_srtZ (k : Int) : ∀ l : List Int, k ∈ srtZ l ↔ k ∈ l
  | [] => by simp [srtZ]
  | x :: l => by
    show k ∈ insZ x (srtZ l) ↔ _
    rw [mem_insZ, mem_srtZ k l, List.mem_cons]
theorem ris_srtZ : ∀ l : List Int, (srtZ l).Pairwise (· < ·)
  | [] => by simp [srtZ]
  | x :: l => ris_insZ x _ (ris_srtZ l)
theorem ris_eq : ∀ (l m : List Int), l.Pairwise (· < ·) → m.Pairwise (· < ·) → (∀ k, k ∈ l ↔ k ∈ m) → l = m
  | [], [], _, _, _ => rfl
  | [], y :: m, _, _, h => by have := (h y).mpr List.mem_cons_self; simp at this
  | x :: l, [], _, _, h => by have := (h x).mp List.mem_cons_self; simp at this
  | x :: l, y :: m, hl, hm, h => by
    obtain ⟨l1, l2⟩ := List.pairwise_cons.mp hl
    obtain ⟨m1, m2⟩ := List.pairwise_cons.mp hm
    have e : x = y := by
      rcases List.mem_cons.mp ((h x).mp List.mem_cons_self) with e | hx
      · exact e
      · rcases List.mem_cons.mp ((h y).mpr List.mem_cons_self) with e | hy
        · exact e.symm
        · have := m1 x hx; have := l1 y hy; omega
    subst e
    rw [ris_eq l m l2 m2 fun k => ?_]
    constructor
    · intro hk
      rcases List.mem_cons.mp ((h k).mp (List.mem_cons_of_mem _ hk)) with e | q
      · have := l1 k hk; omega
      · exact q
    · intro hk
      rcases List.mem_cons.mp ((h k).mpr (List.mem_cons_of_mem _ hk)) with e | q
      · have := m1 k hk; omega
      · exact q
theorem perm_of_len : ∀ (F L : List Int), F.Nodup → (∀ x ∈ F, x ∈ L) → L.length ≤ F.length → L.Perm F
  | [], L, _, _, h => by
    obtain rfl : L = [] := List.length_eq_zero_iff.mp (by simpa using h)
    exact .refl _
  | x :: F, L, hn, hs, h => by
    obtain ⟨n1, n2⟩ := List.nodup_cons.mp hn
    have hx := hs x List.mem_cons_self
    have p := List.perm_cons_erase hx
    refine p.trans (List.Perm.cons x (perm_of_len F (L.erase x) n2 (fun y hy => ?_) ?_))
    · have ne : y ≠ x := fun e => by subst e; exact n1 hy
      exact (List.mem_erase_of_ne ne).mpr (hs y (List.mem_cons_of_mem _ hy))
    · rw [List.length_erase_of_mem hx]
      simp at h
      omega
theorem firstMet_nodup (val : Nat → Int) : ∀ i, (firstMet val i).Nodup
  | 0 => by rw [firstMet_zero]; exact List.nodup_nil
  | i + 1 => by
    rw [firstMet_succ]
    unfold step_dedup
    split
    · exact firstMet_nodup val i
    · rename_i h
      refine List.nodup_append.mpr ⟨firstMet_nodup val i, by simp, fun a ha b hb e => ?_⟩
      have : b = val i := by simpa using hb
      rw [e, this] at ha
      exact h (List.any_eq_true.mpr ⟨_, ha, by simp⟩)
theorem firstMet_mem (ns : List Int) (k : Int) : (firstMet (fun i => ns.getD i 0) ns.length).any (· == k) = true ↔ k ∈ ns := by
  rw [firstMet_any]
  have e : (List.range ns.length).map (fun i => ns.getD i 0) = ns := by
    refine List.ext_getElem? fun i => ?_
    rw [List.getElem?_map]
    by_cases hi : i < ns.length
    · rw [List.getElem?_range hi]
      simp [List.getD_eq_getElem?_getD, hi]
    · rw [List.getElem?_eq_none (by rw [List.length_range]; omega), List.getElem?_eq_none (by omega)]
      rfl
  rw [e, List.any_eq_true]
  exact ⟨fun ⟨x, hx, q⟩ => by have := beq_iff_eq.mp q; exact this ▸ hx, fun h => ⟨k, h, by simp⟩⟩

theorem told_srtZ {ns out : List Int} (hs : out.Pairwise (· ≤ ·)) (hl : out.length = (firstMet (fun i => ns.getD i 0) ns.length).length) (hm : ∀ k, (firstMet (fun i => ns.getD i 0) ns.length).any (· == k) = true ↔ k ∈ out) : out = srtZ ns := by
  have nd := firstMet_nodup (fun i => ns.getD i 0) ns.length
  have p := perm_of_len _ out nd (fun x hx => (hm x).mp (List.any_eq_true.mpr ⟨x, hx, by simp⟩)) (by omega)
  have nd' : out.Nodup := p.nodup_iff.mpr nd
  have lt : out.Pairwise (· < ·) := by
    refine List.Pairwise.imp₂ (fun a b h1 h2 => ?_) hs nd'
    exact Int.lt_iff_le_and_ne.mpr ⟨h1, h2⟩
  exact ris_eq _ _ lt (ris_srtZ ns) fun k => by rw [← hm k, firstMet_mem, mem_srtZ]
theorem srtZ_len (ns : List Int) : (srtZ ns).length = (firstMet (fun i => ns.getD i 0) ns.length).length := by
  have nd := firstMet_nodup (fun i => ns.getD i 0) ns.length
  have nd' : (srtZ ns).Nodup := (ris_srtZ ns).imp fun h => Int.ne_of_lt h
  have m : ∀ x, x ∈ firstMet (fun i => ns.getD i 0) ns.length ↔ x ∈ srtZ ns := fun x => by
    refine Iff.trans ?_ (mem_srtZ x ns).symm
    refine Iff.trans ?_ (firstMet_mem ns x)
    rw [List.any_eq_true]
    exact ⟨fun h => ⟨x, h, by simp⟩, fun ⟨y, hy, q⟩ => by have := beq_iff_eq.mp q; exact this ▸ hy⟩
  rcases Nat.le_total (srtZ ns).length (firstMet (fun i => ns.getD i 0) ns.length).length with h | h
  · exact (perm_of_len _ _ nd (fun x hx => (m x).mp hx) h).length_eq
  · exact (perm_of_len _ _ nd' (fun x hx => (m x).mpr hx) h).length_eq.symm
section
variable {X : Cx} {pins : List (Addr × Obj)} {σ : St} {H : Hp} {s : Shared}
theorem Inv.draws (I : Inv X pins σ H s) (d' : Drawn) : Inv X pins σ H { s with drawn := d' } := by
  refine I.step (g' := s.gens) (d' := d') (t' := s.toks) (h' := s.heap) (ch := []) (fun b hb => by cases hb) (fun b o _ _ _ e _ => e) (fun b o _ _ _ e _ => ⟨o.slots, e⟩) (fun _ _ _ _ n => n)
    (fun b o _ e => ⟨o, e⟩) (fun _ _ e => e) (fun _ _ _ e => e) (fun b ps e => ⟨#[], by rw [e]; simp⟩) (fun m hm => hm) I.hok I.bare
end
end L2
namespace L2
open PySem PySem.Spec PyProof.Rows
theorem vals_ofInts : ∀ {vs : List Value} {ns : List Int}, IntsAre vs ns → Vals (ns.map V.int) vs
  | _, _, .nil => .nil
  | _, _, .cons n t h => .cons ⟨t, rfl⟩ (vals_ofInts h)
theorem ints_ofVals : ∀ {ns : List Int} {vs : List Value}, Vals (ns.map V.int) vs → IntsAre vs ns
  | [], _, .nil => .nil
  | n :: ns, _, .cons ⟨t, e⟩ h => by subst e; exact .cons n t (ints_ofVals h)
noncomputable def tSS (K : PySem.W.Frag) (te : TE) : TE := fun σ H Q => te σ H fun x H1 => ∃ l ns, x = .ref l ∧ SqL K H1 l (ns.map V.int) ∧ ns.length < 4000 ∧ (srtZ ns).length < 64 ∧ ∀ p, H1 p = none → Q (.ref p) (upd H1 p (.lst ((srtZ ns).map V.int)))
section
variable {X : Cx} {e : Expr} {te : TE} {p p2 pos pos2 : Pos}
theorem pe_sortset (hc : X.calm = true) (hgs : Gl X "sorted") (hms : X.mg "sorted" = none) (hgt : Gl X "set") (hmt : X.mg "set" = none) (he : PE X e te)
    (h1 : starEach [.Call (.Name "set" p2) [e] [] pos2] X.env = (false, eval (.Call (.Name "set" p2) [e] [] pos2) X.env) :: starEach [] X.env := by rfl) (h2 : starEach [e] X.env = (false, eval e X.env) :: starEach [] X.env := by rfl)
    (hpl : (backTo pos (starEach [] X.env)).any (·.1) = false := by rfl) (hpl2 : (backTo pos2 (starEach [] X.env)).any (·.1) = false := by rfl) :
    PE X (.Call (.Name "sorted" p) [.Call (.Name "set" p2) [e] [] pos2] [] pos) (tSS X.K te) := by
  intro pins s σ H Q I h
  refine wpAny_Call_Name_kw (ld_blt I hgs hms boot_sorted ?_)
  refine PyProof.Rows.callWith_builtin1 ?_ h1 hpl
  rw [h1]
  show wpAny _ _ (spliced ((false, eval (.Call (.Name "set" p2) [e] [] pos2) X.env) :: backTo pos (starEach [] X.env))) _ _ s
  refine Calls.spliced_cons (wpAny_Call_Name_kw (ld_blt I hgt hmt boot_set ?_))
  refine PyProof.Rows.callWith_type1 ?_ h2 hpl2
  rw [h2]
  show wpAny _ _ (spliced ((false, eval e X.env) :: backTo pos2 (starEach [] X.env))) _ _ s
  refine Calls.spliced_cons (thn (he pins s σ H _ I h) fun u s1 q_ => ?_)
  obtain ⟨x, H1, I1, r1, l, ns, e1, hq, hb, h64, q⟩ := q_
  subst e1
  cases r1
  refine wpAny_pure ?_
  obtain ⟨its, rr, pl, hz⟩ := I1.list hq
  have ii : IntsAre its ns := ints_ofVals rr
  have zz : its.toArray.size = ns.length := by rw [List.size_toArray, ii.length]
  refine call_set_led (items := its.toArray) (ns := ns) (I1.ok.hd hc) pl.isList (by simpa using ii) (by rw [zz]; unfold scanBound; omega) fun h' tk qs keep htk => ?_
  rw [zz] at qs
  refine wpAny_pure ?_
  have lt : s1.heap.objs.size < h'.objs.size := by obtain ⟨o, _, _, _, ho, _⟩ := id qs; exact Heap.lt_size ho
  refine sorted_set (s := { s1 with heap := h', toks := tk }) (I1.ok.hd hc) qs (by rw [← srtZ_len]; exact h64) fun pp h'' d'' tk'' ep out ns' keep2 gp htk2 ge o1 o3 o4 o5 => ?_
  have en : ns' = srtZ ns := told_srtZ o3 o4 o5
  subst en
  refine ⟨.ref pp, _, ((I1.laid (h' := h'') (t' := tk'') (a := pp) (o := .lst ((srtZ ns).map V.int)) (fun b u g => keep2 _ _ (keep b u (Heap.lt_size g) g)) (Nat.le_trans (Nat.le_of_lt lt) gp) ?_).draws d''), rfl, q pp (I1.hok.fresh (Nat.le_trans (Nat.le_of_lt lt) gp))⟩
  exact ⟨by rw [List.length_map, sizeLine_eq]; omega, out.toList, ep, vals_ofInts o1, by simpa using ge⟩
end
noncomputable def zsD : List D → Option (List Int)
  | [] => some []
  | .int i :: r => (zsD r).map (i :: ·)
  | _ :: _ => none
theorem zsD_is : ∀ {ds : List D} {ns : List Int}, zsD ds = some ns → ds = ns.map D.int
  | [], _, h => by cases h; rfl
  | .int i :: r, ns, h => by
    replace h : (zsD r).map (i :: ·) = some ns := h
    cases e : zsD r with
    | none => rw [e] at h; cases h
    | some m => rw [e] at h; cases h; rw [zsD_is e]; rfl
  | .non :: _, _, h => by cases h
  | .bl _ :: _, _, h => by cases h
  | .str _ :: _, _, h => by cases h
  | .lst _ :: _, _, h => by cases h
  | .tup _ :: _, _, h => by cases h
  | .kl _ :: _, _, h => by cases h
  | .kt _ :: _, _, h => by cases h
  | .dic _ _ :: _, _, h => by cases h
  | .ins _ _ _ :: _, _, h => by cases h
theorem zsD_ints : ∀ (ns : List Int), zsD (ns.map D.int) = some ns
  | [] => rfl
  | n :: ns => by show (zsD (ns.map D.int)).map (n :: ·) = _; rw [zsD_ints ns]; rfl
theorem reps_ints {G : Gc} {H : Hp} : ∀ {ns : List Int} {vs : List V}, Reps G H (ns.map D.int) vs → vs = ns.map V.int
  | [], _, h => h
  | n :: ns, _, ⟨v, r, e, h1, h2⟩ => by rw [e, show v = V.int n from h1, reps_ints h2]; rfl
noncomputable def mSrt (f : List Sl → Option D) (ρ : List Sl) : Option (List D) := (f ρ).bind fun d => (lsD d).bind fun ds => (zsD ds).bind fun ns => if ns.length < 4000 ∧ (srtZ ns).length < 64 then some ((srtZ ns).map .int) else none
section
variable {c : Str → Addr} {X : Cx} {e : Expr} {p p2 pos pos2 : Pos}
theorem do_sortset {f : List Sl → Option D} (hc : X.calm = true) (hgs : Gl X "sorted") (hms : X.mg "sorted" = none) (hgt : Gl X "set") (hmt : X.mg "set" = none) (ha : DE c X e f)
    (h1 : starEach [.Call (.Name "set" p2) [e] [] pos2] X.env = (false, eval (.Call (.Name "set" p2) [e] [] pos2) X.env) :: starEach [] X.env := by rfl) (h2 : starEach [e] X.env = (false, eval e X.env) :: starEach [] X.env := by rfl)
    (hpl : (backTo pos (starEach [] X.env)).any (·.1) = false := by rfl) (hpl2 : (backTo pos2 (starEach [] X.env)).any (·.1) = false := by rfl) : DO c X (.Call (.Name "sorted" p) [.Call (.Name "set" p2) [e] [] pos2] [] pos) (mSrt f) :=
  PE.imp (pe_sortset hc hgs hms hgt hmt ha h1 h2 hpl hpl2) fun σ H Q q_ => by
    obtain ⟨Hf0, H0, Hf, ρ, ds, st, ef, k⟩ := q_
    unfold mSrt at ef
    cases e1 : f ρ with
    | none => rw [e1] at ef; cases ef
    | some d =>
      rw [e1] at ef
      cases e2 : lsD d with
      | none => rw [Option.bind_some, e2] at ef; cases ef
      | some xs =>
        rw [Option.bind_some, e2] at ef
        cases e3 : zsD xs with
        | none => rw [Option.bind_some, e3] at ef; cases ef
        | some ns =>
          rw [Option.bind_some, e3, Option.bind_some] at ef
          split at ef
          · rename_i hl
            cases ef
            refine ⟨Hf0, H0, Hf, ρ, d, st, e1, fun v Hf' H' x r => ?_⟩
            obtain ⟨l, vs, el, q, rs⟩ := ls_rep e2 r
            rw [zsD_is e3] at rs
            have ev := reps_ints rs
            subst ev el
            exact ⟨l, ns, rfl, x.s.seq q, hl.1, hl.2, fun pp hp => k pp _ Hf' _ (x.trans (Ext.tmp x.s hp)) (x.h.free hp) (x.s.free hp) upd_same (Reps.ints _)⟩
          · cases ef

noncomputable def mCat (f g : List Sl → Option D) (ρ : List Sl) : Option (List D) := (f ρ).bind fun x => (g ρ).bind fun y => match x, y with
  | .lst a, .lst b => if a.length + b.length ≤ 16777216 then some (a ++ b) else none
  | _, _ => none
theorem mCat_is {f g : List Sl → Option D} {ρ : List Sl} {ds : List D} (h : mCat f g ρ = some ds) : ∃ a b, f ρ = some (.lst a) ∧ g ρ = some (.lst b) ∧ a.length + b.length ≤ 16777216 ∧ ds = a ++ b := by
  unfold mCat at h
  cases e1 : f ρ with
  | none => rw [e1] at h; cases h
  | some x =>
    cases e2 : g ρ with
    | none => rw [e1, e2] at h; cases h
    | some y =>
      rw [e1, e2, Option.bind_some, Option.bind_some] at h
      split at h
      · split at h
        · rename_i a b hl
          cases h
          exact ⟨a, b, rfl, rfl, hl, rfl⟩
        · cases h
      · cases h
theorem do_cat {a b : Expr} {f g : List Sl → Option D} (ha : DE c X a f) (hb : DE c X b g) : DO c X (.BinOp a .Add b pos) (mCat f g) := PE.imp (pe_op op_cat ha hb) fun σ H Q q_ => by
  obtain ⟨Hf0, H0, Hf, ρ, ds, st, ef, k⟩ := q_
  obtain ⟨xs, ys, e1, e2, hl, rfl⟩ := mCat_is ef
  refine ⟨Hf0, H0, Hf, ρ, _, st, e1, fun v Hf1 H1 x1 r1 => ⟨Hf0, H0, Hf1, ρ, _, st.step x1, e2, fun u Hf2 H2 x2 r2 => ?_⟩⟩
  obtain ⟨l, vs, el, q1, s1⟩ := r1.up x2.f
  obtain ⟨m, us, em, q2, s2⟩ := r2
  subst el em
  have x := x1.trans x2
  exact ⟨l, m, vs, us, rfl, rfl, x2.s _ _ q1, x2.s _ _ q2, by rw [sizeLine_eq, ← s1.length, ← s2.length]; exact hl, fun p hp => k p _ Hf2 _ (x.trans (Ext.tmp x.s hp)) (x.h.free hp) (x.s.free hp) upd_same (s1.append s2)⟩
end
end L2
namespace L2
open PySem PySem.Spec PyProof.Rows
noncomputable def wp (F : List Sl → Option Fl) (ρ : List Sl) (K : Fl → Prop) : Prop := ∃ o, F ρ = some o ∧ K o
noncomputable def kSeq (F : List Sl → Option Fl) (K : Fl → Prop) : Fl → Prop
  | .nx ρ => wp F ρ K
  | o => K o
noncomputable def kLoop (J : List Sl → Prop) (K : Fl → Prop) : Fl → Prop
  | .nx ρ => J ρ
  | .ct ρ => J ρ
  | .bk ρ => K (.nx ρ)
  | o => K o
noncomputable def kRun (Q : D → Prop) (o : Fl) : Prop := ∃ d, retD o = some d ∧ Q d
theorem wp_seq {F F' : List Sl → Option Fl} {ρ : List Sl} {K : Fl → Prop} (h : wp F ρ (kSeq F' K)) : wp (mSeq F F') ρ K := by
  obtain ⟨o, e, k⟩ := h
  unfold wp mSeq
  rw [e]
  cases o with
  | nx ρ' => exact k
  | _ => exact ⟨_, rfl, k⟩
theorem wp_next {ρ : List Sl} {K : Fl → Prop} (h : K (.nx ρ)) : wp mNext ρ K := ⟨_, rfl, h⟩
theorem wp_set {i : Nat} {f : List Sl → Option D} {ρ : List Sl} {d : D} {K : Fl → Prop} (h : f ρ = some d) (k : K (.nx (ρ.set i (.im d)))) : wp (mSet i f) ρ K := ⟨_, set_is h, k⟩
theorem wp_setO {i : Nat} {f : List Sl → Option (List D)} {ρ : List Sl} {d : List D} {K : Fl → Prop} (h : f ρ = some d) (k : K (.nx (ρ.set i (.own d)))) : wp (mSetO i f) ρ K := ⟨_, setO_is h, k⟩
theorem wp_ret {f : List Sl → Option D} {ρ : List Sl} {d : D} {K : Fl → Prop} (h : f ρ = some d) (k : K (.rt d)) : wp (mRet f) ρ K := ⟨_, ret_is h, k⟩
theorem wp_retO {f : List Sl → Option (List D)} {ρ : List Sl} {d : List D} {K : Fl → Prop} (h : f ρ = some d) (k : K (.rtO d)) : wp (mRetO f) ρ K := ⟨_, by unfold mRetO; rw [h]; rfl, k⟩
theorem wp_if {t : List Sl → Option Bool} {F F' : List Sl → Option Fl} {ρ : List Sl} {b : Bool} {K : Fl → Prop} (h : t ρ = some b) (kT : b = true → wp F ρ K) (kF : b = false → wp F' ρ K) : wp (mIfS t F F') ρ K := by
  unfold wp mIfS
  rw [h]
  cases b with
  | true => exact kT rfl
  | false => exact kF rfl
theorem wp_forL {α : Type} {g : D → List Sl → Option (List Sl)} {F : List Sl → Option Fl} {K : Fl → Prop} (f : α → D) (I : List α → List Sl → Prop) : ∀ (post pre : List α) (ρ : List Sl), I pre ρ →
    (∀ pre' x post' ρ, pre ++ post = pre' ++ x :: post' → I pre' ρ → ∃ ρ1, g (f x) ρ = some ρ1 ∧ wp F ρ1 (kLoop (I (pre' ++ [x])) K)) → (∀ ρ', I (pre ++ post) ρ' → K (.nx ρ')) → wp (mForL g F (post.map f)) ρ K
  | [], pre, ρ, h, _, hk => ⟨_, rfl, hk ρ (by rw [List.append_nil]; exact h)⟩
  | x :: post, pre, ρ, h, hs, hk => by
    obtain ⟨ρ1, e1, o, e2, k2⟩ := hs pre x post ρ rfl h
    unfold wp
    rw [List.map_cons]
    unfold mForL
    rw [e1, Option.bind_some, e2, Option.bind_some]
    have go : ∀ ρ2, I (pre ++ [x]) ρ2 → wp (mForL g F (post.map f)) ρ2 K := fun ρ2 h2 =>
      wp_forL f I post (pre ++ [x]) ρ2 h2 (by rw [List.append_assoc]; exact hs) (by rw [List.append_assoc]; exact hk)
    cases o with
    | nx ρ2 => exact go ρ2 k2
    | ct ρ2 => exact go ρ2 k2
    | bk ρ2 => exact ⟨_, rfl, k2⟩
    | rt d => exact ⟨_, rfl, k2⟩
    | rtO d => exact ⟨_, rfl, k2⟩
    | rtS d ρ2 => exact ⟨_, rfl, k2⟩
    | rtT o => exact ⟨_, rfl, k2⟩
theorem wp_for {α : Type} {fi : List Sl → Option (List D)} {g : D → List Sl → Option (List Sl)} {F : List Sl → Option Fl} {ρ : List Sl} {K : Fl → Prop} (xs : List α) (f : α → D) (I : List α → List Sl → Prop) (hi : fi ρ = some (xs.map f)) (h0 : I [] ρ)
    (hs : ∀ pre x post ρ, xs = pre ++ x :: post → I pre ρ → ∃ ρ1, g (f x) ρ = some ρ1 ∧ wp F ρ1 (kLoop (I (pre ++ [x])) K)) (hk : ∀ ρ', I xs ρ' → K (.nx ρ')) : wp (mFor fi g F) ρ K := by
  obtain ⟨o, e, k⟩ := wp_forL f I xs [] ρ h0 hs hk
  refine ⟨o, ?_, k⟩
  unfold mFor
  rw [hi]
  exact e
theorem wp_run {n : Nat} {F : List Sl → Option Fl} {ds : List D} {Q : D → Prop} (h : wp F (args0 n ds) (kRun Q)) : ∃ d, runD n F ds = some d ∧ Q d := by
  obtain ⟨o, e, d, e', q⟩ := h
  refine ⟨d, ?_, q⟩
  unfold runD
  rw [e]
  exact e'

theorem wp_runE {n : Nat} {F : List Sl → Option Fl} {ds : List D} {r : D} (h : wp F (args0 n ds) (kRun fun d => d = r)) : runD n F ds = some r := by
  obtain ⟨d, e, q⟩ := wp_run h
  rw [e, q]
theorem k_rt {Q : D → Prop} {d : D} (h : Q d) : kRun Q (.rt d) := ⟨d, rfl, h⟩
theorem callS_is {m : List D → Option D} {f : List Sl → Option (List D)} {ρ : List Sl} {ds : List D} {d : D} (h : f ρ = some ds) (h' : m ds = some d) (hs : d.scalar = true) : mCallS m f ρ = some d := by
  unfold mCallS
  rw [h, Option.bind_some, h', Option.bind_some, if_pos hs]
theorem dMod_eq {i j : Int} (h : 0 < j) : dMod (.int i) (.int j) = some (.int (i % j)) := dI_pos h
theorem dDiv_eq {i j : Int} (h : CDiv i j) : dDiv (.int i) (.int j) = some (.int (i / j)) := dI_pos h
theorem dMul_eq {i j : Int} (h : CMul i j) : dMul (.int i) (.int j) = some (.int (i * j)) := dI_pos h
theorem dPow_eq {i j : Int} (h : CPow i j) : dPow (.int i) (.int j) = some (.int (i ^ j.toNat)) := dI_pos h
theorem dShr_eq {i j : Int} (h : 0 ≤ j) : dShr (.int i) (.int j) = some (.int (i / 2 ^ j.toNat)) := dI_pos h
theorem dAdd_eq {i j : Int} : dAdd (.int i) (.int j) = some (.int (i + j)) := rfl
theorem dSub_eq {i j : Int} : dSub (.int i) (.int j) = some (.int (i - j)) := rfl
theorem dAndB_eq {i j : Int} : dAndB (.int i) (.int j) = some (.int (Builtin.bitAnd i j)) := rfl
theorem dLt_eq {i j : Int} : dLt (.int i) (.int j) = some (.bl (decide (i < j))) := rfl
theorem dLe_eq {i j : Int} : dLe (.int i) (.int j) = some (.bl (decide (i ≤ j))) := rfl
theorem dGt_eq {i j : Int} : dGt (.int i) (.int j) = some (.bl (decide (j < i))) := rfl
theorem dGe_eq {i j : Int} : dGe (.int i) (.int j) = some (.bl (decide (j ≤ i))) := rfl
theorem len_lst {α : Type} (xs : List α) (f : α → D) : lenD [.lst (xs.map f)] = some (.int xs.length) := by
  show some (D.int ((xs.map f).length : Int)) = _
  rw [List.length_map]
theorem len_kl {α : Type} (xs : List α) (f : α → D) : lenD [.kl (xs.map f)] = some (.int xs.length) := by
  show some (D.int ((xs.map f).length : Int)) = _
  rw [List.length_map]
theorem cut_map {α : Type} (f : α → D) (xs : List α) (lo hi : Option Int) : cutL (xs.map f) lo hi = ((xs.drop (HT.sIx xs.length 0 lo)).take (HT.sIx xs.length xs.length hi - HT.sIx xs.length 0 lo)).map f := by
  unfold cutL
  rw [List.length_map, List.map_take, List.map_drop]
theorem sl_lst {α : Type} {f : List Sl → Option D} {l h : List Sl → Option (Option Int)} {ρ : List Sl} {g : α → D} {xs : List α} {lo hi : Option Int} (e : f ρ = some (.lst (xs.map g))) (e1 : l ρ = some lo) (e2 : h ρ = some hi) : mSl f l h ρ = some (((xs.drop (HT.sIx xs.length 0 lo)).take (HT.sIx xs.length xs.length hi - HT.sIx xs.length 0 lo)).map g) := by
  unfold mSl
  rw [e, Option.bind_some]
  show (l ρ).bind (fun lo => (h ρ).map fun hi => cutL (xs.map g) lo hi) = _
  rw [e1, Option.bind_some, e2, ← cut_map]
  rfl
theorem sl_kl {α : Type} {f : List Sl → Option D} {l h : List Sl → Option (Option Int)} {ρ : List Sl} {g : α → D} {xs : List α} {lo hi : Option Int} (e : f ρ = some (.kl (xs.map g))) (e1 : l ρ = some lo) (e2 : h ρ = some hi) : mSl f l h ρ = some (((xs.drop (HT.sIx xs.length 0 lo)).take (HT.sIx xs.length xs.length hi - HT.sIx xs.length 0 lo)).map g) := by
  unfold mSl
  rw [e, Option.bind_some]
  show (l ρ).bind (fun lo => (h ρ).map fun hi => cutL (xs.map g) lo hi) = _
  rw [e1, Option.bind_some, e2, ← cut_map]
  rfl
theorem dEq_nil {α : Type} (xs : List α) (f : α → D) : dEq (.lst (xs.map f)) (.lst []) = some (.bl xs.isEmpty) := by cases xs <;> rfl
theorem dNe_nil {α : Type} (xs : List α) (f : α → D) : dNe (.lst (xs.map f)) (.lst []) = some (.bl (!xs.isEmpty)) := by cases xs <;> rfl
end L2
namespace L2
open PySem PySem.Spec PyProof.Rows
noncomputable def D.flat : D → Bool
  | .tup xs => xs.all D.scalar
  | d => d.scalar
noncomputable def tupH (Hf H : Hp) : Hp := fun a => match H a with
  | some (.tup vs) => some (.tup vs)
  | _ => Hf a
theorem tupH_tup {Hf H : Hp} {a : Addr} {vs : List V} (h : H a = some (.tup vs)) : tupH Hf H a = some (.tup vs) := by
  unfold tupH
  rw [h]
theorem tupH_no {Hf H : Hp} {a : Addr} (h : ∀ vs, H a ≠ some (.tup vs)) : tupH Hf H a = Hf a := by
  unfold tupH
  split
  · rename_i vs e
    exact absurd e (h vs)
  · rfl
theorem ext_tup {Hf H H' : Hp} (s : Same Hf H) (g : Same H H') : Ext Hf H (tupH Hf H') H' := by
  refine ⟨fun b u e => ?_, g, fun b u e => ?_, fun l o e t => tupH_no fun vs q => ?_⟩
  · have e' := g b u (s b u e)
    cases u with
    | tup vs => exact tupH_tup e'
    | _ =>
      rw [tupH_no (fun vs q => by rw [e'] at q; cases q)]
      exact e
  · by_cases h : ∃ vs, H' b = some (.tup vs)
    · obtain ⟨vs, h⟩ := h
      rw [tupH_tup h] at e
      rw [h]
      exact e
    · rw [tupH_no (fun vs q => h ⟨vs, q⟩)] at e
      exact g b u (s b u e)
  · rw [g l o e] at q
    cases q
    cases t
theorem Reps.sc {G : Gc} {H H' : Hp} : ∀ {ds : List D} {vs : List V}, ds.all D.scalar = true → Reps G H ds vs → Reps G H' ds vs
  | [], _, _, h => h
  | d :: ds, _, hs, ⟨v, r, e, h1, h2⟩ => by
    rw [List.all_cons, Bool.and_eq_true] at hs
    exact ⟨v, r, e, h1.sc hs.1, Reps.sc hs.2 h2⟩
theorem Rep.flat {G : Gc} {Hf H : Hp} {d : D} {v : V} (hs : d.flat = true) (r : Rep G H d v) : Rep G (tupH Hf H) d v := by
  cases d with
  | tup xs =>
    obtain ⟨a, vs, e, h, q⟩ := r
    exact ⟨a, vs, e, tupH_tup h, q.sc hs⟩
  | non => exact r.sc hs
  | bl _ => exact r.sc hs
  | int _ => exact r.sc hs
  | str _ => exact r.sc hs
  | lst _ => cases hs
  | kl _ => cases hs
  | kt _ => cases hs
  | dic _ _ => cases hs
  | ins _ _ _ => cases hs
section
variable {c : Str → Addr} {X : Cx} {e : Expr} {es : List Expr} {x : Str} {p pos : Pos} {k : Nat} {f : Addr} {fd : FuncData} {ps : List Str} {fa : List Sl → Option (List D)}
theorem Reps.flat {G : Gc} {Hf H : Hp} : ∀ {ds : List D} {vs : List V}, ds.all D.flat = true → Reps G H ds vs → Reps G (tupH Hf H) ds vs
  | [], _, _, h => h
  | d :: ds, _, hs, ⟨v, r, e, h1, h2⟩ => by
    rw [List.all_cons, Bool.and_eq_true] at hs
    exact ⟨v, r, e, h1.flat hs.1, Reps.flat hs.2 h2⟩
theorem db_tup {f : List Sl → Option (List D)} {k' : Nat} (h : DAB c X es f) (hz : es.length ≤ 1000 := by exact Nat.le_of_ble_eq_true rfl) : DB c X (.Tuple es k' pos) (mTup f) := PE.imp (pe_tup h.pa) fun σ H Q q_ => by
  obtain ⟨Hf0, H0, Hf, ρ, d, st, ef, k⟩ := q_
  unfold mTup at ef
  cases ed : f ρ with
  | none => rw [ed] at ef; cases ef
  | some ds =>
    rw [ed] at ef
    have ef : D.tup ds = d := Option.some.inj ef
    subst ef
    exact ⟨Hf0, H0, Hf, ρ, ds, st, ed, fun vs Hf' H' x r => ⟨by
      rw [← r.length, h.len ρ ds ed]
      exact Nat.le_of_lt (small1000 hz), fun p hp => k _ Hf' (upd H' p (.tup vs)) (x.trans (Ext.tmp x.s hp)) ⟨p, vs, rfl, upd_same, r.up (same_upd hp)⟩⟩⟩

end
theorem callO_is {m : List D → Option (List D)} {f : List Sl → Option (List D)} {ρ : List Sl} {ds rs : List D} (h : f ρ = some ds) (h' : m ds = some rs) : mCallO m f ρ = some rs := by
  unfold mCallO
  rw [h, Option.bind_some, h']
theorem runO_of {n : Nat} {F : List Sl → Option Fl} {ds rs : List D} (h : F (args0 n ds) = some (.rtO rs)) : runO n F ds = some rs := by
  unfold runO
  rw [h]
  rfl
end L2
namespace L2
open PySem PySem.Spec PyProof.Rows
noncomputable def Fre (B Hf : Hp) (fp : List Addr) : Prop := fp.Nodup ∧ ∀ a ∈ fp, B a = none ∧ Hf a = none
theorem Fre.nil {B Hf : Hp} : Fre B Hf [] := ⟨.nil, fun _ h => nomatch h⟩
theorem Fre.one {B Hf : Hp} {l : Addr} (h : B l = none) (h' : Hf l = none) : Fre B Hf [l] := ⟨List.nodup_cons.mpr ⟨List.not_mem_nil, List.nodup_nil⟩, fun a ha => by rw [List.mem_singleton.mp ha]; exact ⟨h, h'⟩⟩
theorem Fre.imp {B B' Hf : Hp} {fp : List Addr} (h : Fre B Hf fp) (k : ∀ a, B a = none → B' a = none) : Fre B' Hf fp := ⟨h.1, fun a ha => ⟨k a (h.2 a ha).1, (h.2 a ha).2⟩⟩
noncomputable def bsH (b : Bool) (H0 H : Hp) : Hp := bif b then H else H0
theorem bsH_up {b : Bool} {H0 H H' : Hp} (s : Same H H') {a : Addr} (h : bsH b H0 H' a = none) : bsH b H0 H a = none := by
  cases b with
  | true => exact s.free h
  | false => exact h
theorem bsH_of {b : Bool} {H0 H : Hp} (s : Same H0 H) {a : Addr} (h : H a = none) : bsH b H0 H a = none := by
  cases b with
  | true => exact h
  | false => exact s.free h

noncomputable def tDZ (G : Gc) (b : Bool) (f : List Sl → Option O) : TE := fun σ H Q => ∃ Hf0 H0 Hf ρ o, StOk G Hf0 H0 Hf H σ ρ ∧ f ρ = some o ∧ ∀ u fp Hf' H', Ext Hf H Hf' H' → OT G Hf' H' o u fp → Fre (bsH b H0 H) Hf' fp → Q u H'
noncomputable def DZ (c : Str → Addr) (X : Cx) (b : Bool) (e : Expr) (f : List Sl → Option O) : Prop := PE X e (tDZ (Gx c X) b f)
noncomputable def tDAZ (G : Gc) (b : Bool) (f : List Sl → Option (List D)) (g : List Sl → Option O) : TA := fun σ H Q => ∃ Hf0 H0 Hf ρ ds o, StOk G Hf0 H0 Hf H σ ρ ∧ f ρ = some ds ∧ g ρ = some o ∧
  ∀ vs u fp Hf' H', Ext Hf H Hf' H' → Reps G Hf' ds vs → OT G Hf' H' o u fp → Fre (bsH b H0 H) Hf' fp → Q (vs ++ [u]) H'
structure DAZ (c : Str → Addr) (X : Cx) (b : Bool) (es : List Expr) (f : List Sl → Option (List D)) (g : List Sl → Option O) : Prop where
  pa : PA X es (tDAZ (Gx c X) b f g)
  len : ∀ ρ ds, f ρ = some ds → ds.length + 1 = es.length
noncomputable def zFz (f : List Sl → Option D) (ρ : List Sl) : Option O := (f ρ).map .fz
noncomputable def zLst (f : List Sl → Option (List D)) (ρ : List Sl) : Option O := (f ρ).map fun ds => .lst (ds.map .fz)
noncomputable def zTup (f : List Sl → Option (List D)) (g : List Sl → Option O) (ρ : List Sl) : Option O := (f ρ).bind fun ds => (g ρ).map fun o => .tup (ds.map .fz ++ [o])
theorem OTs.snoc {G : Gc} {Hf H : Hp} {o : O} {u : V} {fp : List Addr} (h : OT G Hf H o u fp) : ∀ {ds : List D} {vs : List V}, Reps G Hf ds vs → OTs G Hf H (ds.map .fz ++ [o]) (vs ++ [u]) fp
  | [], _, r => by cases (show _ = [] from r); exact ⟨u, [], fp, [], rfl, h, ⟨rfl, rfl⟩, (List.append_nil _).symm⟩
  | d :: ds, _, ⟨v, r, e, h1, h2⟩ => by subst e; exact ⟨v, r ++ [u], [], fp, rfl, ⟨h1, rfl⟩, OTs.snoc h h2, rfl⟩
section
variable {c : Str → Addr} {X : Cx} {b : Bool} {e o a a' : Expr} {es : List Expr} {pos : Pos}
theorem dz_de {f : List Sl → Option D} (h : DE c X e f) : DZ c X b e (zFz f) := PE.imp h fun σ H Q q_ => by
  obtain ⟨Hf0, H0, Hf, ρ, t, st, ef, k⟩ := q_
  unfold zFz at ef
  cases ed : f ρ with
  | none => rw [ed] at ef; cases ef
  | some d =>
    rw [ed] at ef
    cases ef
    exact ⟨Hf0, H0, Hf, ρ, d, st, ed, fun v Hf' H' x r => k v [] Hf' H' x ⟨r, rfl⟩ .nil⟩
theorem dz_do {f : List Sl → Option (List D)} (h : DO c X e f) : DZ c X b e (zLst f) := PE.imp h fun σ H Q q_ => by
  obtain ⟨Hf0, H0, Hf, ρ, t, st, ef, k⟩ := q_
  unfold zLst at ef
  cases ed : f ρ with
  | none => rw [ed] at ef; cases ef
  | some ds =>
    rw [ed] at ef
    cases ef
    exact ⟨Hf0, H0, Hf, ρ, ds, st, ed, fun l vs Hf' H' x hn hf hl r => k _ [l] Hf' H' x ⟨l, vs, [], rfl, hl, OTs.fz r, rfl⟩ (.one (bsH_of st.ext.h hn) hf)⟩
theorem daz_one {g : List Sl → Option O} (h : DZ c X b e g) (hs : starEach [e] X.env = [(false, eval e X.env)] := by rfl) : DAZ c X b [e] (fun _ => some []) g :=
  ⟨PA.imp (pa_cons h pa_nil hs) fun σ H Q q_ => by
    obtain ⟨Hf0, H0, Hf, ρ, ds, o, st, ef, eg, k⟩ := q_
    cases ef
    exact ⟨Hf0, H0, Hf, ρ, o, st, eg, fun u fp Hf' H' x r z => k [] u fp Hf' H' x rfl r z⟩, fun ρ ds h => by cases h; rfl⟩
theorem daz_cons {f : List Sl → Option D} {fs : List Sl → Option (List D)} {g : List Sl → Option O} (h : DE c X e f) (hr : DAZ c X b es fs g) (hs : starEach (e :: es) X.env = (false, eval e X.env) :: starEach es X.env := by rfl) : DAZ c X b (e :: es) (mCons f fs) g := by
  refine ⟨PA.imp (pa_cons h hr.pa hs) fun σ H Q q_ => ?_, fun ρ ds h => ?_⟩
  · obtain ⟨Hf0, H0, Hf, ρ, ds, o, st, ef, eg, k⟩ := q_
    obtain ⟨d, r, e1, e2, rfl⟩ := mCons_is ef
    exact ⟨Hf0, H0, Hf, ρ, d, st, e1, fun v Hf1 H1 x1 r1 => ⟨Hf0, H0, Hf1, ρ, r, o, st.step x1, e2, eg, fun vs u fp Hf2 H2 x2 r2 r3 z => k (v :: vs) u fp Hf2 H2 (x1.trans x2) (.cons (r1.up x2.f) r2) r3 (z.imp fun a ha => bsH_up x1.h ha)⟩⟩
  · obtain ⟨d, r, e1, e2, rfl⟩ := mCons_is h
    simp [← hr.len ρ r e2]
theorem dz_tup {f : List Sl → Option (List D)} {g : List Sl → Option O} {k' : Nat} (h : DAZ c X b es f g) (hz : es.length ≤ 1000 := by exact Nat.le_of_ble_eq_true rfl) : DZ c X b (.Tuple es k' pos) (zTup f g) := PE.imp (pe_tup h.pa) fun σ H Q q_ => by
  obtain ⟨Hf0, H0, Hf, ρ, t, st, ef, k⟩ := q_
  unfold zTup at ef
  cases ed : f ρ with
  | none => rw [ed] at ef; cases ef
  | some ds =>
    rw [ed, Option.bind_some] at ef
    cases eg : g ρ with
    | none => rw [eg] at ef; cases ef
    | some o =>
      rw [eg] at ef
      cases ef
      refine ⟨Hf0, H0, Hf, ρ, ds, o, st, ed, eg, fun vs u fp Hf' H' x r ro z => ⟨?_, fun p hp => ?_⟩⟩
      · rw [List.length_append, ← r.length, List.length_singleton, h.len ρ ds ed]
        exact Nat.le_of_lt (small1000 hz)
      · exact k _ fp Hf' (upd H' p (.tup (vs ++ [u]))) (x.trans (Ext.tmp x.s hp)) ⟨p, _, rfl, upd_same, OTs.snoc (ro.up (Same.refl _) (same_upd hp)) r⟩ z

noncomputable def zB (f : List Sl → Option O) (ρ : List Sl) : Option D := (f ρ).bind fun o => if o.kn then some o.toD else none
theorem DZ.db {f : List Sl → Option O} (h : DZ c X true e f) : DB c X e (zB f) := PE.imp h fun σ H Q q_ => by
  obtain ⟨Hf0, H0, Hf, ρ, d, st, ef, k⟩ := q_
  unfold zB at ef
  cases ed : f ρ with
  | none => rw [ed] at ef; cases ef
  | some o =>
    rw [ed, Option.bind_some] at ef
    split at ef
    · rename_i hk
      cases ef
      exact ⟨Hf0, H0, Hf, ρ, o, st, ed, fun u fp Hf' H' x r _ => k u Hf' H' x (r.rep x.s hk)⟩
    · cases ef

theorem db_ix {f : List Sl → Option D} {g : List Sl → Option D} (ha : DB c X a f) (hb : DE c X a' g) (hs : PlainIx a' := by exact fun _ _ => rfl) : DB c X (.Subscript a a' pos) (mIx (mSeqI f) g) :=
  PE.imp (pe_ix (ix_list.or ix_tup) ha hb hs) fun σ H Q q_ => by
    obtain ⟨Hf0, H0, Hf, ρ, d, st, ef, k⟩ := q_
    unfold mIx mSeqI at ef
    cases e1 : f ρ with
    | none => rw [e1] at ef; cases ef
    | some d0 =>
      rw [e1, Option.bind_some] at ef
      cases e3 : seqD d0 with
      | none => rw [e3] at ef; cases ef
      | some ds =>
        rw [e3, Option.bind_some] at ef
        cases e2 : g ρ with
        | none => rw [e2] at ef; cases ef
        | some i =>
          rw [e2, Option.bind_some] at ef
          cases i with
          | int n =>
            replace ef : atI ds n = some d := ef
            refine ⟨Hf0, H0, Hf, ρ, d0, st, e1, fun v Hf1 H1 x1 r => ⟨Hf0, H0, Hf1, ρ, .int n, st.step x1, e2, fun u Hf2 H2 x2 r2 => ?_⟩⟩
            cases (show u = V.int n from r2)
            obtain ⟨l, vs, ev, q, rs⟩ := seq_rep e3 (r.up x2.h)
            subst ev
            obtain ⟨v, ev, rv⟩ := atI_rep ef rs
            have fin := k v Hf2 H2 (x1.trans x2) rv
            rcases q with q | q
            · exact .inl ⟨l, vs, n, v, rfl, rfl, q, ev, fin⟩
            · exact .inr ⟨l, vs, n, v, rfl, rfl, q, ev, fin⟩
          | _ => cases ef
end
noncomputable def retT : Fl → Option O
  | .rt d => some (.fz d)
  | .rtO ds => some (.lst (ds.map .fz))
  | .rtT o => some o
  | _ => none
noncomputable def runT (n : Nat) (F : List Sl → Option Fl) (ds : List D) : Option O := (F (args0 n ds)).bind retT
noncomputable def spT (G : Gc) (n : Nat) (m : List D → Option O) : Sp := fun vs H Q _ => ∃ Hf ds o, Same Hf H ∧ Reps G Hf ds vs ∧ ds.length = n ∧ m ds = some o ∧ ∀ u fp Hf' H', Ext Hf H Hf' H' → OT G Hf' H' o u fp → Fre H Hf' fp → Q u H'
section
variable {P : Program} {w : World} {K : PySem.W.Frag} {mg : Str → Option Value} {base : Heap} {c : Str → Addr}
theorem fn_T {x qual : Str} {st : Stmt} {f : Addr} {fd : FuncData} {N ps : List Str} {k : Nat} {F : List Sl → Option Fl} (Fn : Fun K x qual st f fd) (S : FnScope N ps (defScope st))
    (h : ∀ (cdv : Value) (A : Around) (outer : List Env) (s : Shared) (H : Hp) (E : XK), Room k (A.deeper (envOfC qual (defScope st) s.heap.objs.size f cdv)) → DSs c (cxOf CX0 P w K mg base N qual (defScope st) f cdv A outer s H E).nox (defBody st) F) :
    FnOk P w K mg base CX0 (k + 1) f fd ps (spT ⟨K, c⟩ ps.length (runT N.length F)) := by
  refine Fn.ok S (fun vs H Q E ⟨Hf, ds, d, s0, r, hl, _⟩ => by rw [← r.length]; exact hl) fun cdv A outer s H vs Q E hr ⟨Hf, ds, t, s0, r, hl, e, kq⟩ => ⟨_, h cdv A outer s H E hr, ?_⟩
  unfold runT at e
  cases eF : F (args0 N.length ds) with
  | none => rw [eF] at e; cases e
  | some o =>
    rw [eF] at e
    replace e : retT o = some t := e
    refine ⟨Hf, H, Hf, _, o, StOk.start s0 r, eF, ?_⟩
    cases o with
    | rt d => cases e; exact fun v Hf' H' x r => kq v [] Hf' H' x ⟨r, rfl⟩ .nil
    | rtO rs => cases e; exact fun l vs Hf' H' x hn hf hl r => kq _ [l] Hf' H' x ⟨l, vs, [], rfl, hl, OTs.fz r, rfl⟩ (.one hn hf)
    | rtT o => cases e; exact fun u fp Hf' H' x r n z => kq u fp Hf' H' x r ⟨n, z⟩
    | _ => cases e
end
mutual
noncomputable def O.flat : O → Bool
  | .fz d => d.flat
  | .lst os => O.flats os
  | .tup os => O.flats os
  | .dic _ os => O.flats os
  | .ins _ _ os => O.flats os
  | .jnk _ => true
noncomputable def O.flats : List O → Bool
  | [] => true
  | o :: os => o.flat && O.flats os
end
section
variable {G : Gc} {Hf Hf' H : Hp}
mutual
theorem OT.flatM (s : Same Hf' H) : ∀ (o : O) (v : V) (fp : List Addr), o.flat = true → OT G Hf' H o v fp → OT G (tupH Hf H) H o v fp
  | .fz d, _, _, hs, h => by rw [O.flat] at hs; exact ⟨(h.1.up s).flat hs, h.2⟩
  | .lst os, _, _, hs, ⟨a, vs, fs, e, q, r, ef⟩ => by rw [O.flat] at hs; exact ⟨a, vs, fs, e, q, OTs.flatM s os vs fs hs r, ef⟩
  | .tup os, _, fp, hs, ⟨a, vs, e, q, r⟩ => by rw [O.flat] at hs; exact ⟨a, vs, e, q, OTs.flatM s os vs fp hs r⟩
  | .dic ks os, _, _, hs, ⟨a, vs, fs, e, q, z, r, ef⟩ => by rw [O.flat] at hs; exact ⟨a, vs, fs, e, q, z, OTs.flatM s os vs fs hs r, ef⟩
  | .ins c ns os, _, _, hs, ⟨a, dx, vs, fs, e, q, z, r, ef⟩ => by rw [O.flat] at hs; exact ⟨a, dx, vs, fs, e, q, z, OTs.flatM s os vs fs hs r, ef⟩
  | .jnk n, _, _, _, h => h
theorem OTs.flatM (s : Same Hf' H) : ∀ (os : List O) (vs : List V) (fp : List Addr), O.flats os = true → OTs G Hf' H os vs fp → OTs G (tupH Hf H) H os vs fp
  | [], _, _, _, h => h
  | o :: os, _, _, hs, ⟨v, r, f1, f2, e, h1, h2, ef⟩ => by
    rw [O.flats, Bool.and_eq_true] at hs
    exact ⟨v, r, f1, f2, e, OT.flatM s o v f1 hs.1 h1, OTs.flatM s os r f2 hs.2 h2, ef⟩
end
end
section
variable {c : Str → Addr} {X : Cx} {b : Bool} {k : Nat} {f : Addr} {fd : FuncData} {ps : List Str} {x : Str} {p pos : Pos} {e : Expr} {es : List Expr} {fa : List Sl → Option (List D)}
noncomputable def zCall (m : List D → Option O) (f : List Sl → Option (List D)) (ρ : List Sl) : Option O := (f ρ).bind m
theorem dz_call {m : List D → Option O} (F : FnOk X.prog X.w X.K X.mg X.base CX0 k f fd ps (spT (Gx c X) ps.length m)) (hr : Room k X.A) (hg : Gl X x) (hm : X.mg x = some (.ref f)) (hk : PySem.W.keepIn X.K (.ref f) = true) (hb : Binds X.K fd ps []) (ha : DA c X (e :: es) fa)
    (hl : (e :: es).length = ps.length := by rfl) (hdb : (x == ("__debug__" : Str)) = false := by decide) (he : starEach (e :: es) X.env = (false, eval e X.env) :: starEach es X.env := by rfl) (hpl : (backTo pos (starEach es X.env)).any (·.1) = false := by rfl) :
    DZ c X b (.Call (.Name x p) (e :: es) [] pos) (zCall m fa) := PE.imp (pe_call F hr hg hm hk hb .nil pass0 ha.pa hdb he hpl) fun σ H Q q_ => by
  obtain ⟨Hf0, H0, Hf, ρ, o, st, ef, kq⟩ := q_
  unfold zCall at ef
  cases e1 : fa ρ with
  | none => rw [e1] at ef; cases ef
  | some ds =>
    rw [e1, Option.bind_some] at ef
    refine ⟨Hf0, H0, Hf, ρ, ds, st, e1, fun vs Hf' H' x r => ?_⟩
    dsimp only
    rw [List.append_nil]
    exact ⟨Hf', ds, o, x.s, r, (ha.len ρ ds e1).trans hl, ef, fun u fp Hf2 H2 x2 r2 z => kq u fp Hf2 H2 (x.trans x2) r2 (z.imp fun a h => bsH_of st.ext.h (x.h.free h))⟩
noncomputable def zCallF (m : List D → Option O) (f : List Sl → Option (List D)) (ρ : List Sl) : Option O := (f ρ).bind fun ds => (m ds).bind fun o => if o.flat then some o else none
theorem dz_callF {m : List D → Option O} (F : FnOk X.prog X.w X.K X.mg X.base CX0 k f fd ps (spT (Gx c X) ps.length m)) (hr : Room k X.A) (hg : Gl X x) (hm : X.mg x = some (.ref f)) (hk : PySem.W.keepIn X.K (.ref f) = true) (hb : Binds X.K fd ps []) (ha : DAB c X (e :: es) fa)
    (hl : (e :: es).length = ps.length := by rfl) (hdb : (x == ("__debug__" : Str)) = false := by decide) (he : starEach (e :: es) X.env = (false, eval e X.env) :: starEach es X.env := by rfl) (hpl : (backTo pos (starEach es X.env)).any (·.1) = false := by rfl) :
    DZ c X b (.Call (.Name x p) (e :: es) [] pos) (zCallF m fa) := PE.imp (pe_call F hr hg hm hk hb .nil pass0 ha.pa hdb he hpl) fun σ H Q q_ => by
  obtain ⟨Hf0, H0, Hf, ρ, o, st, ef, kq⟩ := q_
  unfold zCallF at ef
  cases e1 : fa ρ with
  | none => rw [e1] at ef; cases ef
  | some ds =>
    rw [e1, Option.bind_some] at ef
    cases e2 : m ds with
    | none => rw [e2] at ef; cases ef
    | some o' =>
      rw [e2, Option.bind_some] at ef
      split at ef
      · rename_i hs
        cases ef
        refine ⟨Hf0, H0, Hf, ρ, ds, st, e1, fun vs Hf' H' x r => ?_⟩
        dsimp only
        rw [List.append_nil]
        refine ⟨H', ds, o, Same.refl _, r, (ha.len ρ ds e1).trans hl, e2, fun u fp Hf2 H2 x2 r2 z => ?_⟩
        refine kq u fp (tupH Hf' H2) H2 (x.trans (ext_tup x.s x2.h)) (OT.flatM x2.s o u fp hs r2) ⟨z.1, fun a ha => ⟨bsH_of st.ext.h (x.h.free (z.2 a ha).1), ?_⟩⟩
        obtain ⟨oo, ho, ht⟩ := OT.memM o u fp r2 a ha
        rw [tupH_no (fun vs q => by rw [ho] at q; cases q; cases ht)]
        exact x.s.free (z.2 a ha).1
      · cases ef
end
section
variable {c : Str → Addr} {X : Cx} {st : Stmt} {e : Expr} {pos : Pos}
noncomputable def zSet (i : Nat) (f : List Sl → Option O) (ρ : List Sl) : Option Fl := (f ρ).map fun o => .nx (ρ.set i (.deep o))
theorem ds_setZ (i : Nat) {x : Str} {f : List Sl → Option O} {pos' : Pos} (hN : X.N.Nodup) (he : DZ c X true e f) (hi : X.N[i]? = some x := by rfl) (hx : Loc X.env.scope x := by first | exact Or.inl rfl | exact Or.inr rfl) (hs : swapsWith e (some (.Name x pos')) pos.line X.env = pure false := by rfl) (hf : X.fn x = true ∨ X.env.scope.names.lookup x = some .local := by first | exact .inl rfl | exact .inr rfl) :
    DS c X (.Assign [.Name x pos'] e pos) (zSet i f) := PS.imp (ps_set hN hi hx he hs hf) fun E σ H q_ => by
  obtain ⟨Hf0, H0, Hf, ρ, o, so, ef, k⟩ := q_
  unfold zSet at ef
  cases e1 : f ρ with
  | none => rw [e1] at ef; cases ef
  | some t =>
    rw [e1] at ef
    cases ef
    refine ⟨Hf0, H0, Hf, ρ, t, so, e1, fun u fp Hf' H' x r z => k _ Hf' H' x.f (so.setNew x ⟨u, fp, rfl, r, z.1, fun a ha => ⟨so.ext.h.free (z.2 a ha).1, (z.2 a ha).2⟩⟩ fun a p => ?_)⟩
    obtain ⟨fp', r', ha⟩ := p
    have := OT.funM t u fp fp' r r'
    subst this
    exact (z.2 a ha).1
noncomputable def zRet (f : List Sl → Option O) (ρ : List Sl) : Option Fl := (f ρ).map .rtT
theorem ds_retZ {f : List Sl → Option O} (he : DZ c X false e f) : DS c X (.Return (some e) pos) (zRet f) := PS.imp (ps_ret he) fun E σ H q_ => by
  obtain ⟨Hf0, H0, Hf, ρ, o, so, ef, k⟩ := q_
  unfold zRet at ef
  cases e1 : f ρ with
  | none => rw [e1] at ef; cases ef
  | some t =>
    rw [e1] at ef
    cases ef
    exact ⟨Hf0, H0, Hf, ρ, t, so, e1, fun u fp Hf' H' x r z => k u fp Hf' H' (so.ext.trans x) r z.1 z.2⟩
theorem OTs.at : ∀ {G : Gc} {Hf H : Hp} {os : List O} {vs : List V} {fp : List Addr} {k : Nat} {o : O}, OTs G Hf H os vs fp → os[k]? = some o → ∃ v f, vs[k]? = some v ∧ OT G Hf H o v f ∧ ∀ a ∈ f, a ∈ fp
  | _, _, _, [], _, _, _, _, _, e => by simp at e
  | _, _, _, o :: os, _, _, 0, o', ⟨v, r, f1, f2, e, h1, h2, ef⟩, e' => by
    rw [List.getElem?_cons_zero] at e'
    cases e'
    subst e ef
    exact ⟨v, f1, rfl, h1, fun a ha => List.mem_append_left _ ha⟩
  | _, _, _, o :: os, _, _, k + 1, o', ⟨v, r, f1, f2, e, h1, h2, ef⟩, e' => by
    rw [List.getElem?_cons_succ] at e'
    subst e ef
    obtain ⟨v', f, a, b, m⟩ := OTs.at h2 e'
    exact ⟨v', f, by rw [List.getElem?_cons_succ]; exact a, b, fun a ha => List.mem_append_right _ (m a ha)⟩

theorem wp_setZ {i : Nat} {f : List Sl → Option O} {ρ : List Sl} {o : O} {K : Fl → Prop} (h : f ρ = some o) (k : K (.nx (ρ.set i (.deep o)))) : wp (zSet i f) ρ K := ⟨_, by unfold zSet; rw [h]; rfl, k⟩
noncomputable def kRunT (Q : O → Prop) (o : Fl) : Prop := ∃ t, retT o = some t ∧ Q t
theorem wp_runT {n : Nat} {F : List Sl → Option Fl} {ds : List D} {Q : O → Prop} (h : wp F (args0 n ds) (kRunT Q)) : ∃ o, runT n F ds = some o ∧ Q o := by
  obtain ⟨o, e, d, e', q⟩ := h
  refine ⟨d, ?_, q⟩
  unfold runT
  rw [e]
  exact e'
end
end L2
namespace L2
open PySem PySem.Spec PyProof.Rows
theorem OTs.length {G : Gc} {Hf H : Hp} : ∀ {os : List O} {vs : List V} {fp : List Addr}, OTs G Hf H os vs fp → os.length = vs.length
  | [], _, _, h => by rw [h.1]; rfl
  | o :: os, _, _, ⟨v, r, f1, f2, e, h1, h2, ef⟩ => by subst e; simp [OTs.length h2]
theorem OTs.append {G : Gc} {Hf H : Hp} : ∀ {os ps : List O} {vs us : List V} {f g : List Addr}, OTs G Hf H os vs f → OTs G Hf H ps us g → OTs G Hf H (os ++ ps) (vs ++ us) (f ++ g)
  | [], _, _, _, _, _, h, t => by obtain ⟨a, b⟩ := h; subst a b; exact t
  | o :: os, _, _, _, _, _, ⟨v, r, f1, f2, e, h1, h2, ef⟩, t => by subst e ef; exact ⟨v, r ++ _, f1, f2 ++ _, rfl, h1, OTs.append h2 t, List.append_assoc _ _ _⟩
theorem OTs.one {G : Gc} {Hf H : Hp} {o : O} {v : V} {f : List Addr} (h : OT G Hf H o v f) : OTs G Hf H [o] [v] f := ⟨v, [], f, [], rfl, h, ⟨rfl, rfl⟩, (List.append_nil _).symm⟩
theorem OTs.up {G : Gc} {Hf H Hf' H' : Hp} {os : List O} {vs : List V} {fp : List Addr} (h : OTs G Hf H os vs fp) (f : Same Hf Hf') (s : Same H H') : OTs G Hf' H' os vs fp := OTs.frameM f os vs fp h fun b u e _ => s b u e
theorem Fre.step {B Hf H Hf' H' : Hp} {fs : List Addr} (z : Fre B Hf fs) (m : ∀ a ∈ fs, ∃ u, H a = some u ∧ tupO u = false) (x : Ext Hf H Hf' H') : Fre B Hf' fs := ⟨z.1, fun a ha => ⟨(z.2 a ha).1, by
  obtain ⟨u, hu, ht⟩ := m a ha
  rw [x.n a u hu ht]
  exact (z.2 a ha).2⟩⟩
theorem Fre.app {B Hf : Hp} {fs fp : List Addr} (z : Fre B Hf fs) (y : Fre B Hf fp) (d : ∀ a ∈ fs, a ∈ fp → False) : Fre B Hf (fs ++ fp) :=
  ⟨List.nodup_append.mpr ⟨z.1, y.1, fun a ha b hb e => by subst e; exact d a ha hb⟩, fun a ha => (List.mem_append.mp ha).elim (z.2 a) (y.2 a)⟩
noncomputable def compZ (h : D → Option (Option O)) : List D → Option (List O)
  | [] => some []
  | d :: ds => (h d).bind fun o => (compZ h ds).map fun r => match o with
    | some y => y :: r
    | none => r
theorem compZ_cons {h : D → Option (Option O)} {d : D} {ds : List D} {r : List O} (e : compZ h (d :: ds) = some r) : ∃ o r', h d = some o ∧ compZ h ds = some r' ∧ r = (match o with | some y => y :: r' | none => r') := by
  unfold compZ at e
  cases e1 : h d with
  | none => rw [e1] at e; cases e
  | some o =>
    cases e2 : compZ h ds with
    | none => rw [e1, e2] at e; cases e
    | some r' =>
      rw [e1, e2] at e
      cases e
      refine ⟨o, r', rfl, rfl, ?_⟩
      cases o <;> rfl
theorem compZ_all {α : Type} {h : D → Option (Option O)} (f : α → D) (φ : α → O) : ∀ {xs : List α}, (∀ x ∈ xs, h (f x) = some (some (φ x))) → compZ h (xs.map f) = some (xs.map φ)
  | [], _ => rfl
  | x :: xs, hh => by
    rw [List.map_cons]
    unfold compZ
    rw [hh x List.mem_cons_self, compZ_all f φ (xs := xs) fun y hy => hh y (List.mem_cons_of_mem _ hy)]
    rfl
noncomputable def zTurn (g : D → List Sl → Option (List Sl)) (ft : List Sl → Option Bool) (fe : List Sl → Option O) (ρ : List Sl) (d : D) : Option (Option O) := (g d ρ).bind fun ρ1 => (ft ρ1).bind fun b => if b then (fe ρ1).map some else some none
noncomputable def zComp (k : Nat) (js : List Nat) (fi : List Sl → Option (List D)) (g : D → List Sl → Option (List Sl)) (ft : List Sl → Option Bool) (fe : List Sl → Option O) (ρ : List Sl) : Option O :=
  (fi ρ).bind fun ds => if ds.length ≤ 16777216 then (compZ (zTurn g ft fe (compRo k js ρ)) ds).map .lst else none
section
variable {c : Str → Addr} {X : Cx} {elt tg iter e : Expr} {ifs : List Expr} {scope : Scope} {pos : Pos} {Nc : List Str} {k : Nat} {js : List Nat} {b : Bool}
  {fi : List Sl → Option (List D)} {g : D → List Sl → Option (List Sl)} {ft : List Sl → Option Bool} {fe : List Sl → Option O}
theorem zcomp_imp {G : Gc} (hj : js.Nodup) (hk : ∀ d ρ ρ' i, g d ρ = some ρ' → k ≤ i → ρ'[i]? = ρ[i]?) (hlen : ∀ d ρ ρ', g d ρ = some ρ' → ρ'.length = ρ.length) {σ : St} {H : Hp} {Q : VK} (h : tDZ G b (zComp k js fi g ft fe) σ H Q) :
    tComp k js (tDIe G fi) (tDG G g) (tDT G ft) (tDZ G true fe) σ H Q := by
  obtain ⟨Hf0, H0, Hf, ρ, t, st, ef, kq⟩ := h
  unfold zComp at ef
  cases e1 : fi ρ with
  | none => rw [e1] at ef; cases ef
  | some ds =>
    rw [e1, Option.bind_some] at ef
    by_cases hz : ds.length ≤ 16777216
    · rw [if_pos hz] at ef
      cases e2 : compZ (zTurn g ft fe (compRo k js ρ)) ds with
      | none => rw [e2] at ef; cases ef
      | some rs =>
        rw [e2] at ef
        cases ef
        refine ⟨Hf0, H0, Hf, ρ, ds, st, e1, fun J Hf1 H1 x1 it => ?_⟩
        refine ⟨fun i m ys σ' H' => m = ds.length - i ∧ i ≤ ds.length ∧ ∃ Hf' as rest fs, Ext Hf1 H1 Hf' H' ∧ StOk G Hf0 H0 Hf' H' σ' (compRo k js ρ) ∧ OTs G Hf' H' as ys fs ∧ Fre H1 Hf' fs ∧ compZ (zTurn g ft fe (compRo k js ρ)) (ds.drop i) = some rest ∧ rs = as ++ rest ∧ as.length ≤ i,
          ⟨ds.length, rfl, Nat.zero_le _, Hf1, [], rs, [], Ext.refl x1.s, (st.step x1).comp k hj, ⟨rfl, rfl⟩, .nil, e2, rfl, Nat.le_refl _⟩, ?_⟩
        rintro i m ys σ' H' ⟨rfl, hi, Hf', as, rest, fs, x2, st2, ra, za, ec, er, hal⟩
        have hys : ys.length ≤ sizeLine := by rw [sizeLine_eq, ← ra.length]; omega
        obtain ⟨it1, it2⟩ := it Hf' H' x2 i
        by_cases hlt : i < ds.length
        · obtain ⟨d, ed, edr⟩ := drop_get hlt
          obtain ⟨go, yl⟩ := it1 d ed
          refine .inr ⟨go, hys, fun ys' σ2 H2 => ds.length - (i + 1) = ds.length - (i + 1) ∧ i + 1 ≤ ds.length ∧ ∃ Hf' as rest fs, Ext Hf1 H1 Hf' H2 ∧ StOk G Hf0 H0 Hf' H2 σ2 (compRo k js ρ) ∧ OTs G Hf' H2 as ys' fs ∧ Fre H1 Hf' fs ∧ compZ (zTurn g ft fe (compRo k js ρ)) (ds.drop (i + 1)) = some rest ∧ rs = as ++ rest ∧ as.length ≤ i + 1,
            fun ys' σ2 H2 w => ⟨ds.length - (i + 1), by omega, w⟩, fun x H2 y => ?_⟩
          obtain ⟨Hf2, x3, rx⟩ := yl x H2 y
          rw [edr] at ec
          obtain ⟨o, r', eo, ec', erest⟩ := compZ_cons ec
          unfold zTurn at eo
          cases eg : g d (compRo k js ρ) with
          | none => rw [eg] at eo; cases eo
          | some ρ1 =>
            rw [eg] at eo
            replace eo : (ft ρ1).bind _ = _ := eo
            cases et : ft ρ1 with
            | none => rw [et] at eo; cases eo
            | some b' =>
              rw [et] at eo
              replace eo : (if b' = true then (fe ρ1).map some else some none) = some o := eo
              refine ⟨Hf0, H0, Hf2, compRo k js ρ, d, ρ1, st2.step x3, rx, eg, fun σ3 st3 => ⟨Hf0, H0, Hf2, ρ1, b', st3, et, fun Hf4 H4 x4 => ?_⟩⟩
              have back : ∀ {Hf5 H5 : Hp}, StOk G Hf0 H0 Hf5 H5 σ3 ρ1 → StOk G Hf0 H0 Hf5 H5 σ3 (compRo k js ρ) := fun {Hf5 H5} s5 => s5.weak (hlen _ _ _ eg).symm fun j s hs => by
                rcases rep_app hs with ⟨_, e⟩ | ⟨hj', _⟩
                · exact .inl e
                · exact .inr (by rw [hk _ _ _ _ eg hj']; exact hs)
              have mem := OTs.memM as ys fs ra
              cases b' with
              | true =>
                rw [if_pos rfl] at eo
                refine iteT ?_
                cases ee : fe ρ1 with
                | none => rw [ee] at eo; cases eo
                | some y' =>
                  rw [ee] at eo
                  cases eo
                  refine ⟨Hf0, H0, Hf4, ρ1, y', st3.step x4, ee, fun v fp Hf5 H5 x5 r5 z5 => ?_⟩
                  have z5 : Fre H4 Hf5 fp := z5
                  have x34 := x3.trans x4
                  have x := x34.trans x5
                  refine ⟨rfl, hlt, Hf5, as ++ [y'], r', fs ++ fp, x2.trans x, back ((st3.step x4).step x5), (ra.up x.f x.h).append (.one r5), (za.step mem x).app (z5.imp fun a h => x2.h.free (x34.h.free h)) fun a ha hb => ?_, ec', ?_, by rw [List.length_append, List.length_singleton]; omega⟩
                  · obtain ⟨u, hu, _⟩ := mem a ha
                    have := x34.h a u hu
                    rw [(z5.2 a hb).1] at this
                    cases this
                  · rw [er, erest, List.append_assoc]
                    rfl
              | false =>
                rw [if_neg Bool.false_ne_true] at eo
                refine iteF ?_
                cases eo
                have x := x3.trans x4
                exact ⟨rfl, hlt, Hf4, as, r', fs, x2.trans x, back (st3.step x4), ra.up x.f x.h, za.step mem x, ec', by rw [er, erest], by omega⟩
        · have ei : i = ds.length := by omega
          subst ei
          refine .inl ⟨it2 rfl, hys, fun l h1 h2 => ?_⟩
          rw [List.drop_eq_nil_of_le (Nat.le_refl _)] at ec
          cases ec
          rw [List.append_nil] at er
          subst er
          have x := x1.trans x2
          refine kq _ (l :: fs) Hf' (upd H' l (.lst ys)) (x.trans (Ext.tmp x.s h2)) ⟨l, ys, fs, rfl, upd_same, ra.up (Same.refl _) (same_upd h2), rfl⟩ ⟨List.nodup_cons.mpr ⟨fun hl => ?_, za.1⟩, fun a ha => ?_⟩
          · obtain ⟨u, hu, _⟩ := OTs.memM _ ys fs ra l hl
            rw [h2] at hu
            cases hu
          · rcases List.mem_cons.mp ha with e | e
            · subst e
              exact ⟨bsH_of st.ext.h (x.h.free h2), x.s.free h2⟩
            · exact ⟨bsH_of st.ext.h (x1.h.free (za.2 a e).1), (za.2 a e).2⟩
    · rw [if_neg hz] at ef
      cases ef
theorem ds_setZ_of {te : TE} {i : Nat} {st : Stmt} {f : List Sl → Option O} (hp : PS X st (tAsg te (gName i))) (hi : ∀ σ H Q, tDZ (Gx c X) true f σ H Q → te σ H Q) : DS c X st (zSet i f) := PS.imp hp fun E σ H q_ => by
  obtain ⟨Hf0, H0, Hf, ρ, o, so, ef, k⟩ := q_
  unfold zSet at ef
  cases e1 : f ρ with
  | none => rw [e1] at ef; cases ef
  | some t =>
    rw [e1] at ef
    cases ef
    refine hi _ _ _ ⟨Hf0, H0, Hf, ρ, t, so, e1, fun u fp Hf' H' x r z => k _ Hf' H' x.f (so.setNew x ⟨u, fp, rfl, r, z.1, fun a ha => ⟨so.ext.h.free (z.2 a ha).1, (z.2 a ha).2⟩⟩ fun a p => ?_)⟩
    obtain ⟨fp', r', ha⟩ := p
    have := OT.funM t u fp fp' r r'
    subst this
    exact (z.2 a ha).1

theorem ds_setZComp (i : Nat) {x : Str} {pos' spos : Pos} (k : Nat) (js : List Nat) (Nc : List Str) (hN : X.N.Nodup) (hc : X.calm = true) (hi : DIe c X tg iter fi)
    (hg : ∀ cl C ex s₂ H₂, DG c (X.comp scope Nc cl C ex s₂ H₂) tg k g) (ht : ∀ cl C ex s₂ H₂, DTs c (X.comp scope Nc cl C ex s₂ H₂) ifs ft) (he : ∀ cl C ex s₂ H₂, DZ c (X.comp scope Nc cl C ex s₂ H₂) true elt fe)
    (hi' : X.N[i]? = some x := by rfl) (hx : Loc X.env.scope x := by first | exact Or.inl rfl | exact Or.inr rfl)
    (hsw : swapsWith (.ListComp elt [⟨tg, iter, ifs, 0⟩] scope pos) (some (.Name x pos')) spos.line X.env = pure true := by rfl)
    (ck : compChk scope X.env.scope.names X.N Nc k js = true := by rfl) (hs : ∀ x, foldedSetIterable iter X.env x = pure x := by intro _; rfl) (hj : js.Nodup := by decide)
    (hf : X.fn x = true ∨ X.env.scope.names.lookup x = some .local := by first | exact .inl rfl | exact .inr rfl) :
    DS c X (.Assign [.Name x pos'] (.ListComp elt [⟨tg, iter, ifs, 0⟩] scope pos) spos) (zSet i (zComp k js fi g ft fe)) :=
  ds_setZ_of (ps_setComp (g := tDG (Gx c X) g) (tt := tDT (Gx c X) ft) (te := tDZ (Gx c X) true fe) k js Nc hN hi' hx hc hi (fun cl C ex s₂ H₂ => (hg cl C ex s₂ H₂).pg) ht he hsw ck hs hf) fun σ H Q h => zcomp_imp hj (hg [] 0 [] X.s₀ X.H₀).keep (hg [] 0 [] X.s₀ X.H₀).len h
end
section
variable {c : Str → Addr} {X : Cx} {st : Stmt}
noncomputable def zApp (i : Nat) (f : List Sl → Option O) (ρ : List Sl) : Option Fl := (f ρ).bind fun o => match ρ[i]? with
  | some (.deep (.lst os)) => if os.length < 16777216 then some (.nx (ρ.set i (.deep (.lst (os ++ [o]))))) else none
  | _ => none
theorem ds_appZ_of {i : Nat} {f : List Sl → Option O} (h : PS X st (tDrop (tBM X.K "list" rAppend (tVar i) (tCons (tDZ (Gx c X) true f) tNil)))) : DS c X st (zApp i f) := PS.imp h fun E σ H q_ => by
  obtain ⟨Hf0, H0, Hf, ρ, o, so, ef, k⟩ := q_
  unfold zApp at ef
  cases e1 : f ρ with
  | none => rw [e1] at ef; cases ef
  | some t =>
    rw [e1, Option.bind_some] at ef
    split at ef
    · rename_i os es
      split at ef
      · rename_i hl
        cases ef
        obtain ⟨v, e2, u, fp, e3, r, n, z⟩ := so.slot es
        subst e3
        obtain ⟨l, vs, fs, el, q, rs, efp⟩ := id r
        subst el efp
        refine ⟨_, e2, .inl ⟨rfl, _, SqL.of q⟩, Hf0, H0, Hf, ρ, t, so, e1, fun w gp Hf' H' x r' y => ?_⟩
        have y : Fre H Hf' gp := y
        have q' := x.h _ _ q
        have lg : l ∉ gp := fun hg => by
          have := (y.2 l hg).1
          rw [q] at this
          cases this
        have lf : l ∉ fs := (List.nodup_cons.mp n).1
        have mem := OTs.memM os vs fs rs
        have dis : ∀ a ∈ fs, a ∈ gp → False := fun a ha hg => by
          obtain ⟨u, hu, _⟩ := mem a ha
          rw [(y.2 a hg).1] at hu
          cases hu
        have o1 : OTs (Gx c X) Hf' (upd H' l (.lst (vs ++ [w]))) os vs fs := OTs.frameM x.f os vs fs rs fun b u hb hm => by
          rw [upd_ne]
          · exact x.h b u hb
          · intro e
            subst e
            rw [q] at hb
            cases hb
            rcases hm with hm | hm
            · cases hm
            · exact lf hm
        have o2 : OT (Gx c X) Hf' (upd H' l (.lst (vs ++ [w]))) t w gp := r'.frame (Same.refl _) fun b u hb hm => by
          rw [upd_ne]
          · exact hb
          · intro e
            subst e
            rw [q'] at hb
            cases hb
            rcases hm with hm | hm
            · cases hm
            · exact lg hm
        have zz : Fre H0 Hf' (l :: fs) := Fre.step (H := H) ⟨n, z⟩ (fun a ha => by
          rcases List.mem_cons.mp ha with e | e
          · subst e; exact ⟨_, q, rfl⟩
          · exact mem a e) x
        refine ⟨l, vs, w, rfl, rfl, q', by rw [sizeLine_eq, ← rs.length]; exact hl, k σ Hf' _ x.f (so.chgX x es e2 (fun b u hb => ?_) ⟨.ref l, l :: (fs ++ gp), rfl, ⟨l, vs ++ [w], fs ++ gp, rfl, upd_same, o1.append (.one o2), rfl⟩, ?_, ?_⟩ fun a p => ?_)⟩
        · by_cases hb' : b = l
          · subst hb'; exact .inl ⟨_, r, List.mem_cons_self⟩
          · exact .inr (by rw [upd_ne hb']; exact hb)
        · refine List.nodup_cons.mpr ⟨fun hm => (List.mem_append.mp hm).elim lf lg, List.nodup_append.mpr ⟨(List.nodup_cons.mp n).2, y.1, fun a ha b hb e => by subst e; exact dis a ha hb⟩⟩
        · intro a ha
          rcases List.mem_cons.mp ha with e | e
          · subst e; exact zz.2 a List.mem_cons_self
          · rcases List.mem_append.mp e with e | e
            · exact zz.2 a (List.mem_cons_of_mem _ e)
            · exact ⟨so.ext.h.free (y.2 a e).1, (y.2 a e).2⟩
        · obtain ⟨fp', r2, ha⟩ := p
          obtain ⟨l2, vs2, fs2, el2, q2, rs2, ef2⟩ := r2
          cases el2
          rw [upd_same] at q2
          cases q2
          have := OTs.funM _ _ _ _ (o1.append (.one o2)) rs2
          subst ef2
          subst this
          rcases List.mem_cons.mp ha with e | e
          · subst e; exact .inl ⟨_, r, List.mem_cons_self⟩
          · rcases List.mem_append.mp e with e | e
            · exact .inl ⟨_, r, List.mem_cons_of_mem _ e⟩
            · exact .inr (y.2 a e).1
      · cases ef
    · cases ef
theorem wp_appZ {i : Nat} {f : List Sl → Option O} {ρ : List Sl} {o : O} {os : List O} {K : Fl → Prop} (h : f ρ = some o) (h' : ρ[i]? = some (.deep (.lst os))) (hl : os.length < 16777216) (k : K (.nx (ρ.set i (.deep (.lst (os ++ [o])))))) : wp (zApp i f) ρ K := ⟨_, by unfold zApp; rw [h, Option.bind_some, h']; exact if_pos hl, k⟩
end
end L2
namespace L2
open PySem PySem.Spec PyProof.Rows
theorem OTs.chgAt {G : Gc} {Hf H Hf' H' : Hp} {l : Addr} {o o' : O} (f : Same Hf Hf') (hl : ∃ u, H l = some u ∧ tupO u = false) (k2 : ∀ b u, b ≠ l → H b = some u → H' b = some u) :
    ∀ {os : List O} {vs : List V} {fp : List Addr} {k : Nat}, OTs G Hf H os vs fp → fp.Nodup → os[k]? = some o → (∀ v fk, vs[k]? = some v → OT G Hf H o v fk → l ∈ fk ∧ OT G Hf' H' o' v fk) → OTs G Hf' H' (os.set k o') vs fp
  | [], _, _, _, _, _, e, _ => by simp at e
  | o1 :: os, _, _, 0, ⟨v, r, f1, f2, e, h1, h2, ef⟩, n, e', hh => by
    rw [List.getElem?_cons_zero] at e'
    cases e'
    subst e ef
    obtain ⟨lm, q⟩ := hh v f1 rfl h1
    rw [List.set_cons_zero]
    refine ⟨v, r, f1, f2, rfl, q, OTs.frameM f os r f2 h2 fun b u hb hm => k2 b u (fun z => ?_) hb, rfl⟩
    subst z
    obtain ⟨u', hu, ht⟩ := hl
    rw [hb] at hu
    cases hu
    rcases hm with hm | hm
    · rw [hm] at ht; cases ht
    · exact (List.nodup_append.mp n).2.2 b lm b hm rfl
  | o1 :: os, _, _, k + 1, ⟨v, r, f1, f2, e, h1, h2, ef⟩, n, e', hh => by
    rw [List.getElem?_cons_succ] at e'
    subst e ef
    rw [List.set_cons_succ]
    obtain ⟨v', fk, ev, hk, m⟩ := OTs.at h2 e'
    have lm := m l (hh v' fk (by rw [List.getElem?_cons_succ]; exact ev) hk).1
    refine ⟨v, r, f1, f2, rfl, h1.frame f fun b u hb hm => k2 b u (fun z => ?_) hb, OTs.chgAt f hl k2 h2 (List.nodup_append.mp n).2.1 e' fun w fk' ew hw => hh w fk' (by rw [List.getElem?_cons_succ]; exact ew) hw, rfl⟩
    subst z
    obtain ⟨u', hu, ht⟩ := hl
    rw [hb] at hu
    cases hu
    rcases hm with hm | hm
    · rw [hm] at ht; cases ht
    · exact (List.nodup_append.mp n).2.2 b hm b lm rfl
theorem OTs.nodupAt {G : Gc} {Hf H : Hp} : ∀ {os : List O} {vs : List V} {fp : List Addr} {k : Nat} {o : O} {v : V} {fk : List Addr}, OTs G Hf H os vs fp → fp.Nodup → os[k]? = some o → vs[k]? = some v → OT G Hf H o v fk → fk.Nodup
  | [], _, _, _, _, _, _, _, _, e, _, _ => by simp at e
  | o1 :: os, _, _, 0, o, v, fk, ⟨v1, r, f1, f2, e, h1, h2, ef⟩, n, e', ev, h => by
    rw [List.getElem?_cons_zero] at e'
    cases e'
    subst e ef
    rw [List.getElem?_cons_zero] at ev
    cases ev
    rw [OT.funM _ v fk f1 h h1]
    exact (List.nodup_append.mp n).1
  | o1 :: os, _, _, k + 1, o, v, fk, ⟨v1, r, f1, f2, e, h1, h2, ef⟩, n, e', ev, h => by
    rw [List.getElem?_cons_succ] at e'
    subst e ef
    rw [List.getElem?_cons_succ] at ev
    exact OTs.nodupAt h2 (List.nodup_append.mp n).2.1 e' ev h
noncomputable def O.appd (o : O) (d : D) : Option O := match o with
  | .lst xs => if xs.length < 16777216 then some (.lst (xs ++ [.fz d])) else none
  | .jnk n => if n < 16777216 then some (.jnk (n + 1)) else none
  | _ => none

theorem appd_is {G : Gc} {Hf H : Hp} {o o' : O} {d : D} {v : V} {fk : List Addr} (h : o.appd d = some o') (r : OT G Hf H o v fk) : ∃ l us, v = .ref l ∧ H l = some (.lst us) ∧ us.length < 16777216 ∧ l ∈ fk ∧
    ∀ Hf' H' w, fk.Nodup → Same Hf Hf' → (∀ b u, b ≠ l → H b = some u → H' b = some u) → H' l = some (.lst (us ++ [w])) → Rep G Hf' d w → OT G Hf' H' o' v fk := by
  cases o with
  | lst xs =>
    replace h : (if xs.length < 16777216 then some (O.lst (xs ++ [.fz d])) else none) = some o' := h
    split at h
    · rename_i hl
      cases h
      obtain ⟨l, us, fs, e, q, rs, ef⟩ := r
      subst e ef
      refine ⟨l, us, rfl, q, by rw [← rs.length]; exact hl, List.mem_cons_self, fun Hf' H' w n f k2 q' rw' => ?_⟩
      have o1 : OTs G Hf' H' xs us fs := OTs.frameM f xs us fs rs fun b u hb hm => k2 b u (fun z => by
        subst z
        rw [q] at hb
        cases hb
        rcases hm with hm | hm
        · cases hm
        · exact (List.nodup_cons.mp n).1 hm) hb
      have o2 := o1.append (.one (o := .fz d) (v := w) (f := []) ⟨rw', rfl⟩)
      rw [List.append_nil] at o2
      exact ⟨l, us ++ [w], fs, rfl, q', o2, rfl⟩
    · cases h
  | jnk n =>
    replace h : (if n < 16777216 then some (O.jnk (n + 1)) else none) = some o' := h
    split at h
    · rename_i hl
      cases h
      obtain ⟨l, us, e, q, z, ef⟩ := r
      subst e ef
      exact ⟨l, us, rfl, q, by omega, List.mem_cons_self, fun Hf' H' w _ f k2 q' rw' => ⟨l, us ++ [w], rfl, q', by rw [List.length_append, List.length_singleton]; omega, rfl⟩⟩
    · cases h
  | _ => cases h
noncomputable def zAppAt (i k : Nat) (f : List Sl → Option D) (ρ : List Sl) : Option Fl := (f ρ).bind fun d => match ρ[i]? with
  | some (.deep (.tup os)) => (os[k]?).bind fun o => (o.appd d).map fun o' => .nx (ρ.set i (.deep (.tup (os.set k o'))))
  | _ => none
section
variable {c : Str → Addr} {X : Cx} {st : Stmt}
theorem ds_appAt_of {i k : Nat} {f : List Sl → Option D} (h : PS X st (tDrop (tBM X.K "list" rAppend (tOp (fun x y H Q => rIxL X.K x y H Q ∨ rIxT X.K x y H Q) (tVar i) (tC (.int k))) (tCons (tD (Gx c X) f) tNil)))) : DS c X st (zAppAt i k f) := PS.imp h fun E σ H q_ => by
  obtain ⟨Hf0, H0, Hf, ρ, o, so, ef, kq⟩ := q_
  unfold zAppAt at ef
  cases e1 : f ρ with
  | none => rw [e1] at ef; cases ef
  | some d =>
    rw [e1, Option.bind_some] at ef
    split at ef
    · rename_i os es
      cases ek : os[k]? with
      | none => rw [ek] at ef; cases ef
      | some ok =>
        rw [ek, Option.bind_some] at ef
        cases ea : ok.appd d with
        | none => rw [ea] at ef; cases ef
        | some o' =>
          rw [ea] at ef
          cases ef
          obtain ⟨v, e2, u, fp, e3, r, n, z⟩ := so.slot es
          subst e3
          obtain ⟨p, vs, ep, hp, rs⟩ := id r
          subst ep
          obtain ⟨w, fk, ew, hw, hm⟩ := rs.at ek
          obtain ⟨l, us, el, ql, hz, lm, next⟩ := appd_is ea hw
          subst el
          have hi : atI vs (k : Int) = some (.ref l) := by
            have hk : k < vs.length := (List.getElem?_eq_some_iff.mp ew).1
            unfold atI ixN
            rw [if_pos (Int.natCast_nonneg k), if_pos (by omega)]
            simpa using ew
          refine ⟨_, e2, .inr ⟨p, vs, k, _, rfl, rfl, SqT.of hp, hi, .inl ⟨rfl, _, SqL.of ql⟩, Hf0, H0, Hf, ρ, d, so, e1, fun w' Hf' H' x r' => ?_⟩⟩
          have q' := x.h _ _ ql
          have pl : p ≠ l := fun z => by subst z; rw [hp] at ql; cases ql
          have k2 : ∀ b u, b ≠ l → H b = some u → upd H' l (.lst (us ++ [w'])) b = some u := fun b u hb e => by rw [upd_ne hb]; exact x.h b u e
          have new : OTs (Gx c X) Hf' (upd H' l (.lst (us ++ [w']))) (os.set k o') vs fp := OTs.chgAt x.f ⟨_, ql, rfl⟩ k2 rs n ek fun v fk' ev hv => by
            rw [ew] at ev
            cases ev
            have := OT.funM ok _ fk fk' hw hv
            subst this
            refine ⟨lm, next Hf' _ w' ?_ x.f k2 upd_same r'⟩
            exact OTs.nodupAt rs n ek ew hw
          have mem := OTs.memM os vs fp rs
          refine ⟨l, us, w', rfl, rfl, q', by rw [sizeLine_eq]; exact hz, kq σ Hf' _ x.f (so.chgX x es e2 (fun b u hb => ?_) ⟨_, fp, rfl, ⟨p, vs, rfl, k2 p _ pl hp, new⟩, n, fun a ha => ?_⟩ fun a pp => ?_)⟩
          · by_cases hb' : b = l
            · subst hb'; exact .inl ⟨_, r, hm b lm⟩
            · exact .inr (by rw [upd_ne hb']; exact hb)
          · refine ⟨(z a ha).1, ?_⟩
            obtain ⟨u, hu, ht⟩ := mem a ha
            rw [x.n a u hu ht]
            exact (z a ha).2
          · obtain ⟨fp', r2, ha⟩ := pp
            have := OT.funM (.tup (os.set k o')) _ _ _ ⟨p, vs, rfl, k2 p _ pl hp, new⟩ r2
            subst this
            exact .inl ⟨fp, r, ha⟩
    · cases ef
theorem wp_appAt {i k : Nat} {f : List Sl → Option D} {ρ : List Sl} {d : D} {os : List O} {o o' : O} {K : Fl → Prop} (h : f ρ = some d) (h' : ρ[i]? = some (.deep (.tup os))) (hk : os[k]? = some o) (ha : o.appd d = some o') (q : K (.nx (ρ.set i (.deep (.tup (os.set k o')))))) : wp (zAppAt i k f) ρ K :=
  ⟨_, by unfold zAppAt; rw [h, Option.bind_some, h']; show (os[k]?).bind _ = _; rw [hk, Option.bind_some, ha]; rfl, q⟩
end
end L2
namespace L2
open PySem PySem.Spec PyProof.Rows
theorem SlOk.gone {G : Gc} {H0 Hf H : Hp} {s : Sl} {v : V} {a : Addr} (q : SlOk G H0 Hf H (some v) s) (p : Holds G Hf H s v a) : H0 a = none ∧ Hf a = none := by
  cases hs : s.isOwn with
  | true =>
    obtain ⟨l, e1, h0, hf, _⟩ := q.own hs
    have e2 := (Holds.own hs).mp p
    cases e1
    cases e2
    exact ⟨h0, hf⟩
  | false =>
    cases s with
    | deep o =>
      obtain ⟨u, fp, e1, r, n, z⟩ := q
      cases e1
      obtain ⟨fp', r', ha⟩ := p
      have := OT.funM o v fp fp' r r'
      subst this
      exact z a ha
    | _ => first | exact Bool.noConfusion p.1 | cases hs
noncomputable def Free (G : Gc) (Hf H : Hp) (σ : St) (ρ : List Sl) (a : Addr) : Prop := ∀ (k : Nat) (t : Sl) (w : V), ρ[k]? = some t → σ[k]? = some (some w) → Holds G Hf H t w a → False

noncomputable def prom (H0 H : Hp) (S : List Addr) : Hp := fun a => if a ∈ S then H a else match H a with
  | some (.tup vs) => some (.tup vs)
  | _ => H0 a
theorem prom_in {H0 H : Hp} {S : List Addr} {a : Addr} (h : a ∈ S) : prom H0 H S a = H a := by unfold prom; rw [if_pos h]
theorem prom_tup {H0 H : Hp} {S : List Addr} {a : Addr} {vs : List V} (h : H a = some (.tup vs)) : prom H0 H S a = some (.tup vs) := by
  unfold prom
  split
  · exact h
  · rw [h]
theorem prom_out {H0 H : Hp} {S : List Addr} {a : Addr} (h : a ∉ S) (h' : ∀ vs, H a ≠ some (.tup vs)) : prom H0 H S a = H0 a := by
  unfold prom
  rw [if_neg h]
  split
  · rename_i vs e; exact absurd e (h' vs)
  · rfl
section
variable {G : Gc} {Hf0 H0 Hf H : Hp} {σ : St} {ρ : List Sl}
theorem prom_sub (s : Same H0 H) (S : List Addr) : Same (prom H0 H S) H := fun a o e => by
  unfold prom at e
  split at e
  · exact e
  · split at e
    · rename_i vs h; rw [h]; exact e
    · exact s a o e
theorem prom_more (s : Same H0 H) (S : List Addr) : Same H0 (prom H0 H S) := fun a o e => by
  have e' := s a o e
  unfold prom
  split
  · exact e'
  · split
    · rename_i vs h; rw [h] at e'; exact e'
    · exact e
theorem Ext.less {H0' Hf' H' : Hp} (x : Ext Hf0 H0' Hf' H') (s : Same H0 H0') : Ext Hf0 H0 Hf' H' := ⟨x.f, s.trans x.h, x.s, fun l o e t => x.n l o (s l o e) t⟩
theorem StOk.less {H0' : Hp} (h : StOk G Hf0 H0' Hf H σ ρ) (s : Same H0 H0') : StOk G Hf0 H0 Hf H σ ρ := by
  refine h.re (h.ext.less s) rfl (fun i v t a b => ?_) fun i t v a b c p => ⟨t, b, p⟩
  have q := h.at' i v t a b
  cases ht : t.isOwn with
  | true =>
    obtain ⟨l, e1, e2, e3, e4⟩ := q.own ht
    exact .ofOwn ht ⟨l, e1, s.free e2, e3, e4⟩
  | false =>
    cases t with
    | no => trivial
    | im d => exact q
    | val u => exact q
    | deep o =>
      obtain ⟨u, fp, e1, r, n, z⟩ := q
      exact ⟨u, fp, e1, r, n, fun a ha => ⟨s.free (z a ha).1, (z a ha).2⟩⟩
    | _ => cases ht
theorem StOk.prom (h : StOk G Hf0 H0 Hf H σ ρ) (S : List Addr) (hf : ∀ a ∈ S, Hf a = none ∧ Free G Hf H σ ρ a) : StOk G Hf0 (prom H0 H S) Hf H σ ρ := by
  have up : ∀ a o, H a = some o → tupO o = false → (a ∈ S → False) → H0 a = none → L2.prom H0 H S a = none := fun a o e t ns e0 => by
    rw [prom_out (fun z => ns z) (fun vs q => by rw [e] at q; cases q; cases t)]
    exact e0
  refine h.re ⟨h.ext.f, prom_sub h.ext.h S, h.ext.s, fun l o e t => ?_⟩ rfl (fun i v t a b => ?_) fun i t v a b c p => ⟨t, b, p⟩
  · by_cases hl : l ∈ S
    · rw [(hf l hl).1]
      exact (h.ext.f.free (hf l hl).1).symm
    · rw [prom_out hl (fun vs q => by rw [prom_tup q] at e; cases e; cases t)] at e
      exact h.ext.n l o e t
  · have q := h.at' i v t a b
    cases ht : t.isOwn with
    | true =>
      obtain ⟨l, e1, e2, e3, e4⟩ := q.own ht
      obtain ⟨o, ho, hto⟩ := e4.there2
      subst e1
      exact .ofOwn ht ⟨l, rfl, up l o ho hto (fun hl => (hf l hl).2 i t _ b a ((Holds.own ht).mpr rfl)) e2, e3, e4⟩
    | false =>
      cases t with
      | no => trivial
      | im d => exact q
      | val u => exact q
      | deep o =>
        obtain ⟨u, fp, e1, r, n, z⟩ := q
        subst e1
        refine ⟨u, fp, rfl, r, n, fun x hx => ⟨?_, (z x hx).2⟩⟩
        obtain ⟨oo, ho, hto⟩ := OT.memM o u fp r x hx
        exact up x oo ho hto (fun hl => (hf x hl).2 i _ u b a ⟨fp, r, hx⟩) (z x hx).1
      | _ => cases ht
theorem StOk.free (h : StOk G Hf0 H0 Hf H σ ρ) {a : Addr} {o : HO} (e : H0 a = some o) : Free G Hf H σ ρ a := fun k t w b c p => by
  rw [((h.at' k _ t c b).gone p).1] at e
  cases e
theorem StOk.hand {j : Nat} {u : V} {s : Sl} (h : StOk G Hf0 H0 Hf H σ ρ) (ho : SlOk G H0 Hf H (some u) s) (hn : ∀ a, Holds G Hf H s u a → Free G Hf H σ ρ a) : StOk G Hf0 H0 Hf H (σ.set j (some u)) (ρ.set j s) := by
  refine ⟨h.ext, by simpa using h.len, fun i w t a b => ?_, fun i k t t' v w l a b c d' p q => ?_⟩
  · rcases get_set b with ⟨e, e', _⟩ | ⟨e, b⟩
    · subst e e'
      rcases get_set a with ⟨_, e', _⟩ | ⟨e, _⟩
      · subst e'; exact ho
      · exact absurd rfl e
    · rcases get_set a with ⟨e', _⟩ | ⟨_, a⟩
      · exact absurd e' e
      · exact h.at' i w t a b
  · rcases get_set a with ⟨e1, e1', _⟩ | ⟨e1, a⟩
    · rcases get_set b with ⟨e2, e2', _⟩ | ⟨e2, b⟩
      · rw [e1, e2]
      · rcases get_set c with ⟨_, e', _⟩ | ⟨e', _⟩
        · cases e'
          rw [e1'] at p
          rcases get_set d' with ⟨e', _⟩ | ⟨_, d'⟩
          · exact absurd e' e2
          · exact (hn l p k t' w b d' q).elim
        · exact absurd e1 e'
    · rcases get_set c with ⟨e', _⟩ | ⟨_, c⟩
      · exact absurd e' e1
      · rcases get_set b with ⟨e2, e2', _⟩ | ⟨e2, b⟩
        · rcases get_set d' with ⟨_, e', _⟩ | ⟨e', _⟩
          · cases e'
            rw [e2'] at q
            exact (hn l q i t v a c p).elim
          · exact absurd e2 e'
        · rcases get_set d' with ⟨e', _⟩ | ⟨_, d'⟩
          · exact absurd e' e2
          · exact h.dj i k t t' v w l a b c d' p q

theorem StOk.take {i : Nat} {u : V} (h : StOk G Hf0 H0 Hf H σ ρ) (el : σ[i]? = some (some u)) : StOk G Hf0 H0 Hf H σ (ρ.set i (.val u)) := by
  refine h.re h.ext (by simp) (fun j w s a b => ?_) fun j s v a b c d => ?_
  · rcases get_set b with ⟨e, e', _⟩ | ⟨e, b⟩
    · subst e e'
      rw [el] at a
      cases a
      rfl
    · exact h.at' j w s a b
  · rcases get_set b with ⟨e, e', _⟩ | ⟨e, b⟩
    · subst e'; exact Bool.noConfusion d.1
    · exact ⟨s, b, d⟩
end
noncomputable def O.isFz : O → Bool
  | .fz _ => true
  | _ => false
theorem OTs.allFz {G : Gc} {Hf H : Hp} : ∀ {os : List O} {vs : List V} {f : List Addr}, os.all O.isFz = true → OTs G Hf H os vs f → f = [] ∧ ∀ Hf' H', Same Hf Hf' → OTs G Hf' H' os vs []
  | [], _, _, _, h => ⟨h.2, fun _ _ _ => ⟨h.1, rfl⟩⟩
  | o :: os, _, _, hs, ⟨v, r, f1, f2, e, h1, h2, ef⟩ => by
    rw [List.all_cons, Bool.and_eq_true] at hs
    obtain ⟨a, b⟩ := OTs.allFz hs.2 h2
    cases o with
    | fz d =>
      obtain ⟨c, c'⟩ := h1
      subst a c' ef e
      exact ⟨rfl, fun Hf' H' s => ⟨v, r, [], [], rfl, ⟨c.up s, rfl⟩, b Hf' H' s, rfl⟩⟩
    | _ => exact Bool.noConfusion hs.1
theorem OTs.jnkAt {G : Gc} {Hf H : Hp} {os : List O} (n : Nat) : ∀ {ps : List O} {vs : List V} {fp : List Addr} {k : Nat}, OTs G Hf H ps vs fp → ps[k]? = some (.lst os) → (ps.set k (.fz .non)).all O.isFz = true →
    ∃ L us fs, vs[k]? = some (.ref L) ∧ H L = some (.lst us) ∧ OTs G Hf H os us fs ∧ fp = L :: fs ∧ ∀ Hf' H', Same Hf Hf' → H' L = some (.lst us) → us.length ≤ n → OTs G Hf' H' (ps.set k (.jnk n)) vs [L]
  | [], _, _, _, _, e, _ => by simp at e
  | o :: ps, _, _, 0, ⟨v, r, f1, f2, e, h1, h2, ef⟩, e', hs => by
    rw [List.getElem?_cons_zero] at e'
    cases e'
    rw [List.set_cons_zero, List.all_cons, Bool.and_eq_true] at hs
    obtain ⟨a, b⟩ := OTs.allFz hs.2 h2
    obtain ⟨L, us, fs, el, q, rs, ef1⟩ := h1
    subst a ef e el ef1
    refine ⟨L, us, fs, rfl, q, rs, List.append_nil _, fun Hf' H' s q' hz => ?_⟩
    rw [List.set_cons_zero]
    exact ⟨_, r, [L], [], rfl, ⟨L, us, rfl, q', hz, rfl⟩, b Hf' H' s, rfl⟩
  | o :: ps, _, _, k + 1, ⟨v, r, f1, f2, e, h1, h2, ef⟩, e', hs => by
    rw [List.getElem?_cons_succ] at e'
    rw [List.set_cons_succ, List.all_cons, Bool.and_eq_true] at hs
    obtain ⟨L, us, fs, a, q, rs, ef2, b⟩ := OTs.jnkAt n h2 e' hs.2
    cases o with
    | fz d =>
      obtain ⟨c, c'⟩ := h1
      subst c' ef e ef2
      refine ⟨L, us, fs, by rw [List.getElem?_cons_succ]; exact a, q, rs, rfl, fun Hf' H' s q' hz => ?_⟩
      rw [List.set_cons_succ]
      exact ⟨v, r, [], [L], rfl, ⟨c.up s, rfl⟩, b Hf' H' s q' hz, rfl⟩
    | _ => exact Bool.noConfusion hs.1

noncomputable def wSrc (i : Nat) (kk : Option Nat) (ρ : List Sl) : Option (List O × Sl) := match kk with
  | none => match ρ[i]? with
    | some (.deep (.lst os)) => some (os, .deep (.jnk os.length))
    | _ => none
  | some k => match ρ[i]? with
    | some (.deep (.tup ps)) => match ps[k]? with
      | some (.lst os) => if (ps.set k (.fz .non)).all O.isFz then some (os, .deep (.tup (ps.set k (.jnk os.length)))) else none
      | _ => none
    | _ => none
noncomputable def tSrc (K : PySem.W.Frag) (i : Nat) : Option Nat → TE
  | none => tVar i
  | some k => tOp (fun x y H Q => rIxL K x y H Q ∨ rIxT K x y H Q) (tVar i) (tC (.int k))
theorem src_is {G : Gc} {Hf0 H0 Hf H : Hp} {σ : St} {ρ : List Sl} {i : Nat} {kk : Option Nat} {os : List O} {s' : Sl} (so : StOk G Hf0 H0 Hf H σ ρ) (h : wSrc i kk ρ = some (os, s')) : ∃ (u : V) (L : Addr) (us : List V) (fs : List Addr), σ[i]? = some (some u) ∧ H L = some (.lst us) ∧ OTs G Hf H os us fs ∧ (L :: fs).Nodup ∧ (∀ a ∈ L :: fs, H0 a = none ∧ Hf a = none) ∧
    (∀ a ∈ L :: fs, ∃ s, ρ[i]? = some s ∧ Holds G Hf H s u a) ∧ (∀ Q : VK, Q (.ref L) H → tSrc G.K i kk σ H Q) ∧
    ∀ Hf' H', Same Hf Hf' → Same Hf' H' → (∀ b vs, H b = some (.tup vs) → H' b = some (.tup vs)) → H' L = some (.lst us) → ∀ H0', H0' L = none → Hf' L = none → SlOk G H0' Hf' H' (some u) s' ∧ ∀ a, Holds G Hf' H' s' u a → a = L := by
  unfold wSrc at h
  cases kk with
  | none =>
    dsimp only at h
    split at h
    · rename_i os' es
      cases h
      obtain ⟨v, e1, u, fp, e2, r, n, z⟩ := so.slot es
      subst e2
      obtain ⟨L, us, fs, el, q, rs, ef⟩ := id r
      subst el ef
      refine ⟨_, L, us, fs, e1, q, rs, n, z, fun a ha => ⟨_, es, _, r, ha⟩, fun Q k => ⟨_, e1, k⟩, fun Hf' H' f s' tp q' H0' h0 hf => ⟨⟨_, [L], rfl, ⟨L, us, rfl, q', by rw [rs.length]; exact Nat.le_refl _, rfl⟩, List.nodup_cons.mpr ⟨List.not_mem_nil, List.nodup_nil⟩, fun a ha => by rw [List.mem_singleton.mp ha]; exact ⟨h0, hf⟩⟩, fun a p => ?_⟩⟩
      obtain ⟨fp, ⟨L2, us2, e, _, _, ef⟩, ha⟩ := p
      cases e
      subst ef
      exact List.mem_singleton.mp ha
    · cases h
  | some k =>
    dsimp only at h
    split at h
    · rename_i ps es
      split at h
      · rename_i os' ek
        split at h
        · rename_i hall
          cases h
          obtain ⟨v, e1, u, fp, e2, r, n, z⟩ := so.slot es
          subst e2
          obtain ⟨p, vs, ep, hp, rs⟩ := id r
          subst ep
          obtain ⟨L, us, fs, ev, q, ro, ef, new⟩ := OTs.jnkAt os.length rs ek hall
          subst ef
          have hi : atI vs (k : Int) = some (.ref L) := by
            have hk : k < vs.length := (List.getElem?_eq_some_iff.mp ev).1
            unfold atI ixN
            rw [if_pos (Int.natCast_nonneg k), if_pos (by omega)]
            simpa using ev
          refine ⟨_, L, us, fs, e1, q, ro, n, z, fun a ha => ⟨_, es, _, r, ha⟩, fun Q kq => ⟨_, e1, .inr ⟨p, vs, k, _, rfl, rfl, SqT.of hp, hi, kq⟩⟩, fun Hf' H' f s' tp q' H0' h0 hf => ?_⟩
          have nw : OT G Hf' H' (.tup (ps.set k (.jnk os.length))) (.ref p) [L] := ⟨p, vs, rfl, tp p vs hp, new Hf' H' f q' (by rw [ro.length]; exact Nat.le_refl _)⟩
          refine ⟨⟨_, [L], rfl, nw, List.nodup_cons.mpr ⟨List.not_mem_nil, List.nodup_nil⟩, fun a ha => by rw [List.mem_singleton.mp ha]; exact ⟨h0, hf⟩⟩, fun a p => ?_⟩
          obtain ⟨fp, r2, ha⟩ := p
          have := OT.funM _ _ _ _ nw r2
          subst this
          exact List.mem_singleton.mp ha
        · cases h
      · cases h
    · cases h
noncomputable def zForL (j : Nat) (F : List Sl → Option Fl) : List O → List Sl → Option Fl
  | [], ρ => some (.nx ρ)
  | o :: os, ρ => (F (ρ.set j (.deep o))).bind fun x => match x with
    | .nx ρ2 => zForL j F os ρ2
    | .ct ρ2 => zForL j F os ρ2
    | .rt d => some (.rt d)
    | _ => none

noncomputable def eras (ks : List Nat) (ρ : List Sl) : List Sl := ks.foldl (fun r k => r.set k .no) ρ
theorem eras_len : ∀ (ks : List Nat) (ρ : List Sl), (eras ks ρ).length = ρ.length
  | [], _ => rfl
  | k :: ks, ρ => by
    show (eras ks (ρ.set k .no)).length = _
    rw [eras_len ks, List.length_set]
theorem eras_at : ∀ (ks : List Nat) (ρ : List Sl) (m : Nat) (s : Sl), (eras ks ρ)[m]? = some s → s = .no ∨ (m ∉ ks ∧ ρ[m]? = some s)
  | [], _, _, _, h => .inr ⟨List.not_mem_nil, h⟩
  | k :: ks, ρ, m, s, h => by
    rcases eras_at ks (ρ.set k .no) m s h with e | ⟨a, e⟩
    · exact .inl e
    · rcases get_set e with ⟨_, e', _⟩ | ⟨ne, e⟩
      · exact .inl e'
      · exact .inr ⟨fun z => (List.mem_cons.mp z).elim ne a, e⟩
noncomputable def Like (ks : List Nat) (a b : List Sl) : Prop := a.length = b.length ∧ ∀ m, m ∉ ks → a[m]? = b[m]?
theorem Like.refl (ks : List Nat) (a : List Sl) : Like ks a a := ⟨rfl, fun _ _ => rfl⟩
open Classical in
noncomputable def zForD (i : Nat) (kk : Option Nat) (j : Nat) (ks : List Nat) (F : List Sl → Option Fl) (ρ : List Sl) : Option Fl := (wSrc i kk ρ).bind fun z =>
  if (∀ u, ∃ ρ2, zForL j F z.1 (ρ.set i (.val u)) = some (.nx ρ2) ∧ Like ks ρ2 (ρ.set i (.val u))) ∧ i ∉ ks then some (.nx ((eras ks ρ).set i z.2))
  else if h : ∃ d, ∀ u, zForL j F z.1 (ρ.set i (.val u)) = some (.rt d) then some (.rt (choose h)) else none
theorem zForL_go {j : Nat} {ks : List Nat} {F : List Sl → Option Fl} {ρ0 : List Sl} : ∀ {os : List O} (_ : ∀ o ∈ os, ∀ ρ1, Like ks ρ1 ρ0 → ∃ ρ2, F (ρ1.set j (.deep o)) = some (.nx ρ2) ∧ Like ks ρ2 ρ0) (ρ1 : List Sl), Like ks ρ1 ρ0 → ∃ ρ2, zForL j F os ρ1 = some (.nx ρ2) ∧ Like ks ρ2 ρ0
  | [], _, ρ1, l => ⟨ρ1, rfl, l⟩
  | o :: os, h, ρ1, l => by
    obtain ⟨ρ2, e, l2⟩ := h o List.mem_cons_self ρ1 l
    obtain ⟨ρ3, e3, l3⟩ := zForL_go (fun o' ho => h o' (List.mem_cons_of_mem _ ho)) ρ2 l2
    refine ⟨ρ3, ?_, l3⟩
    unfold zForL
    rw [e]
    exact e3
theorem wp_forD {i j : Nat} {kk : Option Nat} {ks : List Nat} {F : List Sl → Option Fl} {ρ : List Sl} {os : List O} {s' : Sl} {K : Fl → Prop} (h : wSrc i kk ρ = some (os, s')) (hi : i ∉ ks)
    (hh : ∀ u, ∀ o ∈ os, ∀ ρ1, Like ks ρ1 (ρ.set i (.val u)) → ∃ ρ2, F (ρ1.set j (.deep o)) = some (.nx ρ2) ∧ Like ks ρ2 (ρ.set i (.val u))) (k : K (.nx ((eras ks ρ).set i s'))) : wp (zForD i kk j ks F) ρ K := by
  refine ⟨_, ?_, k⟩
  unfold zForD
  rw [h, Option.bind_some, if_pos ⟨fun u => zForL_go (hh u) _ (Like.refl _ _), hi⟩]
section
variable {c : Str → Addr} {X : Cx} {tg iter : Expr} {body : List Stmt} {pos : Pos} {F : List Sl → Option Fl}
theorem ds_forD {i j : Nat} {kk : Option Nat} (ks : List Nat) (hp : PassesOwn (model X.prog X.w) X.A X.env X.xe) (hc : X.calm = true) (hi : PE X iter (tSrc X.K i kk)) (hg : PG X tg (gName j)) (hb : DSs c X body F) (hs : ∀ x, foldedSetIterable iter X.env x = pure x := by intro _; rfl) :
    DS c X (.For tg iter body [] pos) (zForD i kk j ks F) := PS.imp (ps_for hp hc (pi_list hi) hg hb hs) fun E σ H q_ => by
  obtain ⟨Hf0, H0, Hf, ρ, o, so, ef, k⟩ := q_
  unfold zForD at ef
  cases e1 : wSrc i kk ρ with
  | none => rw [e1] at ef; cases ef
  | some z =>
    obtain ⟨os, s'⟩ := z
    rw [e1, Option.bind_some] at ef
    obtain ⟨u, L, us, fs, eu, qL, ro, nd, z0, hold, src, fin⟩ := src_is so e1
    have hlen := ro.length
    have iu : i < ρ.length := by rw [← so.len]; exact (List.getElem?_eq_some_iff.mp eu).1
    have fr0 : ∀ a ∈ L :: fs, Free (Gx c X) Hf H σ (ρ.set i (.val u)) a := fun a ha kk2 t w b cc p => by
      obtain ⟨s, es, hs⟩ := hold a ha
      rcases get_set b with ⟨_, e', _⟩ | ⟨ne, b⟩
      · subst e'; exact Bool.noConfusion p.1
      · exact ne (so.dj kk2 i t s w u a b es cc eu p hs)
    obtain ⟨oz, ez, hend⟩ : ∃ oz, zForL j F os (ρ.set i (.val u)) = some oz ∧ ((∃ ρe, oz = .nx ρe ∧ Like ks ρe (ρ.set i (.val u)) ∧ i ∉ ks ∧ o = .nx ((eras ks ρ).set i s')) ∨ ∃ d, oz = .rt d ∧ o = .rt d) := by
      split at ef
      · rename_i h
        cases ef
        obtain ⟨ρ2, a, b⟩ := h.1 u
        exact ⟨_, a, .inl ⟨_, rfl, b, h.2, rfl⟩⟩
      · split at ef
        · rename_i h
          cases ef
          exact ⟨_, Classical.choose_spec h u, .inr ⟨_, rfl, rfl⟩⟩
        · cases ef
    refine src _ ⟨L, rfl, ⟨us, SqL.of qL⟩, ?_⟩
    refine ⟨fun t m σ' H' => m = os.length - t ∧ t ≤ os.length ∧ ∃ Hf' ρ' fr, StOk (Gx c X) Hf0 H0 Hf' H' σ' ρ' ∧ Same Hf Hf' ∧ OTs (Gx c X) Hf' H' (os.drop t) (us.drop t) fr ∧ (L :: fr).Nodup ∧ (∀ a ∈ L :: fr, H0 a = none ∧ Hf' a = none ∧ Free (Gx c X) Hf' H' σ' ρ' a) ∧ H' L = some (.lst us) ∧ (∀ b vs, H b = some (.tup vs) → H' b = some (.tup vs)) ∧ zForL j F (os.drop t) ρ' = some oz,
      ⟨os.length, rfl, Nat.zero_le _, Hf, ρ.set i (.val u), fs, so.take eu, Same.refl _, ro, nd, fun a ha => ⟨(z0 a ha).1, (z0 a ha).2, fr0 a ha⟩, qL, fun _ _ h => h, ez⟩, ?_⟩
    rintro t m σ' H' ⟨rfl, ht, Hf', ρ', fr, so', sf, rr, nr, zr, qL', tp, em⟩
    by_cases hlt : t < os.length
    · obtain ⟨ot, eo, edr⟩ := drop_get hlt
      obtain ⟨ut, eut, eur⟩ := drop_get (l := us) (i := t) (by omega)
      refine .inr ⟨⟨us, ut, SqL.of qL', eut⟩, fun σ2 H2 => os.length - (t + 1) = os.length - (t + 1) ∧ t + 1 ≤ os.length ∧ ∃ Hf' ρ' fr, StOk (Gx c X) Hf0 H0 Hf' H2 σ2 ρ' ∧ Same Hf Hf' ∧ OTs (Gx c X) Hf' H2 (os.drop (t + 1)) (us.drop (t + 1)) fr ∧ (L :: fr).Nodup ∧ (∀ a ∈ L :: fr, H0 a = none ∧ Hf' a = none ∧ Free (Gx c X) Hf' H2 σ2 ρ' a) ∧ H2 L = some (.lst us) ∧ (∀ b vs, H b = some (.tup vs) → H2 b = some (.tup vs)) ∧ zForL j F (os.drop (t + 1)) ρ' = some oz,
        fun σ2 H2 w => ⟨os.length - (t + 1), by omega, w⟩, fun x H2 y => ?_⟩
      obtain ⟨e2, y⟩ := y
      subst e2
      have := y us (SqL.of qL')
      rw [eut] at this
      cases this
      rw [edr, eur] at rr
      obtain ⟨v, r, f1, f2, ev, h1, h2, efr⟩ := rr
      injection ev with ev1 ev2
      subst ev1 ev2 efr
      rw [edr] at em
      unfold zForL at em
      have nL := List.nodup_cons.mp nr
      have n12 := List.nodup_append.mp nL.2
      have S2 : ∀ a ∈ L :: f2, a ∈ L :: (f1 ++ f2) := fun a ha => by
        rcases List.mem_cons.mp ha with e | e
        · subst e; exact List.mem_cons_self
        · exact List.mem_cons_of_mem _ (List.mem_append_right _ e)
      have sp := so'.prom (L :: f2) fun a ha => ⟨(zr a (S2 a ha)).2.1, (zr a (S2 a ha)).2.2⟩
      have m1 := OT.memM ot _ f1 h1
      have f1z : ∀ a ∈ f1, L2.prom H0 H2 (L :: f2) a = none ∧ Hf' a = none := fun a ha => by
        have hz := zr a (List.mem_cons_of_mem _ (List.mem_append_left _ ha))
        obtain ⟨oo, ho, hto⟩ := m1 a ha
        rw [prom_out (fun hm => ?_) (fun vs q => by rw [ho] at q; cases q; cases hto)]
        · exact ⟨hz.1, hz.2.1⟩
        · rcases List.mem_cons.mp hm with e | e
          · subst e; exact nL.1 (List.mem_append_left _ ha)
          · exact n12.2.2 a ha a e rfl
      have sb := sp.hand (j := j) (s := .deep ot) ⟨_, f1, rfl, h1, n12.1, f1z⟩ fun a p => by
        obtain ⟨fp, r2, ha⟩ := p
        have := OT.funM ot _ _ _ h1 r2
        subst this
        exact (zr a (List.mem_cons_of_mem _ (List.mem_append_left _ ha))).2.2
      have pm := prom_more so'.ext.h (L :: f2)
      cases eF : F (ρ'.set j (.deep ot)) with
      | none => rw [eF] at em; cases em
      | some o1 =>
        rw [eF, Option.bind_some] at em
        refine ⟨Hf0, _, Hf', _, o1, sb, eF, ?_⟩
        have go : ∀ ρ2, zForL j F (os.drop (t + 1)) ρ2 = some oz → ∀ σ4 Hf4 H4, Same Hf' Hf4 → StOk (Gx c X) Hf0 (L2.prom H0 H2 (L :: f2)) Hf4 H4 σ4 ρ2 → os.length - (t + 1) = os.length - (t + 1) ∧ t + 1 ≤ os.length ∧ ∃ Hf' ρ' fr, StOk (Gx c X) Hf0 H0 Hf' H4 σ4 ρ' ∧ Same Hf Hf' ∧ OTs (Gx c X) Hf' H4 (os.drop (t + 1)) (us.drop (t + 1)) fr ∧ (L :: fr).Nodup ∧ (∀ a ∈ L :: fr, H0 a = none ∧ Hf' a = none ∧ Free (Gx c X) Hf' H4 σ4 ρ' a) ∧ H4 L = some (.lst us) ∧ (∀ b vs, H b = some (.tup vs) → H4 b = some (.tup vs)) ∧ zForL j F (os.drop (t + 1)) ρ' = some oz := fun ρ2 em2 σ4 Hf4 H4 s4 so4 => by
          have inP : ∀ a u, a ∈ L :: f2 → H2 a = some u → L2.prom H0 H2 (L :: f2) a = some u := fun a u ha e => by rw [prom_in ha]; exact e
          have there : ∀ a ∈ L :: f2, ∃ u, H2 a = some u ∧ tupO u = false := fun a ha => by
            rcases List.mem_cons.mp ha with e | e
            · subst e; exact ⟨_, qL', rfl⟩
            · exact OTs.memM _ _ f2 h2 a e
          refine ⟨rfl, hlt, Hf4, ρ2, f2, so4.less pm, sf.trans s4, OTs.frameM s4 _ _ f2 h2 (fun b w hb hm => ?_), List.nodup_cons.mpr ⟨fun h => nL.1 (List.mem_append_right _ h), n12.2.1⟩, fun a ha => ?_, so4.ext.h L _ (inP L _ List.mem_cons_self qL'), fun b vs hb => so4.ext.h b _ (prom_tup (tp b vs hb)), em2⟩
          · rcases hm with hm | hm
            · cases w with
              | tup vs => exact so4.ext.h b _ (prom_tup hb)
              | _ => cases hm
            · exact so4.ext.h b w (inP b w (List.mem_cons_of_mem _ hm) hb)
          · have hz := zr a (S2 a ha)
            obtain ⟨w, hw, htw⟩ := there a ha
            have pw := inP a w ha hw
            refine ⟨hz.1, ?_, so4.free pw⟩
            rw [so4.ext.n a w pw htw]
            exact so'.ext.f.free hz.2.1
        cases o1 with
        | nx ρ2 => exact fun σ4 Hf4 H4 s4 so4 => go ρ2 em σ4 Hf4 H4 s4 so4
        | ct ρ2 => exact fun σ4 Hf4 H4 s4 so4 => go ρ2 em σ4 Hf4 H4 s4 so4
        | rt d =>
          cases em
          rcases hend with ⟨ρe, e, _⟩ | ⟨d', e, eo⟩
          · cases e
          · cases e
            subst eo
            exact fun v Hf4 H4 x4 r4 => k v Hf4 H4 (x4.less pm) r4
        | _ => cases em
    · have et : t = os.length := by omega
      subst et
      rw [List.drop_eq_nil_of_le (Nat.le_refl _)] at em
      have em : some (Fl.nx ρ') = some oz := em
      rcases hend with ⟨ρe, e, lk, hik, eo⟩ | ⟨d', e, eo⟩
      · subst e
        have em : ρ' = ρe := by injection em with em; injection em
        subst em eo
        refine .inl ⟨⟨us, SqL.of qL', by rw [← hlen]; exact Nat.le_refl _⟩, ?_⟩
        obtain ⟨v', ev', qv⟩ := so'.slot (i := i) (s := .val u) (by rw [lk.2 i hik, List.getElem?_set_self iu])
        have qv : v' = some u := qv
        subst qv
        have zL := zr L List.mem_cons_self
        obtain ⟨okL, onlyL⟩ := fin Hf' H' sf so'.sub tp qL' H0 zL.1 zL.2.1
        have res := so'.hand (j := i) okL fun a p => by rw [onlyL a p]; exact zL.2.2
        have e3 : σ'.set i (some u) = σ' := by
          apply List.ext_getElem?
          intro jj
          by_cases hj : i = jj
          · subst hj
            rw [List.getElem?_set_self (List.getElem?_eq_some_iff.mp ev').1, ev']
          · rw [List.getElem?_set_ne hj]
        rw [e3] at res
        refine k σ' Hf' H' sf (res.weak (by rw [List.length_set, List.length_set, eras_len, lk.1, List.length_set]) fun m s hm => ?_)
        rcases get_set hm with ⟨e5, e6, _⟩ | ⟨ne, hm⟩
        · subst e5 e6
          exact .inr (List.getElem?_set_self (by rw [lk.1, List.length_set]; exact iu))
        · rcases eras_at ks ρ m s hm with e | ⟨nk, e⟩
          · exact .inl e
          · exact .inr (by rw [List.getElem?_set_ne (Ne.symm ne), lk.2 m nk, List.getElem?_set_ne (Ne.symm ne)]; exact e)
      · subst e; cases em
end
end L2
namespace L2
open PySem PySem.Spec PyProof.Rows
section
variable {c : Str → Addr} {X : Cx} {b : Bool} {k : Nat} {f : Addr} {fd : FuncData} {ps : List Str} {fl cn : Str} {pos apos : Pos} {o e : Expr} {fo : List Sl → Option D}
noncomputable def zMeth (cn f : Str) (m : List D → Option O) (fo : List Sl → Option D) (ρ : List Sl) : Option O := (fo ρ).bind fun d => match d with
  | .ins c' ns ds => if c' = cn ∧ ns.contains f = false then m [.ins c' ns ds] else none
  | _ => none
theorem dz_meth0 {m : List D → Option O} {pl : Sem Bool} (cn : Str) (ho : DE c X o fo) (hc : Cls X.K (c cn)) (hm : Meth X.K (c cn) fl f) (F : FnOk X.prog X.w X.K X.mg X.base CX0 k f fd ps (spT (Gx c X) ps.length m)) (hr : Room k X.A) (hb : Binds X.K fd ps [])
    (hl : 1 = ps.length := by rfl)
    (ht : eval (.Call (.Attribute o fl apos) [] [] pos) X.env = (do
      let ov ← eval o X.env
      standAt apos.atName
      let (f, first) ← holding [ov] (getMethod ov fl pl)
      callWith pos f first (backTo pos (starEach [] X.env)) (backToKw pos (keywordEach [] X.env))) := by rfl) :
    DZ c X b (.Call (.Attribute o fl apos) [] [] pos) (zMeth cn fl m fo) := PE.imp (pe_meth0 ho hc hm F hr hb .nil pass0 ht) fun σ H Q q_ => by
  obtain ⟨Hf0, H0, Hf, ρ, t, st, ef, kq⟩ := q_
  unfold zMeth at ef
  cases e1 : fo ρ with
  | none => rw [e1] at ef; cases ef
  | some y =>
    rw [e1, Option.bind_some] at ef
    cases y with
    | ins c' ns ds =>
      replace ef : (if c' = cn ∧ ns.contains fl = false then m [.ins c' ns ds] else none) = some t := ef
      split at ef
      · rename_i hcc
        obtain ⟨rfl, hno⟩ := hcc
        refine ⟨Hf0, H0, Hf, ρ, _, st, e1, fun v Hf' H' x r => ?_⟩
        obtain ⟨a, dx, vs, ev, q, hlen, rs⟩ := id r
        refine ⟨a, dx, ns.zip vs, ev, x.s _ _ q, lookup_no hno, ?_⟩
        exact ⟨Hf', [.ins c' ns ds], t, x.s, .cons r .nil, hl, ef, fun u fp Hf3 H3 x3 r3 z => kq u fp Hf3 H3 (x.trans x3) r3 (z.imp fun a h => bsH_of st.ext.h (x.h.free h))⟩
      · cases ef
    | _ => cases ef
noncomputable def zOr (f g : List Sl → Option O) (ρ : List Sl) : Option O := (f ρ).or (g ρ)
theorem DZ.orE {f g : List Sl → Option O} (h : DZ c X b e f) (h' : DZ c X b e g) : DZ c X b e (zOr f g) := fun pins s σ H Q I q_ => by
  obtain ⟨Hf0, H0, Hf, ρ, d, st, ef, k⟩ := q_
  unfold zOr at ef
  cases ed : f ρ with
  | some d' =>
    rw [ed] at ef
    cases ef
    exact h pins s σ H Q I ⟨Hf0, H0, Hf, ρ, _, st, ed, k⟩
  | none =>
    rw [ed] at ef
    exact h' pins s σ H Q I ⟨Hf0, H0, Hf, ρ, d, st, ef, k⟩
end
section
variable {P : Program} {w : World} {K : PySem.W.Frag} {mg : Str → Option Value} {base : Heap} {c : Str → Addr}
end
section
variable {c : Str → Addr} {X : Cx} {k : Nat} {f : Addr} {fd : FuncData} {q x : Str} {p pos spos : Pos} {e : Expr}
end
end L2
namespace L2
open PySem PySem.Spec PyProof.Rows
noncomputable def mInitZ : List (Str × (List Sl → Option O)) → List Sl → List Str → List O → Option (List Str × List O)
  | [], _, ns, os => some (ns, os)
  | (f, m) :: r, ρ, ns, os => (m ρ).bind fun o => if ns.contains f then none else mInitZ r ρ (ns ++ [f]) (os ++ [o])
noncomputable def tInitZ (G : Gc) (cn : Str) (fs : List (Str × (List Sl → Option O))) : TS := fun E σ H => ∃ x dx Hf0 H0 Hf ρ ns us os gs r, σ[0]? = some (some (.ref x)) ∧ (∀ s ∈ ρ, Sl.calm s = true) ∧ StOk G Hf0 H0 Hf H σ ρ ∧ H0 x = none ∧ Hf x = none ∧
  H x = some (.ins (G.cl cn) dx (ns.zip us)) ∧ ns.length = us.length ∧ ns.length + fs.length ≤ 900 ∧ OTs G Hf H os us gs ∧ Fre H0 Hf gs ∧ x ∉ gs ∧ mInitZ fs ρ ns os = some r ∧
  ∀ us' gs' Hf' H', Ext Hf0 H0 Hf' H' → Hf' x = none → H' x = some (.ins (G.cl cn) dx (r.1.zip us')) → r.1.length = us'.length → OTs G Hf' H' r.2 us' gs' → Fre H0 Hf' gs' → x ∉ gs' → E.nx σ H'
noncomputable def DSIZ (c : Str → Addr) (X : Cx) (cn : Str) (sts : List Stmt) (fs : List (Str × (List Sl → Option O))) : Prop := PSs X sts (tInitZ (Gx c X) cn fs)
section
variable {c : Str → Addr} {X : Cx} {cn fl : Str} {e o : Expr} {sts : List Stmt} {pos pos' : Pos} {m : List Sl → Option O} {fs : List (Str × (List Sl → Option O))}
theorem dsiz_nil : DSIZ c X cn [] [] := PSs.imp pss_nil fun E σ H q => by
  obtain ⟨x, dx, Hf0, H0, Hf, ρ, ns, us, os, gs, r, e0, no, so, h0, hf, hx, hl, hz, rd, z, nx, em, k⟩ := q
  cases em
  exact k us gs Hf H so.ext hf hx hl rd z nx
theorem dsiz_cons (hc : Cls X.K (c cn)) (hn : NoAttr X.K (c cn) fl) (ho : PE X o (tVar 0)) (he : DZ c X true e m) (h : DSIZ c X cn sts fs) (hs : swapsWith e (some (.Attribute o fl pos')) pos.line X.env = pure false := by rfl) :
    DSIZ c X cn (.Assign [.Attribute o fl pos'] e pos :: sts) ((fl, m) :: fs) := PSs.imp (pss_cons (ps_fld ho he hs) h) fun E σ H q => by
  obtain ⟨x, dx, Hf0, H0, Hf, ρ, ns, us, os, gs, r, e0, no, so, h0, hf, hx, hl, hz, rd, z, nx, em, k⟩ := q
  unfold mInitZ at em
  cases e1 : m ρ with
  | none => rw [e1] at em; cases em
  | some t =>
    rw [e1, Option.bind_some] at em
    split at em
    · cases em
    · rename_i hnc
      have hnc : ns.contains fl = false := by simpa using hnc
      refine ⟨Hf0, H0, Hf, ρ, t, so, e1, fun v fp Hf' H' xx rv zf => ⟨_, e0, x, c cn, dx, ns.zip us, rfl, xx.h _ _ hx, hc, hn, ?_, ?_⟩⟩
      · have h1 := List.length_zip (l₁ := ns) (l₂ := us)
        rw [List.length_cons] at hz
        omega
      · have zf : Fre H Hf' fp := zf
        have hf' : Hf' x = none := by rw [xx.n _ _ hx rfl]; exact hf
        have so' := so.step xx
        have so2 : StOk (Gx c X) Hf0 H0 Hf' (upd H' x (.ins (c cn) dx (putF fl v (ns.zip us)))) σ ρ := by
          refine so'.re ⟨so'.ext.f, fun b u e => ?_, fun b u e => ?_, so'.ext.n⟩ rfl (fun i w s a b => ?_) fun i s w a b _ p => (p.calm (no s (List.mem_of_getElem? b))).elim
          · rw [upd_ne (ne_of_none e h0)]; exact so'.ext.h b u e
          · rw [upd_ne (ne_of_none e hf')]; exact so'.ext.s b u e
          · have hs := no s (List.mem_of_getElem? b)
            have q := so'.at' i w s a b
            cases s with
            | no => trivial
            | im d => exact q
            | _ => cases hs
        have xf : x ∉ fp := fun hm => by
          have := (zf.2 x hm).1
          rw [hx] at this
          cases this
        have mem := OTs.memM os us gs rd
        have keep : ∀ {S : List Addr}, x ∉ S → ∀ b u, H' b = some u → (tupO u = true ∨ b ∈ S) → upd H' x (.ins (c cn) dx (putF fl v (ns.zip us))) b = some u := fun {S} hS b u hb hm => by
          rw [upd_ne]
          · exact hb
          · intro e
            subst e
            rw [xx.h _ _ hx] at hb
            cases hb
            rcases hm with hm | hm
            · cases hm
            · exact hS hm
        have o1 := OTs.frameM (H' := upd H' x (.ins (c cn) dx (putF fl v (ns.zip us)))) (Same.refl Hf') os us gs (rd.up xx.f xx.h) (keep nx)
        have o2 := rv.frame (H' := upd H' x (.ins (c cn) dx (putF fl v (ns.zip us)))) (Same.refl Hf') (keep xf)
        refine ⟨x, dx, Hf0, H0, Hf', ρ, ns ++ [fl], us ++ [v], os ++ [t], gs ++ fp, r, e0, no, so2, h0, hf', ?_, by rw [List.length_append, List.length_append, hl]; rfl, by rw [List.length_cons] at hz; rw [List.length_append, List.length_singleton]; omega, o1.append (.one o2), (z.step mem xx).app (zf.imp fun a h => so.ext.h.free h) (fun a ha hb => ?_), fun hm => (List.mem_append.mp hm).elim nx xf, em, k⟩
        · rw [upd_same, putF_new hl hnc]
        · obtain ⟨u, hu, _⟩ := mem a ha
          rw [(zf.2 a hb).1] at hu
          cases hu
end
noncomputable def runIZ (n : Nat) (fs : List (Str × (List Sl → Option O))) (as : List D) : Option (List Str × List O) := mInitZ fs (.no :: (as.map .im ++ List.replicate (n - 1 - as.length) .no)) [] []
noncomputable def spIZ (G : Gc) (cn : Str) (n : Nat) (m : List D → Option (List Str × List O)) : Sp := fun vs H Q _ => ∃ x dx Hf as vs' r, vs = .ref x :: vs' ∧ H x = some (.ins (G.cl cn) dx []) ∧ Hf x = none ∧ Same Hf H ∧ Reps G Hf as vs' ∧ as.length + 1 = n ∧ m as = some r ∧
  ∀ us gs Hf' H', Ext Hf (del H x) Hf' H' → Hf' x = none → H' x = some (.ins (G.cl cn) dx (r.1.zip us)) → r.1.length = us.length → OTs G Hf' H' r.2 us gs → Fre (del H x) Hf' gs → x ∉ gs → Q .non H'
section
variable {P : Program} {w : World} {K : PySem.W.Frag} {mg : Str → Option Value} {base : Heap} {c : Str → Addr}
theorem fn_IZ {x qual cn : Str} {st : Stmt} {f : Addr} {fd : FuncData} {N ps : List Str} {k : Nat} {fs : List (Str × (List Sl → Option O))} (Fn : Fun K x qual st f fd) (S : FnScope N ps (defScope st))
    (h : ∀ (cdv : Value) (A : Around) (outer : List Env) (s : Shared) (H : Hp) (E : XK), Room k (A.deeper (envOfC qual (defScope st) s.heap.objs.size f cdv)) → DSIZ c (cxOf CX0 P w K mg base N qual (defScope st) f cdv A outer s H E).nox cn (defBody st) fs)
    (hz : fs.length ≤ 900 := by decide) : FnOk P w K mg base CX0 (k + 1) f fd ps (spIZ ⟨K, c⟩ cn ps.length (runIZ N.length fs)) := by
  refine Fn.ok S (fun vs H Q E q => by obtain ⟨x, dx, Hf, as, vs', r, ev, _, _, _, ra, hl, _⟩ := q; subst ev; rw [List.length_cons, ← ra.length]; exact hl) fun cdv A outer s H vs Q E hr q => ⟨_, h cdv A outer s H E hr, ?_⟩
  obtain ⟨x, dx, Hf, as, vs', r, ev, hx, hf, s0, ra, hl, e, kq⟩ := q
  subst ev
  have la := ra.length
  have im : ∀ (i : Nat) (s : Sl), (Sl.no :: (as.map Sl.im ++ List.replicate (N.length - 1 - as.length) .no))[i]? = some s → s = .no ∨ ∃ d j, i = j + 1 ∧ as[j]? = some d ∧ s = .im d := fun i s b => by
    cases i with
    | zero => left; simpa using b.symm
    | succ i =>
      rw [List.getElem?_cons_succ] at b
      by_cases hi : i < as.length
      · rw [List.getElem?_append_left (by simpa using hi)] at b
        obtain ⟨d, ed, es⟩ := map_get b
        exact .inr ⟨d, i, rfl, ed, es⟩
      · rw [List.getElem?_append_right (by simpa using Nat.le_of_not_lt hi)] at b
        obtain ⟨_, e⟩ := List.getElem?_eq_some_iff.mp b
        rw [List.getElem_replicate] at e
        exact .inl e.symm
  have no : ∀ s ∈ (Sl.no :: (as.map Sl.im ++ List.replicate (N.length - 1 - as.length) .no)), Sl.calm s = true := fun s hs => by
    obtain ⟨i, hi⟩ := List.getElem?_of_mem hs
    rcases im i s hi with e | ⟨d, _, _, _, e⟩ <;> (subst e; rfl)
  refine ⟨x, dx, Hf, del H x, Hf, _, [], [], [], [], r, rfl, no, ⟨⟨Same.refl _, fun b o e => ?_, s0, fun _ _ _ _ => rfl⟩, ?_, fun i v s a b => ?_, fun i j s t v w l a b _ _ p _ => ?_⟩, del_same, hf, hx, rfl, by simpa using hz, ⟨rfl, rfl⟩, .nil, List.not_mem_nil, e, fun us gs Hf' H' xx h1 h2 h3 h4 h5 h6 => kq us gs Hf' H' xx h1 h2 h3 h4 h5 h6⟩
  · by_cases hb : b = x
    · subst hb; rw [del_same] at e; cases e
    · rw [del_ne hb] at e; exact e
  · unfold L2.start
    simp only [List.length_append, List.length_map, List.length_cons, List.length_replicate]
    omega
  · rcases im i s b with e | ⟨d, j, ei, ed, es⟩
    · subst e; trivial
    · subst es ei
      obtain ⟨u, eu, ru⟩ := ra.get ed
      refine ⟨u, ?_, ru⟩
      have hi : j < vs'.length := (List.getElem?_eq_some_iff.mp eu).1
      unfold L2.start at a
      rw [List.map_cons, List.cons_append, List.getElem?_cons_succ, List.getElem?_append_left (by simpa using hi), List.getElem?_map, eu] at a
      exact (Option.some.inj a).symm
  · exact (p.calm (no s (List.mem_of_getElem? a))).elim
end
section
variable {c : Str → Addr} {X : Cx} {b : Bool} {k : Nat} {f : Addr} {fd : FuncData} {ps : List Str} {x cn : Str} {p pos : Pos} {e : Expr} {es : List Expr} {fa : List Sl → Option (List D)}
noncomputable def zMake (cn : Str) (m : List D → Option (List Str × List O)) (fa : List Sl → Option (List D)) (ρ : List Sl) : Option O := (fa ρ).bind fun as => (m as).map fun r => .ins cn r.1 r.2
theorem make_new {H' Hf2 : Hp} {y dx : Addr} {C : Addr} {gs : List Addr} (ny : H' y = none) (ndx : H' dx = none) (nex : dx ≠ y) (z : Fre (del (upd (upd H' dx (.own y)) y (.ins C dx [])) y) Hf2 gs) (ng : y ∉ gs) : Fre H' Hf2 gs := ⟨z.1, fun a ha => ⟨by
  have h := (z.2 a ha).1
  have ay : a ≠ y := fun q => by subst q; exact ng ha
  rw [del_ne ay, upd_ne ay] at h
  by_cases ad : a = dx
  · subst ad; exact ndx
  · rw [upd_ne ad] at h; exact h, (z.2 a ha).2⟩⟩
theorem dz_make {m : List D → Option (List Str × List O)} (cn : Str) (M : Mk X.K (c cn) f) (F : FnOk X.prog X.w X.K X.mg X.base CX0 k f fd ps (spIZ (Gx c X) cn ps.length m)) (hr : Room (k + 1) X.A) (hg : Gl X x) (hm : X.mg x = some (.ref (c cn))) (hb : Binds X.K fd ps []) (ha : DA c X (e :: es) fa)
    (hl : (e :: es).length + 1 = ps.length := by rfl) (hdb : (x == ("__debug__" : Str)) = false := by decide) (he : starEach (e :: es) X.env = (false, eval e X.env) :: starEach es X.env := by rfl) (hpl : (backTo pos (starEach es X.env)).any (·.1) = false := by rfl) :
    DZ c X b (.Call (.Name x p) (e :: es) [] pos) (zMake cn m fa) := PE.imp (pe_make M F hr hg hm hb .nil pass0 ha.pa hdb he hpl) fun σ H Q q_ => by
  obtain ⟨Hf0, H0, Hf, ρ, t, st, ef, kq⟩ := q_
  unfold zMake at ef
  cases e1 : fa ρ with
  | none => rw [e1] at ef; cases ef
  | some as =>
    rw [e1, Option.bind_some] at ef
    cases e2 : m as with
    | none => rw [e2] at ef; cases ef
    | some r =>
      rw [e2] at ef
      cases ef
      refine ⟨Hf0, H0, Hf, ρ, as, st, e1, fun vs Hf' H' xx rv y dx ny ndx nex => ?_⟩
      try dsimp only
      rw [List.append_nil]
      have hy : (upd H' dx (.own y)) y = none := by rw [upd_ne nex.symm]; exact ny
      have s1 : Same H' (upd H' dx (.own y)) := same_upd ndx
      have s2 := s1.trans (same_upd (o := .ins (c cn) dx []) hy)
      have s3 : Same H' (del (upd (upd H' dx (.own y)) y (.ins (c cn) dx [])) y) := fun b u q => by
        have := ne_of_none q ny
        rw [del_ne this]
        exact s2 b u q
      refine ⟨y, dx, Hf', as, vs, r, rfl, upd_same, xx.s.free ny, xx.s.trans s2, rv, by rw [ha.len ρ as e1]; exact hl, e2, fun us gs Hf2 H2 x2 hf2 hy2 hlen r2 z2 ng => ⟨rfl, ?_⟩⟩
      have x3 : Ext Hf' H' Hf2 H2 := ⟨x2.f, s3.trans x2.h, x2.s, fun l u q t => x2.n l u (s3 l u q) t⟩
      have z3 := make_new ny ndx nex z2 ng
      refine kq _ (y :: gs) Hf2 H2 (xx.trans x3) ⟨y, dx, us, gs, rfl, hy2, hlen, r2, rfl⟩ ⟨List.nodup_cons.mpr ⟨ng, z3.1⟩, fun a ha => ?_⟩
      rcases List.mem_cons.mp ha with q | q
      · subst q; exact ⟨bsH_of st.ext.h (xx.h.free ny), hf2⟩
      · exact ⟨bsH_of st.ext.h (xx.h.free (z3.2 a q).1), (z3.2 a q).2⟩
noncomputable def zMakeF (cn : Str) (m : List D → Option (List Str × List O)) (fa : List Sl → Option (List D)) (ρ : List Sl) : Option O := (fa ρ).bind fun as => (m as).bind fun r => if O.flats r.2 then some (.ins cn r.1 r.2) else none
theorem dz_makeF {m : List D → Option (List Str × List O)} (cn : Str) (M : Mk X.K (c cn) f) (F : FnOk X.prog X.w X.K X.mg X.base CX0 k f fd ps (spIZ (Gx c X) cn ps.length m)) (hr : Room (k + 1) X.A) (hg : Gl X x) (hm : X.mg x = some (.ref (c cn))) (hb : Binds X.K fd ps []) (ha : DAB c X (e :: es) fa)
    (hl : (e :: es).length + 1 = ps.length := by rfl) (hdb : (x == ("__debug__" : Str)) = false := by decide) (he : starEach (e :: es) X.env = (false, eval e X.env) :: starEach es X.env := by rfl) (hpl : (backTo pos (starEach es X.env)).any (·.1) = false := by rfl) :
    DZ c X b (.Call (.Name x p) (e :: es) [] pos) (zMakeF cn m fa) := PE.imp (pe_make M F hr hg hm hb .nil pass0 ha.pa hdb he hpl) fun σ H Q q_ => by
  obtain ⟨Hf0, H0, Hf, ρ, t, st, ef, kq⟩ := q_
  unfold zMakeF at ef
  cases e1 : fa ρ with
  | none => rw [e1] at ef; cases ef
  | some as =>
    rw [e1, Option.bind_some] at ef
    cases e2 : m as with
    | none => rw [e2] at ef; cases ef
    | some r =>
      rw [e2, Option.bind_some] at ef
      split at ef
      · rename_i hfl
        cases ef
        refine ⟨Hf0, H0, Hf, ρ, as, st, e1, fun vs Hf' H' xx rv y dx ny ndx nex => ?_⟩
        try dsimp only
        rw [List.append_nil]
        have hy : (upd H' dx (.own y)) y = none := by rw [upd_ne nex.symm]; exact ny
        have s1 : Same H' (upd H' dx (.own y)) := same_upd ndx
        have s2 := s1.trans (same_upd (o := .ins (c cn) dx []) hy)
        have s3 : Same H' (del (upd (upd H' dx (.own y)) y (.ins (c cn) dx [])) y) := fun b u q => by
          have := ne_of_none q ny
          rw [del_ne this]
          exact s2 b u q
        refine ⟨y, dx, H', as, vs, r, rfl, upd_same, ny, s2, rv, by rw [ha.len ρ as e1]; exact hl, e2, fun us gs Hf2 H2 x2 hf2 hy2 hlen r2 z2 ng => ⟨rfl, ?_⟩⟩
        have g2 : Same H' H2 := s3.trans x2.h
        have z3 := make_new ny ndx nex z2 ng
        have out : ∀ a, H' a = none → (∀ vs, H2 a ≠ some (.tup vs)) → tupH Hf' H2 a = none := fun a h1 h2 => by rw [tupH_no h2]; exact xx.s.free h1
        refine kq _ (y :: gs) (tupH Hf' H2) H2 (xx.trans (ext_tup xx.s g2)) ⟨y, dx, us, gs, rfl, hy2, hlen, OTs.flatM x2.s r.2 us gs hfl r2, rfl⟩ ⟨List.nodup_cons.mpr ⟨ng, z3.1⟩, fun a ha => ?_⟩
        rcases List.mem_cons.mp ha with q | q
        · subst q
          exact ⟨bsH_of st.ext.h (xx.h.free ny), out a ny fun vs q => by rw [hy2] at q; cases q⟩
        · obtain ⟨oo, ho, ht⟩ := OTs.memM r.2 us gs r2 a q
          exact ⟨bsH_of st.ext.h (xx.h.free (z3.2 a q).1), out a (z3.2 a q).1 fun vs q => by rw [ho] at q; cases q; cases ht⟩
      · cases ef
end
noncomputable def tDAT (G : Gc) (f : List Sl → Option (List O)) : TA := fun σ H Q => ∃ Hf0 H0 Hf ρ os, StOk G Hf0 H0 Hf H σ ρ ∧ f ρ = some os ∧ ∀ vs gs Hf' H', Ext Hf H Hf' H' → OTs G Hf' H' os vs gs → Fre H Hf' gs → Q vs H'
structure DAT (c : Str → Addr) (X : Cx) (es : List Expr) (f : List Sl → Option (List O)) : Prop where
  pa : PA X es (tDAT (Gx c X) f)
  len : ∀ ρ os, f ρ = some os → os.length = es.length
noncomputable def zCons (f : List Sl → Option O) (g : List Sl → Option (List O)) (ρ : List Sl) : Option (List O) := (f ρ).bind fun o => (g ρ).map fun os => o :: os
noncomputable def zList (g : List Sl → Option (List O)) (ρ : List Sl) : Option O := (g ρ).map .lst
section
variable {c : Str → Addr} {X : Cx} {b : Bool} {e : Expr} {es : List Expr} {pos : Pos} {st : Stmt}
theorem dat_nil : DAT c X [] (fun _ => some []) := ⟨PA.imp pa_nil fun σ H Q ⟨Hf0, H0, Hf, ρ, os, st, ef, k⟩ => by cases ef; exact k [] [] Hf H (Ext.refl st.sub) ⟨rfl, rfl⟩ .nil, fun ρ os h => by cases h; rfl⟩
theorem zCons_is {f : List Sl → Option O} {g : List Sl → Option (List O)} {ρ : List Sl} {os : List O} (h : zCons f g ρ = some os) : ∃ o r, f ρ = some o ∧ g ρ = some r ∧ os = o :: r := by
  unfold zCons at h
  cases e1 : f ρ with
  | none => rw [e1] at h; cases h
  | some d =>
    cases e2 : g ρ with
    | none => rw [e1, e2] at h; cases h
    | some r => rw [e1, e2] at h; cases h; exact ⟨d, r, rfl, rfl, rfl⟩
theorem dat_cons {f : List Sl → Option O} {g : List Sl → Option (List O)} (h : DZ c X true e f) (hr : DAT c X es g) (hs : starEach (e :: es) X.env = (false, eval e X.env) :: starEach es X.env := by rfl) : DAT c X (e :: es) (zCons f g) := by
  refine ⟨PA.imp (pa_cons h hr.pa hs) fun σ H Q q_ => ?_, fun ρ os h => ?_⟩
  · obtain ⟨Hf0, H0, Hf, ρ, os, st, ef, k⟩ := q_
    obtain ⟨o, r, e1, e2, rfl⟩ := zCons_is ef
    refine ⟨Hf0, H0, Hf, ρ, o, st, e1, fun u fp Hf1 H1 x1 r1 z1 => ⟨Hf0, H0, Hf1, ρ, r, st.step x1, e2, fun vs gs Hf2 H2 x2 r2 z2 => ?_⟩⟩
    have z1 : Fre H Hf1 fp := z1
    have mem := OT.memM o u fp r1
    refine k (u :: vs) (fp ++ gs) Hf2 H2 (x1.trans x2) ⟨u, vs, fp, gs, rfl, r1.up x2.f x2.h, r2, rfl⟩ ((z1.step mem x2).app (z2.imp fun a h => x1.h.free h) fun a ha hb => ?_)
    obtain ⟨w, hw, _⟩ := mem a ha
    rw [(z2.2 a hb).1] at hw
    cases hw
  · obtain ⟨o, r, e1, e2, rfl⟩ := zCons_is h
    simp [hr.len ρ r e2]
theorem dz_list {g : List Sl → Option (List O)} (h : DAT c X es g) (hz : es.length ≤ 1000 := by exact Nat.le_of_ble_eq_true rfl) : DZ c X b (.List es pos) (zList g) := PE.imp (pe_lst h.pa) fun σ H Q q_ => by
  obtain ⟨Hf0, H0, Hf, ρ, t, st, ef, k⟩ := q_
  unfold zList at ef
  cases ed : g ρ with
  | none => rw [ed] at ef; cases ef
  | some os =>
    rw [ed] at ef
    cases ef
    refine ⟨Hf0, H0, Hf, ρ, os, st, ed, fun vs gs Hf' H' x r z => ⟨?_, fun l hl => ?_⟩⟩
    · rw [← r.length, h.len ρ os ed]
      exact Nat.le_of_lt (small1000 hz)
    · refine k _ (l :: gs) Hf' (upd H' l (.lst vs)) (x.trans (Ext.tmp x.s hl)) ⟨l, vs, gs, rfl, upd_same, r.up (Same.refl _) (same_upd hl), rfl⟩ ⟨List.nodup_cons.mpr ⟨fun hm => ?_, z.1⟩, fun a ha => ?_⟩
      · obtain ⟨u, hu, _⟩ := OTs.memM os vs gs r l hm
        rw [hl] at hu
        cases hu
      · rcases List.mem_cons.mp ha with q | q
        · subst q; exact ⟨bsH_of st.ext.h (x.h.free hl), x.s.free hl⟩
        · exact ⟨bsH_of st.ext.h (z.2 a q).1, (z.2 a q).2⟩

noncomputable def zRev (i : Nat) (ρ : List Sl) : Option Fl := match ρ[i]? with
  | some (.deep (.lst os)) => some (.nx (ρ.set i (.deep (.jnk os.length))))
  | _ => none
theorem ds_revZ_of {i : Nat} (h : PS X st (tDrop (tBM0 X.K "list" rReverse (tVar i)))) : DS c X st (zRev i) := PS.imp h fun E σ H q_ => by
  obtain ⟨Hf0, H0, Hf, ρ, o, so, ef, kq⟩ := q_
  unfold zRev at ef
  split at ef
  · rename_i os es
    cases ef
    obtain ⟨v, e2, u, fp, e3, r, n, z⟩ := so.slot es
    subst e3
    obtain ⟨l, vs, fs, el, q, rs, efp⟩ := id r
    subst el efp
    refine ⟨_, e2, .inl ⟨rfl, _, SqL.of q⟩, l, vs, rfl, rfl, q, kq σ Hf _ (Same.refl _) (so.chg es e2 (fun b y hb => ?_) ⟨.ref l, [l], rfl, ⟨l, vs.reverse, rfl, upd_same, by rw [List.length_reverse, rs.length]; exact Nat.le_refl _, rfl⟩, List.nodup_cons.mpr ⟨List.not_mem_nil, List.nodup_nil⟩, fun a ha => by rw [List.mem_singleton.mp ha]; exact z l List.mem_cons_self⟩ fun a p => .inl ?_)⟩
    · by_cases hbl : b = l
      · subst hbl; exact .inl ⟨_, r, List.mem_cons_self⟩
      · exact .inr (by rw [upd_ne hbl]; exact hb)
    · obtain ⟨fp', ⟨l2, vs2, e, _, _, ef⟩, ha⟩ := p
      cases e
      subst ef
      rw [List.mem_singleton.mp ha]
      exact ⟨_, r, List.mem_cons_self⟩
  · cases ef
theorem wp_revZ {i : Nat} {ρ : List Sl} {os : List O} {K : Fl → Prop} (h : ρ[i]? = some (.deep (.lst os))) (k : K (.nx (ρ.set i (.deep (.jnk os.length))))) : wp (zRev i) ρ K := ⟨_, by unfold zRev; rw [h], k⟩
end
structure TyC (K : PySem.W.Frag) (C : Addr) : Prop where
  ha : PySem.W.findIn K (.ref C) "__class__" = some (some (.builtin "object.__class__"))
  hn : PySem.W.specialIn K (.builtin "object.__class__") "__get__" = some (some (.builtin "getset_descriptor.__get__"))
  htk : PySem.W.takesIn K (.builtin "object.__class__") = some true
  hm : PySem.W.mroIn K C (.type "object") = some true
noncomputable def IsCs (K : PySem.W.Frag) (c : Str → Addr) (CT : Addr) : List (Str × Bool) → Prop
  | [] => True
  | (cn, b) :: r => (Cls K (c cn) ∧ TyC K (c cn) ∧ PySem.W.kitOne K (.ref (c cn)) (.ref CT) = some b) ∧ IsCs K c CT r
noncomputable def lkC (s : Str) : List (Str × Bool) → Option Bool
  | [] => none
  | (k, b) :: r => if s = k then some b else lkC s r
theorem IsCs.at {K : PySem.W.Frag} {c : Str → Addr} {CT : Addr} {s : Str} {b : Bool} : ∀ {l : List (Str × Bool)}, IsCs K c CT l → lkC s l = some b → Cls K (c s) ∧ TyC K (c s) ∧ PySem.W.kitOne K (.ref (c s)) (.ref CT) = some b
  | [], _, e => by cases e
  | (k, b') :: r, h, e => by
    unfold lkC at e
    split at e
    · rename_i q
      subst q
      cases e
      exact h.1
    · exact IsCs.at h.2 e
noncomputable def mIsC (l : List (Str × Bool)) (f : List Sl → Option D) (ρ : List Sl) : Option D := (f ρ).bind fun d => match d with
  | .ins cn _ _ => (lkC cn l).map .bl
  | _ => none
section
variable {c : Str → Addr} {X : Cx} {e : Expr} {p pos : Pos}
theorem de_isC {f : List Sl → Option D} {l : List (Str × Bool)} {q1 : Pos} {y : Str} {CT : Addr} (hk : IsCs X.K c CT l) (hg : Gl X "isinstance") (hm : X.mg "isinstance" = none) (hgy : Gl X y) (hmy : X.mg y = some (.ref CT)) (ha : DB c X e f)
    (hs : starEach [e, .Name y q1] X.env = (false, eval e X.env) :: starEach [.Name y q1] X.env := by rfl) (hs2 : starEach [.Name y q1] X.env = (false, eval (.Name y q1) X.env) :: starEach [] X.env := by rfl)
    (hdb : (y == ("__debug__" : Str)) = false := by decide) (hpl : (backTo pos (starEach [.Name y q1] X.env)).any (·.1) = false := by rfl) :
    DE c X (.Call (.Name "isinstance" p) [e, .Name y q1] [] pos) (mIsC l f) :=
  PE.imp (pe_callB call_isC hg hm boot_isinstance (pa_cons ha (pa_cons (pe_glob (v := .ref CT) hgy hmy rfl hdb) pa_nil hs2) hs) (by decide) (by decide) hs hpl) fun σ H Q q_ => by
    obtain ⟨Hf0, H0, Hf, ρ, d, st, ef, k⟩ := q_
    unfold mIsC at ef
    cases e1 : f ρ with
    | none => rw [e1] at ef; cases ef
    | some x =>
      rw [e1, Option.bind_some] at ef
      cases x with
      | ins cn ns ds =>
        replace ef : (lkC cn l).map D.bl = some d := ef
        cases e2 : lkC cn l with
        | none => rw [e2] at ef; cases ef
        | some b =>
          rw [e2] at ef
          cases ef
          obtain ⟨cl, ty, kt⟩ := hk.at e2
          refine ⟨Hf0, H0, Hf, ρ, _, st, e1, fun v Hf' H' x1 r => ?_⟩
          obtain ⟨a, dx, vs, ev, q, _, _⟩ := r
          subst ev
          exact ⟨_, CT, .ref (c cn), b, rfl, .ins q cl ty.ha ty.hn ty.htk ty.hm, kt, k _ Hf' H' x1 rfl⟩
      | _ => cases ef
end
end L2
namespace N_k05
open PySem PySem.Spec PyProof.Rows L2
noncomputable def top (i : Nat) : Stmt := PySem.Challenge.pw_standstill_k05_parts_told_and_named.main.body.getD i (.Pass ⟨0, 0, 0, 0⟩)
noncomputable abbrev s_part_of : Stmt := top 7
noncomputable abbrev s_things_of : Stmt := top 8
noncomputable abbrev s_worth_in : Stmt := top 9
noncomputable abbrev s__law_cell_at : Stmt := top 15
noncomputable abbrev s__law_whole : Stmt := top 16
noncomputable abbrev s__law_mixed : Stmt := top 17
noncomputable abbrev s__law_truths : Stmt := top 18
noncomputable abbrev s__law_items : Stmt := top 19
noncomputable abbrev s__law_classes : Stmt := top 20
noncomputable abbrev s__law_pair : Stmt := top 21
noncomputable abbrev s__law_told : Stmt := top 22
noncomputable abbrev s__law_named : Stmt := top 23
noncomputable abbrev s__law_looked : Stmt := top 24
noncomputable abbrev s__law_counted : Stmt := top 25
noncomputable abbrev s_law : Stmt := top 26
noncomputable abbrev s_In___init__ : Stmt := inClass (top 3) 0
noncomputable abbrev s_In_told : Stmt := inClass (top 3) 1
noncomputable abbrev s_In_named : Stmt := inClass (top 3) 2
noncomputable abbrev s_In_holds : Stmt := inClass (top 3) 4
noncomputable abbrev s_Out___init__ : Stmt := inClass (top 4) 0
noncomputable abbrev s_Out_told : Stmt := inClass (top 4) 1
noncomputable abbrev s_Out_named : Stmt := inClass (top 4) 2
noncomputable abbrev s_Out_holds : Stmt := inClass (top 4) 4
noncomputable abbrev s_Least___init__ : Stmt := inClass (top 5) 0
noncomputable abbrev s_Least_told : Stmt := inClass (top 5) 1
noncomputable abbrev s_Least_named : Stmt := inClass (top 5) 2
noncomputable abbrev s_Least_holds : Stmt := inClass (top 5) 4
noncomputable abbrev s_Most___init__ : Stmt := inClass (top 6) 0
noncomputable abbrev s_Most_told : Stmt := inClass (top 6) 1
noncomputable abbrev s_Most_named : Stmt := inClass (top 6) 2
noncomputable abbrev s_Most_holds : Stmt := inClass (top 6) 4
theorem sc_part_of : FnScope ["told", "word"] ["told"] (defScope s_part_of) := ⟨rfl, rfl, rfl, by decide +kernel, rfl, by decide +kernel, by decide +kernel⟩
theorem sc_things_of : FnScope ["items"] ["items"] (defScope s_things_of) := ⟨rfl, rfl, rfl, by decide +kernel, rfl, by decide +kernel, by decide +kernel⟩
theorem sc_worth_in : FnScope ["items", "entries"] ["items", "entries"] (defScope s_worth_in) := ⟨rfl, rfl, rfl, by decide +kernel, rfl, by decide +kernel, by decide +kernel⟩
theorem sc__law_cell_at : FnScope ["_law_script", "_law_k"] ["_law_script", "_law_k"] (defScope s__law_cell_at) := ⟨rfl, rfl, rfl, by decide +kernel, rfl, by decide +kernel, by decide +kernel⟩
theorem sc__law_whole : FnScope ["_law_found"] ["_law_found"] (defScope s__law_whole) := ⟨rfl, rfl, rfl, by decide +kernel, rfl, by decide +kernel, by decide +kernel⟩
theorem sc__law_mixed : FnScope ["_law_cell", "_law_k", "_law_factor", "_law_prime"] ["_law_cell", "_law_k"] (defScope s__law_mixed) := ⟨rfl, rfl, rfl, by decide +kernel, rfl, by decide +kernel, by decide +kernel⟩
theorem sc__law_truths : FnScope ["_law_cell", "_law_many", "_law_k", "_law_factor", "_law_bits"] ["_law_cell", "_law_many", "_law_k"] (defScope s__law_truths) := ⟨rfl, rfl, rfl, by decide +kernel, rfl, by decide +kernel, by decide +kernel⟩
theorem sc__law_items : FnScope ["_law_cells", "_law_many", "_law_items_here", "_law_cell", "_law_mixed_here", "_law_worth"] ["_law_cells", "_law_many"] (defScope s__law_items) := ⟨rfl, rfl, rfl, by decide +kernel, rfl, by decide +kernel, by decide +kernel⟩
theorem sc__law_classes : FnScope ["_law_made"] ["_law_made"] (defScope s__law_classes) := ⟨rfl, rfl, rfl, by decide +kernel, rfl, by decide +kernel, by decide +kernel⟩
theorem sc__law_pair : FnScope ["_law_found"] ["_law_found"] (defScope s__law_pair) := ⟨rfl, rfl, rfl, by decide +kernel, rfl, by decide +kernel, by decide +kernel⟩
theorem sc__law_told : FnScope ["_law_found", "_law_due"] ["_law_found", "_law_due"] (defScope s__law_told) := ⟨rfl, rfl, rfl, by decide +kernel, rfl, by decide +kernel, by decide +kernel⟩
theorem sc__law_named : FnScope ["_law_found", "_law_due"] ["_law_found", "_law_due"] (defScope s__law_named) := ⟨rfl, rfl, rfl, by decide +kernel, rfl, by decide +kernel, by decide +kernel⟩
theorem sc__law_looked : FnScope ["_law_made", "_law_due", "_law_place", "_law_first", "_law_second", "_law_names"] ["_law_made", "_law_due", "_law_place"] (defScope s__law_looked) := ⟨rfl, rfl, rfl, by decide +kernel, rfl, by decide +kernel, by decide +kernel⟩
theorem sc__law_counted : FnScope ["_law_made", "_law_due", "_law_truths_here", "_law_nothing", "_law_found"] ["_law_made", "_law_due", "_law_truths_here"] (defScope s__law_counted) := ⟨rfl, rfl, rfl, by decide +kernel, rfl, by decide +kernel, by decide +kernel⟩
theorem sc_law : FnScope ["_law_script", "_law_mixed_here", "_law_many", "_law_items_here", "_law_truths_here", "_law_thing", "_law_total", "_law_great", "_law_bound", "_law_dues", "_law_handed", "_law_some", "_law_others", "_law_row", "_law_place"] ["_law_script"] (defScope s_law) := ⟨rfl, rfl, rfl, by decide +kernel, rfl, by decide +kernel, by decide +kernel⟩
theorem sc_In___init__ : FnScope ["self", "thing"] ["self", "thing"] (defScope s_In___init__) := ⟨rfl, rfl, rfl, by decide +kernel, rfl, by decide +kernel, by decide +kernel⟩
theorem sc_In_told : FnScope ["self"] ["self"] (defScope s_In_told) := ⟨rfl, rfl, rfl, by decide +kernel, rfl, by decide +kernel, by decide +kernel⟩
theorem sc_In_named : FnScope ["self"] ["self"] (defScope s_In_named) := ⟨rfl, rfl, rfl, by decide +kernel, rfl, by decide +kernel, by decide +kernel⟩
theorem sc_In_holds : FnScope ["self", "rising", "world"] ["self", "rising", "world"] (defScope s_In_holds) := ⟨rfl, rfl, rfl, by decide +kernel, rfl, by decide +kernel, by decide +kernel⟩
theorem sc_Out___init__ : FnScope ["self", "thing"] ["self", "thing"] (defScope s_Out___init__) := ⟨rfl, rfl, rfl, by decide +kernel, rfl, by decide +kernel, by decide +kernel⟩
theorem sc_Out_told : FnScope ["self"] ["self"] (defScope s_Out_told) := ⟨rfl, rfl, rfl, by decide +kernel, rfl, by decide +kernel, by decide +kernel⟩
theorem sc_Out_named : FnScope ["self"] ["self"] (defScope s_Out_named) := ⟨rfl, rfl, rfl, by decide +kernel, rfl, by decide +kernel, by decide +kernel⟩
theorem sc_Out_holds : FnScope ["self", "rising", "world"] ["self", "rising", "world"] (defScope s_Out_holds) := ⟨rfl, rfl, rfl, by decide +kernel, rfl, by decide +kernel, by decide +kernel⟩
theorem sc_Least___init__ : FnScope ["self", "bound", "items"] ["self", "bound", "items"] (defScope s_Least___init__) := ⟨rfl, rfl, rfl, by decide +kernel, rfl, by decide +kernel, by decide +kernel⟩
theorem sc_Least_told : FnScope ["self"] ["self"] (defScope s_Least_told) := ⟨rfl, rfl, rfl, by decide +kernel, rfl, by decide +kernel, by decide +kernel⟩
theorem sc_Least_named : FnScope ["self"] ["self"] (defScope s_Least_named) := ⟨rfl, rfl, rfl, by decide +kernel, rfl, by decide +kernel, by decide +kernel⟩
theorem sc_Least_holds : FnScope ["self", "rising", "world"] ["self", "rising", "world"] (defScope s_Least_holds) := ⟨rfl, rfl, rfl, by decide +kernel, rfl, by decide +kernel, by decide +kernel⟩
theorem sc_Most___init__ : FnScope ["self", "bound", "items"] ["self", "bound", "items"] (defScope s_Most___init__) := ⟨rfl, rfl, rfl, by decide +kernel, rfl, by decide +kernel, by decide +kernel⟩
theorem sc_Most_told : FnScope ["self"] ["self"] (defScope s_Most_told) := ⟨rfl, rfl, rfl, by decide +kernel, rfl, by decide +kernel, by decide +kernel⟩
theorem sc_Most_named : FnScope ["self"] ["self"] (defScope s_Most_named) := ⟨rfl, rfl, rfl, by decide +kernel, rfl, by decide +kernel, by decide +kernel⟩
theorem sc_Most_holds : FnScope ["self", "rising", "world"] ["self", "rising", "world"] (defScope s_Most_holds) := ⟨rfl, rfl, rfl, by decide +kernel, rfl, by decide +kernel, by decide +kernel⟩
set_option genInjectivity false
set_option genSizeOf false
structure Wa where
  f_part_of : Addr
  fd_part_of : FuncData
  f_things_of : Addr
  fd_things_of : FuncData
  f_worth_in : Addr
  fd_worth_in : FuncData
  f__law_cell_at : Addr
  fd__law_cell_at : FuncData
  f__law_whole : Addr
  fd__law_whole : FuncData
  f__law_mixed : Addr
  fd__law_mixed : FuncData
  f__law_truths : Addr
  fd__law_truths : FuncData
  f__law_items : Addr
  fd__law_items : FuncData
  f__law_classes : Addr
  fd__law_classes : FuncData
  f__law_pair : Addr
  fd__law_pair : FuncData
  f__law_told : Addr
  fd__law_told : FuncData
  f__law_named : Addr
  fd__law_named : FuncData
  f__law_looked : Addr
  fd__law_looked : FuncData
  f__law_counted : Addr
  fd__law_counted : FuncData
  f_law : Addr
  fd_law : FuncData
  f_In___init__ : Addr
  fd_In___init__ : FuncData
  f_In_told : Addr
  fd_In_told : FuncData
  f_In_named : Addr
  fd_In_named : FuncData
  f_In_holds : Addr
  fd_In_holds : FuncData
  f_Out___init__ : Addr
  fd_Out___init__ : FuncData
  f_Out_told : Addr
  fd_Out_told : FuncData
  f_Out_named : Addr
  fd_Out_named : FuncData
  f_Out_holds : Addr
  fd_Out_holds : FuncData
  f_Least___init__ : Addr
  fd_Least___init__ : FuncData
  f_Least_told : Addr
  fd_Least_told : FuncData
  f_Least_named : Addr
  fd_Least_named : FuncData
  f_Least_holds : Addr
  fd_Least_holds : FuncData
  f_Most___init__ : Addr
  fd_Most___init__ : FuncData
  f_Most_told : Addr
  fd_Most_told : FuncData
  f_Most_named : Addr
  fd_Most_named : FuncData
  f_Most_holds : Addr
  fd_Most_holds : FuncData
  C_Part : Addr
  C_In : Addr
  C_Out : Addr
  C_Least : Addr
  C_Most : Addr
structure Wd (K : PySem.W.Frag) (mg : Str → Option Value) (a : Wa) : Prop where
  F_part_of : Fun K "part_of" "part_of" s_part_of a.f_part_of a.fd_part_of
  b_part_of : Binds K a.fd_part_of ["told"] []
  g_part_of : mg "part_of" = some (.ref a.f_part_of)
  F_things_of : Fun K "things_of" "things_of" s_things_of a.f_things_of a.fd_things_of
  b_things_of : Binds K a.fd_things_of ["items"] []
  g_things_of : mg "things_of" = some (.ref a.f_things_of)
  F_worth_in : Fun K "worth_in" "worth_in" s_worth_in a.f_worth_in a.fd_worth_in
  b_worth_in : Binds K a.fd_worth_in ["items", "entries"] []
  g_worth_in : mg "worth_in" = some (.ref a.f_worth_in)
  F__law_cell_at : Fun K "_law_cell_at" "_law_cell_at" s__law_cell_at a.f__law_cell_at a.fd__law_cell_at
  b__law_cell_at : Binds K a.fd__law_cell_at ["_law_script", "_law_k"] []
  g__law_cell_at : mg "_law_cell_at" = some (.ref a.f__law_cell_at)
  F__law_whole : Fun K "_law_whole" "_law_whole" s__law_whole a.f__law_whole a.fd__law_whole
  b__law_whole : Binds K a.fd__law_whole ["_law_found"] []
  g__law_whole : mg "_law_whole" = some (.ref a.f__law_whole)
  F__law_mixed : Fun K "_law_mixed" "_law_mixed" s__law_mixed a.f__law_mixed a.fd__law_mixed
  b__law_mixed : Binds K a.fd__law_mixed ["_law_cell", "_law_k"] []
  g__law_mixed : mg "_law_mixed" = some (.ref a.f__law_mixed)
  F__law_truths : Fun K "_law_truths" "_law_truths" s__law_truths a.f__law_truths a.fd__law_truths
  b__law_truths : Binds K a.fd__law_truths ["_law_cell", "_law_many", "_law_k"] []
  g__law_truths : mg "_law_truths" = some (.ref a.f__law_truths)
  F__law_items : Fun K "_law_items" "_law_items" s__law_items a.f__law_items a.fd__law_items
  b__law_items : Binds K a.fd__law_items ["_law_cells", "_law_many"] []
  g__law_items : mg "_law_items" = some (.ref a.f__law_items)
  F__law_classes : Fun K "_law_classes" "_law_classes" s__law_classes a.f__law_classes a.fd__law_classes
  b__law_classes : Binds K a.fd__law_classes ["_law_made"] []
  g__law_classes : mg "_law_classes" = some (.ref a.f__law_classes)
  F__law_pair : Fun K "_law_pair" "_law_pair" s__law_pair a.f__law_pair a.fd__law_pair
  b__law_pair : Binds K a.fd__law_pair ["_law_found"] []
  g__law_pair : mg "_law_pair" = some (.ref a.f__law_pair)
  F__law_told : Fun K "_law_told" "_law_told" s__law_told a.f__law_told a.fd__law_told
  b__law_told : Binds K a.fd__law_told ["_law_found", "_law_due"] []
  g__law_told : mg "_law_told" = some (.ref a.f__law_told)
  F__law_named : Fun K "_law_named" "_law_named" s__law_named a.f__law_named a.fd__law_named
  b__law_named : Binds K a.fd__law_named ["_law_found", "_law_due"] []
  g__law_named : mg "_law_named" = some (.ref a.f__law_named)
  F__law_looked : Fun K "_law_looked" "_law_looked" s__law_looked a.f__law_looked a.fd__law_looked
  b__law_looked : Binds K a.fd__law_looked ["_law_made", "_law_due", "_law_place"] []
  g__law_looked : mg "_law_looked" = some (.ref a.f__law_looked)
  F__law_counted : Fun K "_law_counted" "_law_counted" s__law_counted a.f__law_counted a.fd__law_counted
  b__law_counted : Binds K a.fd__law_counted ["_law_made", "_law_due", "_law_truths_here"] []
  g__law_counted : mg "_law_counted" = some (.ref a.f__law_counted)
  F_law : Fun K "law" "law" s_law a.f_law a.fd_law
  b_law : Binds K a.fd_law ["_law_script"] []
  g_law : mg "law" = some (.ref a.f_law)
  F_In___init__ : Fun K "__init__" "In.__init__" s_In___init__ a.f_In___init__ a.fd_In___init__
  b_In___init__ : Binds K a.fd_In___init__ ["self", "thing"] []
  F_In_told : Fun K "told" "In.told" s_In_told a.f_In_told a.fd_In_told
  b_In_told : Binds K a.fd_In_told ["self"] []
  F_In_named : Fun K "named" "In.named" s_In_named a.f_In_named a.fd_In_named
  b_In_named : Binds K a.fd_In_named ["self"] []
  F_In_holds : Fun K "holds" "In.holds" s_In_holds a.f_In_holds a.fd_In_holds
  b_In_holds : Binds K a.fd_In_holds ["self", "rising", "world"] []
  F_Out___init__ : Fun K "__init__" "Out.__init__" s_Out___init__ a.f_Out___init__ a.fd_Out___init__
  b_Out___init__ : Binds K a.fd_Out___init__ ["self", "thing"] []
  F_Out_told : Fun K "told" "Out.told" s_Out_told a.f_Out_told a.fd_Out_told
  b_Out_told : Binds K a.fd_Out_told ["self"] []
  F_Out_named : Fun K "named" "Out.named" s_Out_named a.f_Out_named a.fd_Out_named
  b_Out_named : Binds K a.fd_Out_named ["self"] []
  F_Out_holds : Fun K "holds" "Out.holds" s_Out_holds a.f_Out_holds a.fd_Out_holds
  b_Out_holds : Binds K a.fd_Out_holds ["self", "rising", "world"] []
  F_Least___init__ : Fun K "__init__" "Least.__init__" s_Least___init__ a.f_Least___init__ a.fd_Least___init__
  b_Least___init__ : Binds K a.fd_Least___init__ ["self", "bound", "items"] []
  F_Least_told : Fun K "told" "Least.told" s_Least_told a.f_Least_told a.fd_Least_told
  b_Least_told : Binds K a.fd_Least_told ["self"] []
  F_Least_named : Fun K "named" "Least.named" s_Least_named a.f_Least_named a.fd_Least_named
  b_Least_named : Binds K a.fd_Least_named ["self"] []
  F_Least_holds : Fun K "holds" "Least.holds" s_Least_holds a.f_Least_holds a.fd_Least_holds
  b_Least_holds : Binds K a.fd_Least_holds ["self", "rising", "world"] []
  F_Most___init__ : Fun K "__init__" "Most.__init__" s_Most___init__ a.f_Most___init__ a.fd_Most___init__
  b_Most___init__ : Binds K a.fd_Most___init__ ["self", "bound", "items"] []
  F_Most_told : Fun K "told" "Most.told" s_Most_told a.f_Most_told a.fd_Most_told
  b_Most_told : Binds K a.fd_Most_told ["self"] []
  F_Most_named : Fun K "named" "Most.named" s_Most_named a.f_Most_named a.fd_Most_named
  b_Most_named : Binds K a.fd_Most_named ["self"] []
  F_Most_holds : Fun K "holds" "Most.holds" s_Most_holds a.f_Most_holds a.fd_Most_holds
  b_Most_holds : Binds K a.fd_Most_holds ["self", "rising", "world"] []
  g_Part : mg "Part" = some (.ref a.C_Part)
  g_In : mg "In" = some (.ref a.C_In)
  cl_In : Cls K a.C_In
  mk_In : Mk K a.C_In a.f_In___init__
  na_In_thing : NoAttr K a.C_In "thing"
  m_In_told : Meth K a.C_In "told" a.f_In_told
  m_In_named : Meth K a.C_In "named" a.f_In_named
  m_In_holds : Meth K a.C_In "holds" a.f_In_holds
  g_Out : mg "Out" = some (.ref a.C_Out)
  cl_Out : Cls K a.C_Out
  mk_Out : Mk K a.C_Out a.f_Out___init__
  na_Out_thing : NoAttr K a.C_Out "thing"
  m_Out_told : Meth K a.C_Out "told" a.f_Out_told
  m_Out_named : Meth K a.C_Out "named" a.f_Out_named
  m_Out_holds : Meth K a.C_Out "holds" a.f_Out_holds
  g_Least : mg "Least" = some (.ref a.C_Least)
  cl_Least : Cls K a.C_Least
  mk_Least : Mk K a.C_Least a.f_Least___init__
  na_Least_bound : NoAttr K a.C_Least "bound"
  na_Least_pieces : NoAttr K a.C_Least "pieces"
  m_Least_told : Meth K a.C_Least "told" a.f_Least_told
  m_Least_named : Meth K a.C_Least "named" a.f_Least_named
  m_Least_holds : Meth K a.C_Least "holds" a.f_Least_holds
  g_Most : mg "Most" = some (.ref a.C_Most)
  cl_Most : Cls K a.C_Most
  mk_Most : Mk K a.C_Most a.f_Most___init__
  na_Most_bound : NoAttr K a.C_Most "bound"
  na_Most_pieces : NoAttr K a.C_Most "pieces"
  m_Most_told : Meth K a.C_Most "told" a.f_Most_told
  m_Most_named : Meth K a.C_Most "named" a.f_Most_named
  m_Most_holds : Meth K a.C_Most "holds" a.f_Most_holds
  tc_In : TyC K a.C_In
  ki_In_In : PySem.W.kitOne K (.ref a.C_In) (.ref a.C_In) = some true
  ki_In_Least : PySem.W.kitOne K (.ref a.C_In) (.ref a.C_Least) = some false
  ki_In_Most : PySem.W.kitOne K (.ref a.C_In) (.ref a.C_Most) = some false
  ki_In_Out : PySem.W.kitOne K (.ref a.C_In) (.ref a.C_Out) = some false
  ki_In_Part : PySem.W.kitOne K (.ref a.C_In) (.ref a.C_Part) = some true
  tc_Out : TyC K a.C_Out
  ki_Out_In : PySem.W.kitOne K (.ref a.C_Out) (.ref a.C_In) = some false
  ki_Out_Least : PySem.W.kitOne K (.ref a.C_Out) (.ref a.C_Least) = some false
  ki_Out_Most : PySem.W.kitOne K (.ref a.C_Out) (.ref a.C_Most) = some false
  ki_Out_Out : PySem.W.kitOne K (.ref a.C_Out) (.ref a.C_Out) = some true
  ki_Out_Part : PySem.W.kitOne K (.ref a.C_Out) (.ref a.C_Part) = some true
  tc_Least : TyC K a.C_Least
  ki_Least_In : PySem.W.kitOne K (.ref a.C_Least) (.ref a.C_In) = some false
  ki_Least_Least : PySem.W.kitOne K (.ref a.C_Least) (.ref a.C_Least) = some true
  ki_Least_Most : PySem.W.kitOne K (.ref a.C_Least) (.ref a.C_Most) = some false
  ki_Least_Out : PySem.W.kitOne K (.ref a.C_Least) (.ref a.C_Out) = some false
  ki_Least_Part : PySem.W.kitOne K (.ref a.C_Least) (.ref a.C_Part) = some true
  tc_Most : TyC K a.C_Most
  ki_Most_In : PySem.W.kitOne K (.ref a.C_Most) (.ref a.C_In) = some false
  ki_Most_Least : PySem.W.kitOne K (.ref a.C_Most) (.ref a.C_Least) = some false
  ki_Most_Most : PySem.W.kitOne K (.ref a.C_Most) (.ref a.C_Most) = some true
  ki_Most_Out : PySem.W.kitOne K (.ref a.C_Most) (.ref a.C_Out) = some false
  ki_Most_Part : PySem.W.kitOne K (.ref a.C_Most) (.ref a.C_Part) = some true
  kt_NoneType_bool : PySem.W.kitOne K (.type "NoneType") (.type "bool") = some false
  kt_bool_bool : PySem.W.kitOne K (.type "bool") (.type "bool") = some true
  kt_int_bool : PySem.W.kitOne K (.type "int") (.type "bool") = some false
  kt_str_bool : PySem.W.kitOne K (.type "str") (.type "bool") = some false
  kt_list_bool : PySem.W.kitOne K (.type "list") (.type "bool") = some false
  kt_tuple_bool : PySem.W.kitOne K (.type "tuple") (.type "bool") = some false
  kt_dict_bool : PySem.W.kitOne K (.type "dict") (.type "bool") = some false
  kt_NoneType_int : PySem.W.kitOne K (.type "NoneType") (.type "int") = some false
  kt_bool_int : PySem.W.kitOne K (.type "bool") (.type "int") = some true
  kt_int_int : PySem.W.kitOne K (.type "int") (.type "int") = some true
  kt_str_int : PySem.W.kitOne K (.type "str") (.type "int") = some false
  kt_list_int : PySem.W.kitOne K (.type "list") (.type "int") = some false
  kt_tuple_int : PySem.W.kitOne K (.type "tuple") (.type "int") = some false
  kt_dict_int : PySem.W.kitOne K (.type "dict") (.type "int") = some false
  kt_NoneType_list : PySem.W.kitOne K (.type "NoneType") (.type "list") = some false
  kt_bool_list : PySem.W.kitOne K (.type "bool") (.type "list") = some false
  kt_int_list : PySem.W.kitOne K (.type "int") (.type "list") = some false
  kt_str_list : PySem.W.kitOne K (.type "str") (.type "list") = some false
  kt_list_list : PySem.W.kitOne K (.type "list") (.type "list") = some true
  kt_tuple_list : PySem.W.kitOne K (.type "tuple") (.type "list") = some false
  kt_dict_list : PySem.W.kitOne K (.type "dict") (.type "list") = some false
  kt_NoneType_str : PySem.W.kitOne K (.type "NoneType") (.type "str") = some false
  kt_bool_str : PySem.W.kitOne K (.type "bool") (.type "str") = some false
  kt_int_str : PySem.W.kitOne K (.type "int") (.type "str") = some false
  kt_str_str : PySem.W.kitOne K (.type "str") (.type "str") = some true
  kt_list_str : PySem.W.kitOne K (.type "list") (.type "str") = some false
  kt_tuple_str : PySem.W.kitOne K (.type "tuple") (.type "str") = some false
  kt_dict_str : PySem.W.kitOne K (.type "dict") (.type "str") = some false
  kt_NoneType_tuple : PySem.W.kitOne K (.type "NoneType") (.type "tuple") = some false
  kt_bool_tuple : PySem.W.kitOne K (.type "bool") (.type "tuple") = some false
  kt_int_tuple : PySem.W.kitOne K (.type "int") (.type "tuple") = some false
  kt_str_tuple : PySem.W.kitOne K (.type "str") (.type "tuple") = some false
  kt_list_tuple : PySem.W.kitOne K (.type "list") (.type "tuple") = some false
  kt_tuple_tuple : PySem.W.kitOne K (.type "tuple") (.type "tuple") = some true
  kt_dict_tuple : PySem.W.kitOne K (.type "dict") (.type "tuple") = some false
  z_bool : mg "bool" = none
  z_int : mg "int" = none
  z_isinstance : mg "isinstance" = none
  z_len : mg "len" = none
  z_list : mg "list" = none
  z_range : mg "range" = none
  z_set : mg "set" = none
  z_sorted : mg "sorted" = none
  z_str : mg "str" = none
  z_sum : mg "sum" = none
  z_tuple : mg "tuple" = none
set_option genInjectivity true
set_option genSizeOf true
section
variable {P : Program} {w : World} {K : PySem.W.Frag} {mg : Str → Option Value} {base : Heap}
noncomputable def cl (a : Wa) : Str → Addr := fun s => if s = "In" then a.C_In else if s = "Out" then a.C_Out else if s = "Least" then a.C_Least else if s = "Most" then a.C_Most else 0
theorem cl_eq_In {a : Wa} : cl a "In" = a.C_In := by unfold cl; rw [if_pos rfl]
theorem cl_is_In {a : Wa} (W : Wd K mg a) : Cls K (cl a "In") := by rw [cl_eq_In]; exact W.cl_In
theorem mk_is_In {a : Wa} (W : Wd K mg a) : Mk K (cl a "In") a.f_In___init__ := by rw [cl_eq_In]; exact W.mk_In
theorem gc_is_In {a : Wa} (W : Wd K mg a) : mg "In" = some (.ref (cl a "In")) := by rw [cl_eq_In]; exact W.g_In
theorem na_is_In_thing {a : Wa} (W : Wd K mg a) : NoAttr K (cl a "In") "thing" := by rw [cl_eq_In]; exact W.na_In_thing
theorem me_is_In_told {a : Wa} (W : Wd K mg a) : Meth K (cl a "In") "told" a.f_In_told := by rw [cl_eq_In]; exact W.m_In_told
theorem me_is_In_named {a : Wa} (W : Wd K mg a) : Meth K (cl a "In") "named" a.f_In_named := by rw [cl_eq_In]; exact W.m_In_named
theorem me_is_In_holds {a : Wa} (W : Wd K mg a) : Meth K (cl a "In") "holds" a.f_In_holds := by rw [cl_eq_In]; exact W.m_In_holds
theorem cl_eq_Out {a : Wa} : cl a "Out" = a.C_Out := by unfold cl; rw [if_neg (by decide +kernel)]; rw [if_pos rfl]
theorem cl_is_Out {a : Wa} (W : Wd K mg a) : Cls K (cl a "Out") := by rw [cl_eq_Out]; exact W.cl_Out
theorem mk_is_Out {a : Wa} (W : Wd K mg a) : Mk K (cl a "Out") a.f_Out___init__ := by rw [cl_eq_Out]; exact W.mk_Out
theorem gc_is_Out {a : Wa} (W : Wd K mg a) : mg "Out" = some (.ref (cl a "Out")) := by rw [cl_eq_Out]; exact W.g_Out
theorem na_is_Out_thing {a : Wa} (W : Wd K mg a) : NoAttr K (cl a "Out") "thing" := by rw [cl_eq_Out]; exact W.na_Out_thing
theorem me_is_Out_told {a : Wa} (W : Wd K mg a) : Meth K (cl a "Out") "told" a.f_Out_told := by rw [cl_eq_Out]; exact W.m_Out_told
theorem me_is_Out_named {a : Wa} (W : Wd K mg a) : Meth K (cl a "Out") "named" a.f_Out_named := by rw [cl_eq_Out]; exact W.m_Out_named
theorem me_is_Out_holds {a : Wa} (W : Wd K mg a) : Meth K (cl a "Out") "holds" a.f_Out_holds := by rw [cl_eq_Out]; exact W.m_Out_holds
theorem cl_eq_Least {a : Wa} : cl a "Least" = a.C_Least := by unfold cl; rw [if_neg (by decide +kernel)]; rw [if_neg (by decide +kernel)]; rw [if_pos rfl]
theorem cl_is_Least {a : Wa} (W : Wd K mg a) : Cls K (cl a "Least") := by rw [cl_eq_Least]; exact W.cl_Least
theorem mk_is_Least {a : Wa} (W : Wd K mg a) : Mk K (cl a "Least") a.f_Least___init__ := by rw [cl_eq_Least]; exact W.mk_Least
theorem gc_is_Least {a : Wa} (W : Wd K mg a) : mg "Least" = some (.ref (cl a "Least")) := by rw [cl_eq_Least]; exact W.g_Least
theorem na_is_Least_bound {a : Wa} (W : Wd K mg a) : NoAttr K (cl a "Least") "bound" := by rw [cl_eq_Least]; exact W.na_Least_bound
theorem na_is_Least_pieces {a : Wa} (W : Wd K mg a) : NoAttr K (cl a "Least") "pieces" := by rw [cl_eq_Least]; exact W.na_Least_pieces
theorem me_is_Least_told {a : Wa} (W : Wd K mg a) : Meth K (cl a "Least") "told" a.f_Least_told := by rw [cl_eq_Least]; exact W.m_Least_told
theorem me_is_Least_named {a : Wa} (W : Wd K mg a) : Meth K (cl a "Least") "named" a.f_Least_named := by rw [cl_eq_Least]; exact W.m_Least_named
theorem me_is_Least_holds {a : Wa} (W : Wd K mg a) : Meth K (cl a "Least") "holds" a.f_Least_holds := by rw [cl_eq_Least]; exact W.m_Least_holds
theorem cl_eq_Most {a : Wa} : cl a "Most" = a.C_Most := by unfold cl; rw [if_neg (by decide +kernel)]; rw [if_neg (by decide +kernel)]; rw [if_neg (by decide +kernel)]; rw [if_pos rfl]
theorem cl_is_Most {a : Wa} (W : Wd K mg a) : Cls K (cl a "Most") := by rw [cl_eq_Most]; exact W.cl_Most
theorem mk_is_Most {a : Wa} (W : Wd K mg a) : Mk K (cl a "Most") a.f_Most___init__ := by rw [cl_eq_Most]; exact W.mk_Most
theorem gc_is_Most {a : Wa} (W : Wd K mg a) : mg "Most" = some (.ref (cl a "Most")) := by rw [cl_eq_Most]; exact W.g_Most
theorem na_is_Most_bound {a : Wa} (W : Wd K mg a) : NoAttr K (cl a "Most") "bound" := by rw [cl_eq_Most]; exact W.na_Most_bound
theorem na_is_Most_pieces {a : Wa} (W : Wd K mg a) : NoAttr K (cl a "Most") "pieces" := by rw [cl_eq_Most]; exact W.na_Most_pieces
theorem me_is_Most_told {a : Wa} (W : Wd K mg a) : Meth K (cl a "Most") "told" a.f_Most_told := by rw [cl_eq_Most]; exact W.m_Most_told
theorem me_is_Most_named {a : Wa} (W : Wd K mg a) : Meth K (cl a "Most") "named" a.f_Most_named := by rw [cl_eq_Most]; exact W.m_Most_named
theorem me_is_Most_holds {a : Wa} (W : Wd K mg a) : Meth K (cl a "Most") "holds" a.f_Most_holds := by rw [cl_eq_Most]; exact W.m_Most_holds
theorem isC_In {a : Wa} (W : Wd K mg a) : IsCs K (cl a) a.C_In [("In", true), ("Out", false), ("Least", false), ("Most", false)] := ⟨⟨cl_is_In W, by rw [cl_eq_In]; exact W.tc_In, by rw [cl_eq_In]; exact W.ki_In_In⟩, ⟨cl_is_Out W, by rw [cl_eq_Out]; exact W.tc_Out, by rw [cl_eq_Out]; exact W.ki_Out_In⟩, ⟨cl_is_Least W, by rw [cl_eq_Least]; exact W.tc_Least, by rw [cl_eq_Least]; exact W.ki_Least_In⟩, ⟨cl_is_Most W, by rw [cl_eq_Most]; exact W.tc_Most, by rw [cl_eq_Most]; exact W.ki_Most_In⟩, trivial⟩
theorem isC_Least {a : Wa} (W : Wd K mg a) : IsCs K (cl a) a.C_Least [("In", false), ("Out", false), ("Least", true), ("Most", false)] := ⟨⟨cl_is_In W, by rw [cl_eq_In]; exact W.tc_In, by rw [cl_eq_In]; exact W.ki_In_Least⟩, ⟨cl_is_Out W, by rw [cl_eq_Out]; exact W.tc_Out, by rw [cl_eq_Out]; exact W.ki_Out_Least⟩, ⟨cl_is_Least W, by rw [cl_eq_Least]; exact W.tc_Least, by rw [cl_eq_Least]; exact W.ki_Least_Least⟩, ⟨cl_is_Most W, by rw [cl_eq_Most]; exact W.tc_Most, by rw [cl_eq_Most]; exact W.ki_Most_Least⟩, trivial⟩
theorem isC_Most {a : Wa} (W : Wd K mg a) : IsCs K (cl a) a.C_Most [("In", false), ("Out", false), ("Least", false), ("Most", true)] := ⟨⟨cl_is_In W, by rw [cl_eq_In]; exact W.tc_In, by rw [cl_eq_In]; exact W.ki_In_Most⟩, ⟨cl_is_Out W, by rw [cl_eq_Out]; exact W.tc_Out, by rw [cl_eq_Out]; exact W.ki_Out_Most⟩, ⟨cl_is_Least W, by rw [cl_eq_Least]; exact W.tc_Least, by rw [cl_eq_Least]; exact W.ki_Least_Most⟩, ⟨cl_is_Most W, by rw [cl_eq_Most]; exact W.tc_Most, by rw [cl_eq_Most]; exact W.ki_Most_Most⟩, trivial⟩
theorem isC_Out {a : Wa} (W : Wd K mg a) : IsCs K (cl a) a.C_Out [("In", false), ("Out", true), ("Least", false), ("Most", false)] := ⟨⟨cl_is_In W, by rw [cl_eq_In]; exact W.tc_In, by rw [cl_eq_In]; exact W.ki_In_Out⟩, ⟨cl_is_Out W, by rw [cl_eq_Out]; exact W.tc_Out, by rw [cl_eq_Out]; exact W.ki_Out_Out⟩, ⟨cl_is_Least W, by rw [cl_eq_Least]; exact W.tc_Least, by rw [cl_eq_Least]; exact W.ki_Least_Out⟩, ⟨cl_is_Most W, by rw [cl_eq_Most]; exact W.tc_Most, by rw [cl_eq_Most]; exact W.ki_Most_Out⟩, trivial⟩
theorem isC_Part {a : Wa} (W : Wd K mg a) : IsCs K (cl a) a.C_Part [("In", true), ("Out", true), ("Least", true), ("Most", true)] := ⟨⟨cl_is_In W, by rw [cl_eq_In]; exact W.tc_In, by rw [cl_eq_In]; exact W.ki_In_Part⟩, ⟨cl_is_Out W, by rw [cl_eq_Out]; exact W.tc_Out, by rw [cl_eq_Out]; exact W.ki_Out_Part⟩, ⟨cl_is_Least W, by rw [cl_eq_Least]; exact W.tc_Least, by rw [cl_eq_Least]; exact W.ki_Least_Part⟩, ⟨cl_is_Most W, by rw [cl_eq_Most]; exact W.tc_Most, by rw [cl_eq_Most]; exact W.ki_Most_Part⟩, trivial⟩
theorem is_bool {a : Wa} (W : Wd K mg a) : IsTyOk K "bool" := fun t ht => by
  simp only [List.mem_cons, List.not_mem_nil, or_false] at ht
  rcases ht with rfl | rfl | rfl | rfl | rfl | rfl | rfl
  · exact W.kt_NoneType_bool
  · exact W.kt_bool_bool
  · exact W.kt_int_bool
  · exact W.kt_str_bool
  · exact W.kt_list_bool
  · exact W.kt_tuple_bool
  · exact W.kt_dict_bool

theorem is_int {a : Wa} (W : Wd K mg a) : IsTyOk K "int" := fun t ht => by
  simp only [List.mem_cons, List.not_mem_nil, or_false] at ht
  rcases ht with rfl | rfl | rfl | rfl | rfl | rfl | rfl
  · exact W.kt_NoneType_int
  · exact W.kt_bool_int
  · exact W.kt_int_int
  · exact W.kt_str_int
  · exact W.kt_list_int
  · exact W.kt_tuple_int
  · exact W.kt_dict_int

theorem is_list {a : Wa} (W : Wd K mg a) : IsTyOk K "list" := fun t ht => by
  simp only [List.mem_cons, List.not_mem_nil, or_false] at ht
  rcases ht with rfl | rfl | rfl | rfl | rfl | rfl | rfl
  · exact W.kt_NoneType_list
  · exact W.kt_bool_list
  · exact W.kt_int_list
  · exact W.kt_str_list
  · exact W.kt_list_list
  · exact W.kt_tuple_list
  · exact W.kt_dict_list

theorem is_str {a : Wa} (W : Wd K mg a) : IsTyOk K "str" := fun t ht => by
  simp only [List.mem_cons, List.not_mem_nil, or_false] at ht
  rcases ht with rfl | rfl | rfl | rfl | rfl | rfl | rfl
  · exact W.kt_NoneType_str
  · exact W.kt_bool_str
  · exact W.kt_int_str
  · exact W.kt_str_str
  · exact W.kt_list_str
  · exact W.kt_tuple_str
  · exact W.kt_dict_str

theorem is_tuple {a : Wa} (W : Wd K mg a) : IsTyOk K "tuple" := fun t ht => by
  simp only [List.mem_cons, List.not_mem_nil, or_false] at ht
  rcases ht with rfl | rfl | rfl | rfl | rfl | rfl | rfl
  · exact W.kt_NoneType_tuple
  · exact W.kt_bool_tuple
  · exact W.kt_int_tuple
  · exact W.kt_str_tuple
  · exact W.kt_list_tuple
  · exact W.kt_tuple_tuple
  · exact W.kt_dict_tuple

end
noncomputable def z_In (as : List D) : Option (List Str × List O) := runIZ 2 [("thing", (zFz (mVar 1)))] as
noncomputable def z_Least (as : List D) : Option (List Str × List O) := runIZ 3 [("bound", (zFz (mVar 1))), ("pieces", (zLst (mVarC 2)))] as
noncomputable def z_Most (as : List D) : Option (List Str × List O) := runIZ 3 [("bound", (zFz (mVar 1))), ("pieces", (zLst (mVarC 2)))] as
noncomputable def z_Out (as : List D) : Option (List Str × List O) := runIZ 2 [("thing", (zFz (mVar 1)))] as
noncomputable def b__law_cell_at : List Sl → Option Fl :=
  (mSeq (mIfS (mB (m2 dLt (mVar 1) (mCall lenD (mCons (mVar 0) (fun _ => some []))))) (mRet (mIx (mVarC 0) (mVar 1))) mNext)
    (mRet (fun _ => some (.int 0))))
noncomputable def m__law_cell_at (as : List D) : Option D := runD 2 b__law_cell_at as
noncomputable def b_In_holds : List Sl → Option Fl :=
  (mRet (mIx (mVarC 1) (mFld "In" "thing" (mVar 0))))
noncomputable def m_In_holds (as : List D) : Option D := runD 3 b_In_holds as
noncomputable def b_worth_in : List Sl → Option Fl :=
  (mRet (mCall sumD (mCons (mLst (mComp 2 [1] (mSeqI (mVar 0)) (gTupD (gsCons (gSet 0) (gsCons (gSet 1) gsNil))) (mB (m2 dIs (mIx (mVarC 2) (mVar 0)) (fun _ => some (.bl true)))) (mVar 1))) (fun _ => some []))))
noncomputable def m_worth_in (as : List D) : Option D := runD 2 b_worth_in as
noncomputable def b_Least_holds : List Sl → Option Fl :=
  (mRet (m2 dGe (mCall m_worth_in (mCons (mFld "Least" "pieces" (mVar 0)) (mCons (mVar 1) (fun _ => some [])))) (mFld "Least" "bound" (mVar 0))))
noncomputable def m_Least_holds (as : List D) : Option D := runD 3 b_Least_holds as
noncomputable def b_Most_holds : List Sl → Option Fl :=
  (mRet (m2 dLe (mCall m_worth_in (mCons (mFld "Most" "pieces" (mVar 0)) (mCons (mVar 2) (fun _ => some [])))) (mFld "Most" "bound" (mVar 0))))
noncomputable def m_Most_holds (as : List D) : Option D := runD 3 b_Most_holds as
noncomputable def b_Out_holds : List Sl → Option Fl :=
  (mRet (vNot (mIx (mVarC 2) (mFld "Out" "thing" (mVar 0)))))
noncomputable def m_Out_holds (as : List D) : Option D := runD 3 b_Out_holds as
noncomputable def b__law_counted : List Sl → Option Fl :=
  (mSeq (mSet 3 (mLst (mComp 1 [] (mSeqI (mVar 2)) (gSet 0) (fun _ => some true) (fun _ => some (.bl false)))))
    (mSeq (mIfS (mB (m2 dEq (mIx (mVarC 1) (fun _ => some (.int 0))) (fun _ => some (.str "least")))) (mSeq (mSet 4 (mOrE (mMeth "In" "holds" m_In_holds (mVar 0) (mCons (mLst (mVarC 2)) (mCons (mVar 3) (fun _ => some [])))) (mOrE (mMeth "Out" "holds" m_Out_holds (mVar 0) (mCons (mLst (mVarC 2)) (mCons (mVar 3) (fun _ => some [])))) (mOrE (mMeth "Least" "holds" m_Least_holds (mVar 0) (mCons (mLst (mVarC 2)) (mCons (mVar 3) (fun _ => some [])))) (mMeth "Most" "holds" m_Most_holds (mVar 0) (mCons (mLst (mVarC 2)) (mCons (mVar 3) (fun _ => some []))))))))
    (mRet (m2 dEq (mVar 4) (m2 dGe (mCall sumD (mCons (mLst (mComp 2 [2] (mSeqI (mIx (mVarC 1) (fun _ => some (.int 2)))) (gTupD (gsCons (gSet 0) (gsCons (gSet 1) gsNil))) (mTru (mIx (mVarC 2) (mVar 0))) (mVar 1))) (fun _ => some []))) (mIx (mVarC 1) (fun _ => some (.int 1))))))) mNext)
    (mSeq (mSet 4 (mOrE (mMeth "In" "holds" m_In_holds (mVar 0) (mCons (mVar 3) (mCons (mLst (mVarC 2)) (fun _ => some [])))) (mOrE (mMeth "Out" "holds" m_Out_holds (mVar 0) (mCons (mVar 3) (mCons (mLst (mVarC 2)) (fun _ => some [])))) (mOrE (mMeth "Least" "holds" m_Least_holds (mVar 0) (mCons (mVar 3) (mCons (mLst (mVarC 2)) (fun _ => some [])))) (mMeth "Most" "holds" m_Most_holds (mVar 0) (mCons (mVar 3) (mCons (mLst (mVarC 2)) (fun _ => some []))))))))
    (mRet (m2 dEq (mVar 4) (m2 dLe (mCall sumD (mCons (mLst (mComp 2 [2] (mSeqI (mIx (mVarC 1) (fun _ => some (.int 2)))) (gTupD (gsCons (gSet 0) (gsCons (gSet 1) gsNil))) (mTru (mIx (mVarC 2) (mVar 0))) (mVar 1))) (fun _ => some []))) (mIx (mVarC 1) (fun _ => some (.int 1)))))))))
noncomputable def m__law_counted (as : List D) : Option D := runD 5 b__law_counted as
noncomputable def b__law_mixed : List Sl → Option Fl :=
  (mSeq (mSet 2 (mIx (mCons (fun _ => some (.int 742938285)) (mCons (fun _ => some (.int 950706377)) (mCons (fun _ => some (.int 1226874159)) (mCons (fun _ => some (.int 1343714439)) (mCons (fun _ => some (.int 630360017)) (mCons (fun _ => some (.int 1389796131)) (fun _ => some []))))))) (mVar 1)))
    (mSeq (mSet 3 (mIx (mCons (fun _ => some (.int 2147483647)) (mCons (fun _ => some (.int 2147483629)) (mCons (fun _ => some (.int 2147483587)) (mCons (fun _ => some (.int 2147483579)) (mCons (fun _ => some (.int 2147483563)) (mCons (fun _ => some (.int 2147483549)) (fun _ => some []))))))) (mVar 1)))
    (mRet (m2 dMod (m2 dMul (m2 dAdd (m2 dMod (mVar 0) (m2 dPow (fun _ => some (.int 10)) (fun _ => some (.int 18)))) (fun _ => some (.int 1))) (mVar 2)) (mVar 3)))))
noncomputable def m__law_mixed (as : List D) : Option D := runD 4 b__law_mixed as
noncomputable def b__law_items : List Sl → Option Fl :=
  (mSeq (mSetO 2 (fun _ => some []))
    (mSeq (mFor (mSeqI (mVar 0)) (gSet 3) (mSeq (mSet 4 (mCall m__law_mixed (mCons (mVar 3) (mCons (fun _ => some (.int 0)) (fun _ => some [])))))
    (mSeq (mSet 5 (m2 dMod (m2 dDiv (mVar 4) (mVar 1)) (fun _ => some (.int 4))))
    (mSeq (mIfS (mB (m2 dEq (m2 dMod (m2 dDiv (mVar 4) (m2 dMul (fun _ => some (.int 4)) (mVar 1))) (fun _ => some (.int 4))) (fun _ => some (.int 1)))) (mSet 5 (m2 dMod (mVar 3) (m2 dPow (fun _ => some (.int 10)) (fun _ => some (.int 60))))) mNext)
    (mApp 2 (mTup (mCons (m2 dMod (mVar 4) (mVar 1)) (mCons (mVar 5) (fun _ => some [])))))))))
    (mRetV 2)))
noncomputable def m__law_items (as : List D) : Option D := runD 6 b__law_items as
noncomputable def b_In_named : List Sl → Option Fl :=
  (mRetO (mCons (mFld "In" "thing" (mVar 0)) (fun _ => some [])))
noncomputable def t_In_named (as : List D) : Option O := runT 1 b_In_named as
noncomputable def b_In_told : List Sl → Option Fl :=
  (zRet (zTup (mCons (fun _ => some (.str "in")) (fun _ => some [])) (zFz (mFld "In" "thing" (mVar 0)))))
noncomputable def t_In_told (as : List D) : Option O := runT 1 b_In_told as
noncomputable def b_things_of : List Sl → Option Fl :=
  (mRetO (mSrt (mLst (mComp 2 [] (mSeqI (mVar 0)) (gTupD (gsCons (gSet 0) (gsCons (gSet 1) gsNil))) (fun _ => some true) (mVar 0)))))
noncomputable def o_things_of (as : List D) : Option (List D) := runO 1 b_things_of as
noncomputable def b_Least_named : List Sl → Option Fl :=
  (mRetO (mCallO o_things_of (mCons (mFld "Least" "pieces" (mVar 0)) (fun _ => some []))))
noncomputable def t_Least_named (as : List D) : Option O := runT 1 b_Least_named as
noncomputable def b_Least_told : List Sl → Option Fl :=
  (zRet (zTup (mCons (fun _ => some (.str "least")) (mCons (mFld "Least" "bound" (mVar 0)) (fun _ => some []))) (zLst (mSeqI (mFld "Least" "pieces" (mVar 0))))))
noncomputable def t_Least_told (as : List D) : Option O := runT 1 b_Least_told as
noncomputable def b_Most_named : List Sl → Option Fl :=
  (mRetO (mCallO o_things_of (mCons (mFld "Most" "pieces" (mVar 0)) (fun _ => some []))))
noncomputable def t_Most_named (as : List D) : Option O := runT 1 b_Most_named as
noncomputable def b_Most_told : List Sl → Option Fl :=
  (zRet (zTup (mCons (fun _ => some (.str "most")) (mCons (mFld "Most" "bound" (mVar 0)) (fun _ => some []))) (zLst (mSeqI (mFld "Most" "pieces" (mVar 0))))))
noncomputable def t_Most_told (as : List D) : Option O := runT 1 b_Most_told as
noncomputable def b_Out_named : List Sl → Option Fl :=
  (mRetO (mCons (mFld "Out" "thing" (mVar 0)) (fun _ => some [])))
noncomputable def t_Out_named (as : List D) : Option O := runT 1 b_Out_named as
noncomputable def b_Out_told : List Sl → Option Fl :=
  (zRet (zTup (mCons (fun _ => some (.str "out")) (fun _ => some [])) (zFz (mFld "Out" "thing" (mVar 0)))))
noncomputable def t_Out_told (as : List D) : Option O := runT 1 b_Out_told as
noncomputable def b__law_classes : List Sl → Option Fl :=
  (mRetO (mCons (mIsC [("In", true), ("Out", true), ("Least", true), ("Most", true)] (mVar 0)) (mCons (mIsC [("In", true), ("Out", false), ("Least", false), ("Most", false)] (mVar 0)) (mCons (mIsC [("In", false), ("Out", true), ("Least", false), ("Most", false)] (mVar 0)) (mCons (mIsC [("In", false), ("Out", false), ("Least", true), ("Most", false)] (mVar 0)) (mCons (mIsC [("In", false), ("Out", false), ("Least", false), ("Most", true)] (mVar 0)) (fun _ => some [])))))))
noncomputable def m__law_classes (as : List D) : Option D := runD 1 b__law_classes as
noncomputable def b__law_whole : List Sl → Option Fl :=
  (mRet (vAnd (mIsT "int" (mVar 0)) (vNot (mIsT "bool" (mVar 0)))))
noncomputable def m__law_whole (as : List D) : Option D := runD 1 b__law_whole as
noncomputable def b__law_named : List Sl → Option Fl :=
  (mSeq (mIfS (mOr (mNot (mTru (mIsT "list" (mVar 0)))) (mB (m2 dNe (mLst (mComp 1 [] (mSeqI (mVar 0)) (gSet 0) (mNot (mTru (mCall m__law_whole (mCons (mVar 0) (fun _ => some []))))) (mVar 0))) (mLst (fun _ => some []))))) (mRet (fun _ => some (.bl false))) mNext)
    (mSeq (mIfS (mB (m2 dEq (mCall lenD (mCons (mVar 1) (fun _ => some []))) (fun _ => some (.int 3)))) (mRet (m2 dEq (mVar 0) (mLst (mSrt (mLst (mComp 2 [] (mSeqI (mIx (mVarC 1) (fun _ => some (.int 2)))) (gTupD (gsCons (gSet 0) (gsCons (gSet 1) gsNil))) (fun _ => some true) (mVar 0))))))) mNext)
    (mRet (m2 dEq (mVar 0) (mLst (mCons (mIx (mVarC 1) (fun _ => some (.int 1))) (fun _ => some [])))))))
noncomputable def m__law_named (as : List D) : Option D := runD 2 b__law_named as
noncomputable def b__law_pair : List Sl → Option Fl :=
  (mRet (vAnd (mIsT "tuple" (mVar 0)) (vAnd (m2 dEq (mCall lenD (mCons (mVar 0) (fun _ => some []))) (fun _ => some (.int 2))) (vAnd (mCall m__law_whole (mCons (mIx (mVarC 0) (fun _ => some (.int 0))) (fun _ => some []))) (mCall m__law_whole (mCons (mIx (mVarC 0) (fun _ => some (.int 1))) (fun _ => some [])))))))
noncomputable def m__law_pair (as : List D) : Option D := runD 1 b__law_pair as
noncomputable def b__law_told : List Sl → Option Fl :=
  (mSeq (mIfS (mOr (mNot (mTru (mIsT "tuple" (mVar 0)))) (mB (m2 dNe (mCall lenD (mCons (mVar 0) (fun _ => some []))) (mCall lenD (mCons (mVar 1) (fun _ => some [])))))) (mRet (fun _ => some (.bl false))) mNext)
    (mSeq (mIfS (mOr (mNot (mTru (mIsT "str" (mIx (mVarC 0) (fun _ => some (.int 0)))))) (mNot (mTru (mCall m__law_whole (mCons (mIx (mVarC 0) (fun _ => some (.int 1))) (fun _ => some [])))))) (mRet (fun _ => some (.bl false))) mNext)
    (mSeq (mIfS (mB (m2 dEq (mCall lenD (mCons (mVar 1) (fun _ => some []))) (fun _ => some (.int 3)))) (mIfS (mOr (mNot (mTru (mIsT "list" (mIx (mVarC 0) (fun _ => some (.int 2)))))) (mB (m2 dNe (mLst (mComp 1 [] (mSeqI (mIx (mVarC 0) (fun _ => some (.int 2)))) (gSet 0) (mNot (mTru (mCall m__law_pair (mCons (mVar 0) (fun _ => some []))))) (mVar 0))) (mLst (fun _ => some []))))) (mRet (fun _ => some (.bl false))) mNext) mNext)
    (mRet (m2 dEq (mVar 0) (mVar 1))))))
noncomputable def m__law_told (as : List D) : Option D := runD 2 b__law_told as
noncomputable def b__law_looked : List Sl → Option Fl :=
  (mSeq (mIfS (mB (m2 dNe (mCall m__law_classes (mCons (mVar 0) (fun _ => some []))) (mLst (mCat (mLst (mCons (fun _ => some (.bl true)) (fun _ => some []))) (mLst (mComp 1 [2] (mRng (mCons (fun _ => some (.int 4)) (fun _ => some []))) (gSet 0) (fun _ => some true) (m2 dEq (mVar 0) (mVar 1)))))))) (mRet (fun _ => some (.bl false))) mNext)
    (mSeq (zSet 3 (zOr (zMeth "In" "told" t_In_told (mVar 0)) (zOr (zMeth "Out" "told" t_Out_told (mVar 0)) (zOr (zMeth "Least" "told" t_Least_told (mVar 0)) (zMeth "Most" "told" t_Most_told (mVar 0))))))
    (mSeq (zSet 4 (zOr (zMeth "In" "told" t_In_told (mVar 0)) (zOr (zMeth "Out" "told" t_Out_told (mVar 0)) (zOr (zMeth "Least" "told" t_Least_told (mVar 0)) (zMeth "Most" "told" t_Most_told (mVar 0))))))
    (mSeq (zSet 5 (zOr (zMeth "In" "named" t_In_named (mVar 0)) (zOr (zMeth "Out" "named" t_Out_named (mVar 0)) (zOr (zMeth "Least" "named" t_Least_named (mVar 0)) (zMeth "Most" "named" t_Most_named (mVar 0))))))
    (mSeq (mIfS (mOr (mNot (mTru (mCallS m__law_told (mCons (mVarB 3) (mCons (mVar 1) (fun _ => some [])))))) (mOr (mNot (mTru (mCallS m__law_told (mCons (mVarB 4) (mCons (mVar 1) (fun _ => some [])))))) (mNot (mTru (mCallS m__law_named (mCons (mVarB 5) (mCons (mVar 1) (fun _ => some [])))))))) (mRet (fun _ => some (.bl false))) mNext)
    (mSeq (zApp 5 (zFz (m1 dNeg (fun _ => some (.int 1)))))
    (mSeq (mIfS (mB (m2 dEq (mCall lenD (mCons (mVar 1) (fun _ => some []))) (fun _ => some (.int 3)))) (zAppAt 4 2 (mTup (mCons (fun _ => some (.int 0)) (mCons (fun _ => some (.int 7)) (fun _ => some []))))) mNext)
    (mRet (vAnd (mCallS m__law_told (mCons (mVarB 3) (mCons (mVar 1) (fun _ => some [])))) (vAnd (mCallS m__law_told (mCons (zB (zOr (zMeth "In" "told" t_In_told (mVar 0)) (zOr (zMeth "Out" "told" t_Out_told (mVar 0)) (zOr (zMeth "Least" "told" t_Least_told (mVar 0)) (zMeth "Most" "told" t_Most_told (mVar 0)))))) (mCons (mVar 1) (fun _ => some [])))) (mCallS m__law_named (mCons (zB (zOr (zMeth "In" "named" t_In_named (mVar 0)) (zOr (zMeth "Out" "named" t_Out_named (mVar 0)) (zOr (zMeth "Least" "named" t_Least_named (mVar 0)) (zMeth "Most" "named" t_Most_named (mVar 0)))))) (mCons (mVar 1) (fun _ => some []))))))))))))))
noncomputable def m__law_looked (as : List D) : Option D := runD 6 b__law_looked as
noncomputable def b__law_truths : List Sl → Option Fl :=
  (mSeq (mSet 3 (mIx (mCons (fun _ => some (.int 1234567890123456789)) (mCons (fun _ => some (.int 1098765432109876543)) (mCons (fun _ => some (.int 2001002003004005007)) (mCons (fun _ => some (.int 1618033988749894849)) (fun _ => some []))))) (mVar 2)))
    (mSeq (mSet 4 (m2 dMod (m2 dMul (m2 dAdd (m2 dMod (mVar 0) (m2 dPow (fun _ => some (.int 10)) (fun _ => some (.int 18)))) (fun _ => some (.int 1))) (mVar 3)) (fun _ => some (.int 2305843009213693951))))
    (mRetO (mComp 1 [4] (mRng (mCons (mVar 1) (fun _ => some []))) (gSet 0) (fun _ => some true) (m2 dEq (m2 dAndB (m2 dShr (mVar 1) (mVar 0)) (fun _ => some (.int 1))) (fun _ => some (.int 1)))))))
noncomputable def m__law_truths (as : List D) : Option D := runD 5 b__law_truths as
noncomputable def b_part_of : List Sl → Option Fl :=
  (mSeq (mSet 1 (mIx (mVarC 0) (fun _ => some (.int 0))))
    (mSeq (mIfS (mB (m2 dEq (mVar 1) (fun _ => some (.str "in")))) (zRet (zMake "In" z_In (mCons (mIx (mVarC 0) (fun _ => some (.int 1))) (fun _ => some [])))) mNext)
    (mSeq (mIfS (mB (m2 dEq (mVar 1) (fun _ => some (.str "out")))) (zRet (zMake "Out" z_Out (mCons (mIx (mVarC 0) (fun _ => some (.int 1))) (fun _ => some [])))) mNext)
    (mSeq (mIfS (mB (m2 dEq (mVar 1) (fun _ => some (.str "least")))) (zRet (zMake "Least" z_Least (mCons (mIx (mVarC 0) (fun _ => some (.int 1))) (mCons (mIx (mVarC 0) (fun _ => some (.int 2))) (fun _ => some []))))) mNext)
    (zRet (zMake "Most" z_Most (mCons (mIx (mVarC 0) (fun _ => some (.int 1))) (mCons (mIx (mVarC 0) (fun _ => some (.int 2))) (fun _ => some [])))))))))
noncomputable def t_part_of (as : List D) : Option O := runT 2 b_part_of as
noncomputable def b_law : List Sl → Option Fl :=
  (mSeq (mSet 1 (mCall m__law_mixed (mCons (mCall m__law_cell_at (mCons (mVar 0) (mCons (fun _ => some (.int 0)) (fun _ => some [])))) (mCons (fun _ => some (.int 1)) (fun _ => some [])))))
    (mSeq (mSet 2 (m2 dAdd (fun _ => some (.int 1)) (m2 dMod (mVar 1) (fun _ => some (.int 60)))))
    (mSeq (mSet 3 (mCall m__law_items (mCons (mLst (mSl (mVar 0) (mPt (fun _ => some (.int 2))) (mPt (fun _ => some (.int 62))))) (mCons (mVar 2) (fun _ => some [])))))
    (mSeq (mSet 4 (mCall m__law_truths (mCons (mCall m__law_cell_at (mCons (mVar 0) (mCons (fun _ => some (.int 1)) (fun _ => some [])))) (mCons (mVar 2) (mCons (fun _ => some (.int 0)) (fun _ => some []))))))
    (mSeq (mSet 6 (mCall sumD (mCons (mLst (mComp 2 [] (mSeqI (mVar 3)) (gTupD (gsCons (gSet 0) (gsCons (gSet 1) gsNil))) (fun _ => some true) (mVar 1))) (fun _ => some []))))
    (mSeq (mSet 7 (m2 dMod (mCall m__law_cell_at (mCons (mVar 0) (mCons (fun _ => some (.int 1)) (fun _ => some [])))) (m2 dPow (fun _ => some (.int 10)) (fun _ => some (.int 60)))))
    (mSeq (mSet 8 (mIx (mCons (mVar 6) (mCons (m2 dSub (fun _ => some (.int 0)) (mVar 7)) (mCons (mVar 7) (mCons (m2 dAdd (mVar 6) (fun _ => some (.int 1))) (fun _ => some []))))) (m2 dMod (m2 dDiv (mVar 1) (fun _ => some (.int 60))) (fun _ => some (.int 4)))))
    (mSeq (mSet 5 (m2 dMod (m2 dDiv (mVar 1) (fun _ => some (.int 240))) (mVar 2)))
    (mSeq (mSet 9 (mLst (mCons (mTup (mCons (fun _ => some (.str "in")) (mCons (mVar 5) (fun _ => some [])))) (mCons (mTup (mCons (fun _ => some (.str "out")) (mCons (mVar 5) (fun _ => some [])))) (mCons (mTup (mCons (fun _ => some (.str "least")) (mCons (mVar 8) (mCons (mVar 3) (fun _ => some []))))) (mCons (mTup (mCons (fun _ => some (.str "most")) (mCons (mVar 8) (mCons (mVar 3) (fun _ => some []))))) (fun _ => some [])))))))
    (mSeq (zSet 10 (zComp 1 [3] (mRng (mCons (fun _ => some (.int 4)) (fun _ => some []))) (gSet 0) (fun _ => some true) (zLst (mVarC 1))))
    (mSeq (zSet 11 (zList (zCons (zMake "In" z_In (mCons (mVar 5) (fun _ => some []))) (zCons (zMake "Out" z_Out (mCons (mVar 5) (fun _ => some []))) (zCons (zMakeF "Least" z_Least (mCons (mVar 8) (mCons (mIx (mSeqI (mVarB 10)) (fun _ => some (.int 0))) (fun _ => some [])))) (zCons (zMakeF "Most" z_Most (mCons (mVar 8) (mCons (mIx (mSeqI (mVarB 10)) (fun _ => some (.int 1))) (fun _ => some [])))) (fun _ => some [])))))))
    (mSeq (zSet 12 (zList (zCons (zCall t_part_of (mCons (mIx (mVarC 9) (fun _ => some (.int 0))) (fun _ => some []))) (zCons (zCall t_part_of (mCons (mIx (mVarC 9) (fun _ => some (.int 1))) (fun _ => some []))) (fun _ => some [])))))
    (mSeq (zApp 12 (zCallF t_part_of (mCons (mTup (mCons (fun _ => some (.str "least")) (mCons (mVar 8) (mCons (mIx (mSeqI (mVarB 10)) (fun _ => some (.int 2))) (fun _ => some []))))) (fun _ => some []))))
    (mSeq (zApp 12 (zCallF t_part_of (mCons (mTup (mCons (fun _ => some (.str "most")) (mCons (mVar 8) (mCons (mIx (mSeqI (mVarB 10)) (fun _ => some (.int 3))) (fun _ => some []))))) (fun _ => some []))))
    (mSeq (zForD 10 none 13 [13] (mSeq (mIfS (mB (m2 dNe (mVarB 13) (mVar 3))) (mRet (fun _ => some (.bl false))) mNext)
    (mSeq (zApp 13 (zFz (mTup (mCons (mVar 5) (mCons (fun _ => some (.int 1)) (fun _ => some []))))))
    (zRev 13))))
    (mSeq (mFor (mRng (mCons (fun _ => some (.int 4)) (fun _ => some []))) (gSet 14) (mIfS (mOr (mNot (mTru (mCallS m__law_looked (mCons (mIx (mSeqI (mVarB 11)) (mVar 14)) (mCons (mIx (mVarC 9) (mVar 14)) (mCons (mVar 14) (fun _ => some []))))))) (mNot (mTru (mCallS m__law_looked (mCons (mIx (mSeqI (mVarB 12)) (mVar 14)) (mCons (mIx (mVarC 9) (mVar 14)) (mCons (mVar 14) (fun _ => some [])))))))) (mRet (fun _ => some (.bl false))) mNext))
    (mSeq (mFor (mRng (mCons (fun _ => some (.int 2)) (mCons (fun _ => some (.int 4)) (fun _ => some [])))) (gSet 14) (mIfS (mOr (mNot (mTru (mCallS m__law_counted (mCons (mIx (mSeqI (mVarB 11)) (mVar 14)) (mCons (mIx (mVarC 9) (mVar 14)) (mCons (mVar 4) (fun _ => some []))))))) (mNot (mTru (mCallS m__law_counted (mCons (mIx (mSeqI (mVarB 12)) (mVar 14)) (mCons (mIx (mVarC 9) (mVar 14)) (mCons (mVar 4) (fun _ => some [])))))))) (mRet (fun _ => some (.bl false))) mNext))
    (mRet (fun _ => some (.bl true))))))))))))))))))))
noncomputable def m_law (as : List D) : Option D := runD 15 b_law as
section
variable {P : Program} {w : World} {K : PySem.W.Frag} {mg : Str → Option Value} {base : Heap}
theorem ok_In___init__ {a : Wa} (W : Wd K mg a) : FnOk P w K mg base CX0 1 a.f_In___init__ a.fd_In___init__ ["self", "thing"] (spIZ ⟨K, cl a⟩ "In" ["self", "thing"].length z_In) :=
  fn_IZ (k := 0) (N := ["self", "thing"]) (cn := "In") W.F_In___init__ sc_In___init__ fun cdv A outer s H E hr => (dsiz_cons (cl_is_In W) (na_is_In_thing W) (pv 0) (dz_de (dv 1)) dsiz_nil)
theorem ok_Least___init__ {a : Wa} (W : Wd K mg a) : FnOk P w K mg base CX0 1 a.f_Least___init__ a.fd_Least___init__ ["self", "bound", "items"] (spIZ ⟨K, cl a⟩ "Least" ["self", "bound", "items"].length z_Least) :=
  fn_IZ (k := 0) (N := ["self", "bound", "items"]) (cn := "Least") W.F_Least___init__ sc_Least___init__ fun cdv A outer s H E hr => (dsiz_cons (cl_is_Least W) (na_is_Least_bound W) (pv 0) (dz_de (dv 1)) (dsiz_cons (cl_is_Least W) (na_is_Least_pieces W) (pv 0) (dz_do (do_list boot_list rfl W.z_list (dvC 2))) dsiz_nil))
theorem ok_Most___init__ {a : Wa} (W : Wd K mg a) : FnOk P w K mg base CX0 1 a.f_Most___init__ a.fd_Most___init__ ["self", "bound", "items"] (spIZ ⟨K, cl a⟩ "Most" ["self", "bound", "items"].length z_Most) :=
  fn_IZ (k := 0) (N := ["self", "bound", "items"]) (cn := "Most") W.F_Most___init__ sc_Most___init__ fun cdv A outer s H E hr => (dsiz_cons (cl_is_Most W) (na_is_Most_bound W) (pv 0) (dz_de (dv 1)) (dsiz_cons (cl_is_Most W) (na_is_Most_pieces W) (pv 0) (dz_do (do_list boot_list rfl W.z_list (dvC 2))) dsiz_nil))
theorem ok_Out___init__ {a : Wa} (W : Wd K mg a) : FnOk P w K mg base CX0 1 a.f_Out___init__ a.fd_Out___init__ ["self", "thing"] (spIZ ⟨K, cl a⟩ "Out" ["self", "thing"].length z_Out) :=
  fn_IZ (k := 0) (N := ["self", "thing"]) (cn := "Out") W.F_Out___init__ sc_Out___init__ fun cdv A outer s H E hr => (dsiz_cons (cl_is_Out W) (na_is_Out_thing W) (pv 0) (dz_de (dv 1)) dsiz_nil)
theorem ok__law_cell_at {a : Wa} (W : Wd K mg a) : FnOk P w K mg base CX0 1 a.f__law_cell_at a.fd__law_cell_at ["_law_script", "_law_k"] (spD ⟨K, cl a⟩ ["_law_script", "_law_k"].length m__law_cell_at) :=
  fn_D (k := 0) (N := ["_law_script", "_law_k"]) (F := b__law_cell_at) W.F__law_cell_at sc__law_cell_at fun cdv A outer s H E hr => by
    unfold b__law_cell_at
    exact (dss_cons (ds_if (dt_cmp od_lt sc_lt (DE.db (dv 1)) (DE.db (de_bltB cd_len sc_len rfl W.z_len PySem.boot_len (dab_cons (DE.db (dv 0)) dab_nil)))) (dss_one (ds_ret (de_ix (dvC 0) (dv 1)))) dss_nil)
    (dss_one (ds_ret de_int)))
theorem ok_In_holds {a : Wa} (W : Wd K mg a) : FnOk P w K mg base CX0 1 a.f_In_holds a.fd_In_holds ["self", "rising", "world"] (spD ⟨K, cl a⟩ ["self", "rising", "world"].length m_In_holds) :=
  fn_D (k := 0) (N := ["self", "rising", "world"]) (F := b_In_holds) W.F_In_holds sc_In_holds fun cdv A outer s H E hr => by
    unfold b_In_holds
    exact (dss_one (ds_ret (de_ix (dvC 1) (de_fld "In" (cl_is_In W) (na_is_In_thing W) (dv 0)))))
theorem ok_worth_in {a : Wa} (W : Wd K mg a) : FnOk P w K mg base CX0 1 a.f_worth_in a.fd_worth_in ["items", "entries"] (spD ⟨K, cl a⟩ ["items", "entries"].length m_worth_in) :=
  fn_D (k := 0) (N := ["items", "entries"]) (F := b_worth_in) W.F_worth_in sc_worth_in fun cdv A outer s H E hr => by
    unfold b_worth_in
    exact (dss_one (ds_ret (de_bltB (cd_sum rfl) sc_sum rfl W.z_sum boot_sum (dab_cons (DE.db (DO.de (do_comp 2 [1] ["thing", "worth", "entries"] rfl (DI.de (di_seq (dv 0))) (fun _ _ _ _ _ => (dg_tup rfl (dgs_cons (dgc 0 2) (dgs_cons (dgc 1 2) dgs_nil)))) (fun _ _ _ _ _ => (dts_one (dt_cmp od_is sc_is (DE.db (de_ix (dvcC 2) (dvc 0))) (DE.db de_bl)))) (fun _ _ _ _ _ => (dvc 1))))) dab_nil))))
theorem ok_Least_holds {a : Wa} (W : Wd K mg a) : FnOk P w K mg base CX0 2 a.f_Least_holds a.fd_Least_holds ["self", "rising", "world"] (spD ⟨K, cl a⟩ ["self", "rising", "world"].length m_Least_holds) :=
  fn_D (k := 1) (N := ["self", "rising", "world"]) (F := b_Least_holds) W.F_Least_holds sc_Least_holds fun cdv A outer s H E hr => by
    unfold b_Least_holds
    exact (dss_one (ds_ret (de_cmp od_ge sc_ge (DE.db (de_call (ok_worth_in W) (hr.mono (by decide)) rfl W.g_worth_in W.F_worth_in.kp W.b_worth_in (da_cons (de_fld "Least" (cl_is_Least W) (na_is_Least_pieces W) (dv 0)) (da_cons (dv 1) da_nil)))) (DE.db (de_fld "Least" (cl_is_Least W) (na_is_Least_bound W) (dv 0))))))
theorem ok_Most_holds {a : Wa} (W : Wd K mg a) : FnOk P w K mg base CX0 2 a.f_Most_holds a.fd_Most_holds ["self", "rising", "world"] (spD ⟨K, cl a⟩ ["self", "rising", "world"].length m_Most_holds) :=
  fn_D (k := 1) (N := ["self", "rising", "world"]) (F := b_Most_holds) W.F_Most_holds sc_Most_holds fun cdv A outer s H E hr => by
    unfold b_Most_holds
    exact (dss_one (ds_ret (de_cmp od_le sc_le (DE.db (de_call (ok_worth_in W) (hr.mono (by decide)) rfl W.g_worth_in W.F_worth_in.kp W.b_worth_in (da_cons (de_fld "Most" (cl_is_Most W) (na_is_Most_pieces W) (dv 0)) (da_cons (dv 2) da_nil)))) (DE.db (de_fld "Most" (cl_is_Most W) (na_is_Most_bound W) (dv 0))))))
theorem ok_Out_holds {a : Wa} (W : Wd K mg a) : FnOk P w K mg base CX0 1 a.f_Out_holds a.fd_Out_holds ["self", "rising", "world"] (spD ⟨K, cl a⟩ ["self", "rising", "world"].length m_Out_holds) :=
  fn_D (k := 0) (N := ["self", "rising", "world"]) (F := b_Out_holds) W.F_Out_holds sc_Out_holds fun cdv A outer s H E hr => by
    unfold b_Out_holds
    exact (dss_one (ds_ret (de_not (de_ix (dvC 2) (de_fld "Out" (cl_is_Out W) (na_is_Out_thing W) (dv 0))))))
theorem ok__law_counted {a : Wa} (W : Wd K mg a) : FnOk P w K mg base CX0 3 a.f__law_counted a.fd__law_counted ["_law_made", "_law_due", "_law_truths_here"] (spD ⟨K, cl a⟩ ["_law_made", "_law_due", "_law_truths_here"].length m__law_counted) :=
  fn_D (k := 2) (N := ["_law_made", "_law_due", "_law_truths_here", "_law_nothing", "_law_found"]) (F := b__law_counted) W.F__law_counted sc__law_counted fun cdv A outer s H E hr => have hu := hr.units; by
    unfold b__law_counted
    exact (dss_cons (ds_setCompI 3 1 [] ["_law_truth"] sc__law_counted.nd rfl (DI.de (di_seq (dv 2))) (fun _ _ _ _ _ => (dgc 0 1)) (fun _ _ _ _ _ => dts_nil) (fun _ _ _ _ _ => de_bl))
    (dss_cons (ds_if (dt_cmp (od_eq hu) sc_eq (DE.db (de_ix (dvC 1) de_int)) (DE.db de_str)) (dss_cons (ds_set 4 sc__law_counted.nd (DE.orE (de_meth "In" (dv 0) (cl_is_In W) (me_is_In_holds W) (ok_In_holds W) (hr.mono (by decide)) W.b_In_holds (da_cons (DO.de (do_list boot_list rfl W.z_list (dvC 2))) (da_cons (dv 3) da_nil))) (DE.orE (de_meth "Out" (dv 0) (cl_is_Out W) (me_is_Out_holds W) (ok_Out_holds W) (hr.mono (by decide)) W.b_Out_holds (da_cons (DO.de (do_list boot_list rfl W.z_list (dvC 2))) (da_cons (dv 3) da_nil))) (DE.orE (de_meth "Least" (dv 0) (cl_is_Least W) (me_is_Least_holds W) (ok_Least_holds W) (hr.mono (by decide)) W.b_Least_holds (da_cons (DO.de (do_list boot_list rfl W.z_list (dvC 2))) (da_cons (dv 3) da_nil))) (de_meth "Most" (dv 0) (cl_is_Most W) (me_is_Most_holds W) (ok_Most_holds W) (hr.mono (by decide)) W.b_Most_holds (da_cons (DO.de (do_list boot_list rfl W.z_list (dvC 2))) (da_cons (dv 3) da_nil)))))))
    (dss_one (ds_ret (de_cmp (od_eq hu) sc_eq (DE.db (dv 4)) (DE.db (de_cmp od_ge sc_ge (DE.db (de_bltB (cd_sum rfl) sc_sum rfl W.z_sum boot_sum (dab_cons (DE.db (DO.de (do_comp 2 [2] ["_law_thing", "_law_worth", "_law_truths_here"] rfl (DI.de (di_seq (de_ix (dvC 1) de_int))) (fun _ _ _ _ _ => (dg_tup rfl (dgs_cons (dgc 0 2) (dgs_cons (dgc 1 2) dgs_nil)))) (fun _ _ _ _ _ => (dts_one (dt_val (DE.db (de_ix (dvcC 2) (dvc 0)))))) (fun _ _ _ _ _ => (dvc 1))))) dab_nil))) (DE.db (de_ix (dvC 1) de_int)))))))) dss_nil)
    (dss_cons (ds_set 4 sc__law_counted.nd (DE.orE (de_meth "In" (dv 0) (cl_is_In W) (me_is_In_holds W) (ok_In_holds W) (hr.mono (by decide)) W.b_In_holds (da_cons (dv 3) (da_cons (DO.de (do_list boot_list rfl W.z_list (dvC 2))) da_nil))) (DE.orE (de_meth "Out" (dv 0) (cl_is_Out W) (me_is_Out_holds W) (ok_Out_holds W) (hr.mono (by decide)) W.b_Out_holds (da_cons (dv 3) (da_cons (DO.de (do_list boot_list rfl W.z_list (dvC 2))) da_nil))) (DE.orE (de_meth "Least" (dv 0) (cl_is_Least W) (me_is_Least_holds W) (ok_Least_holds W) (hr.mono (by decide)) W.b_Least_holds (da_cons (dv 3) (da_cons (DO.de (do_list boot_list rfl W.z_list (dvC 2))) da_nil))) (de_meth "Most" (dv 0) (cl_is_Most W) (me_is_Most_holds W) (ok_Most_holds W) (hr.mono (by decide)) W.b_Most_holds (da_cons (dv 3) (da_cons (DO.de (do_list boot_list rfl W.z_list (dvC 2))) da_nil)))))))
    (dss_one (ds_ret (de_cmp (od_eq hu) sc_eq (DE.db (dv 4)) (DE.db (de_cmp od_le sc_le (DE.db (de_bltB (cd_sum rfl) sc_sum rfl W.z_sum boot_sum (dab_cons (DE.db (DO.de (do_comp 2 [2] ["_law_thing", "_law_worth", "_law_truths_here"] rfl (DI.de (di_seq (de_ix (dvC 1) de_int))) (fun _ _ _ _ _ => (dg_tup rfl (dgs_cons (dgc 0 2) (dgs_cons (dgc 1 2) dgs_nil)))) (fun _ _ _ _ _ => (dts_one (dt_val (DE.db (de_ix (dvcC 2) (dvc 0)))))) (fun _ _ _ _ _ => (dvc 1))))) dab_nil))) (DE.db (de_ix (dvC 1) de_int))))))))))
theorem ok__law_mixed {a : Wa} (W : Wd K mg a) : FnOk P w K mg base CX0 1 a.f__law_mixed a.fd__law_mixed ["_law_cell", "_law_k"] (spD ⟨K, cl a⟩ ["_law_cell", "_law_k"].length m__law_mixed) :=
  fn_D (k := 0) (N := ["_law_cell", "_law_k", "_law_factor", "_law_prime"]) (F := b__law_mixed) W.F__law_mixed sc__law_mixed fun cdv A outer s H E hr => by
    unfold b__law_mixed
    exact (dss_cons (ds_set 2 sc__law_mixed.nd (de_ix (DO.dc (do_lst (da_cons de_int (da_cons de_int (da_cons de_int (da_cons de_int (da_cons de_int (da_cons de_int da_nil)))))))) (dv 1)))
    (dss_cons (ds_set 3 sc__law_mixed.nd (de_ix (DO.dc (do_lst (da_cons de_int (da_cons de_int (da_cons de_int (da_cons de_int (da_cons de_int (da_cons de_int da_nil)))))))) (dv 1)))
    (dss_one (ds_ret (de_op od_mod (de_op od_mul (de_op od_add (de_op od_mod (dv 0) (de_op od_pow de_int de_int)) de_int) (dv 2)) (dv 3))))))
theorem ok__law_items {a : Wa} (W : Wd K mg a) : FnOk P w K mg base CX0 2 a.f__law_items a.fd__law_items ["_law_cells", "_law_many"] (spD ⟨K, cl a⟩ ["_law_cells", "_law_many"].length m__law_items) :=
  fn_D (k := 1) (N := ["_law_cells", "_law_many", "_law_items_here", "_law_cell", "_law_mixed_here", "_law_worth"]) (F := b__law_items) W.F__law_items sc__law_items fun cdv A outer s H E hr => have hu := hr.units; by
    unfold b__law_items
    exact (dss_cons (ds_setO 2 sc__law_items.nd (do_lst da_nil))
    (dss_cons (ds_for PassesOwn.never rfl (di_seq (dv 0)) (dg_name 3 6 sc__law_items.nd) (dss_cons (ds_set 4 sc__law_items.nd (de_call (ok__law_mixed W) (hr.mono (by decide)) rfl W.g__law_mixed W.F__law_mixed.kp W.b__law_mixed (da_cons (dv 3) (da_cons de_int da_nil))))
    (dss_cons (ds_set 5 sc__law_items.nd (de_op od_mod (de_op od_div (dv 4) (dv 1)) de_int))
    (dss_cons (ds_if (dt_cmp (od_eq hu) sc_eq (DE.db (de_op od_mod (de_op od_div (dv 4) (de_op od_mul de_int (dv 1))) de_int)) (DE.db de_int)) (dss_one (ds_set 5 sc__law_items.nd (de_op od_mod (dv 3) (de_op od_pow de_int de_int)))) dss_nil)
    (dss_one (ds_app_of (ps_expr (pe_bm PySem.F.plainAttrs_list PySem.F.slot_list_append PySem.F.type_list_append mt_append (pv 2) (pa_cons (de_tup (da_cons (de_op od_mod (dv 4) (dv 1)) (da_cons (dv 5) da_nil))) pa_nil)))))))))
    (dss_one (ds_retV 2))))
theorem ok_In_named {a : Wa} (W : Wd K mg a) : FnOk P w K mg base CX0 1 a.f_In_named a.fd_In_named ["self"] (spT ⟨K, cl a⟩ ["self"].length t_In_named) :=
  fn_T (k := 0) (N := ["self"]) (F := b_In_named) W.F_In_named sc_In_named fun cdv A outer s H E hr => by
    unfold b_In_named
    exact (dss_one (ds_retO (do_lst (da_cons (de_fld "In" (cl_is_In W) (na_is_In_thing W) (dv 0)) da_nil))))
theorem ok_In_told {a : Wa} (W : Wd K mg a) : FnOk P w K mg base CX0 1 a.f_In_told a.fd_In_told ["self"] (spT ⟨K, cl a⟩ ["self"].length t_In_told) :=
  fn_T (k := 0) (N := ["self"]) (F := b_In_told) W.F_In_told sc_In_told fun cdv A outer s H E hr => by
    unfold b_In_told
    exact (dss_one (ds_retZ (dz_tup (daz_cons de_str (daz_one (dz_de (de_fld "In" (cl_is_In W) (na_is_In_thing W) (dv 0))))))))
theorem okO_things_of {a : Wa} (W : Wd K mg a) : FnOk P w K mg base CX0 1 a.f_things_of a.fd_things_of ["items"] (spO ⟨K, cl a⟩ ["items"].length o_things_of) :=
  fn_O (k := 0) (N := ["items"]) (F := b_things_of) W.F_things_of sc_things_of fun cdv A outer s H E hr => by
    unfold b_things_of
    exact (dss_one (ds_retO (do_sortset rfl rfl W.z_sorted rfl W.z_set (DO.de (do_comp 2 [] ["thing", "worth"] rfl (DI.de (di_seq (dv 0))) (fun _ _ _ _ _ => (dg_tup rfl (dgs_cons (dgc 0 2) (dgs_cons (dgc 1 2) dgs_nil)))) (fun _ _ _ _ _ => dts_nil) (fun _ _ _ _ _ => (dvc 0)))))))
theorem ok_Least_named {a : Wa} (W : Wd K mg a) : FnOk P w K mg base CX0 2 a.f_Least_named a.fd_Least_named ["self"] (spT ⟨K, cl a⟩ ["self"].length t_Least_named) :=
  fn_T (k := 1) (N := ["self"]) (F := b_Least_named) W.F_Least_named sc_Least_named fun cdv A outer s H E hr => by
    unfold b_Least_named
    exact (dss_one (ds_retO (do_call (okO_things_of W) (hr.mono (by decide)) rfl W.g_things_of W.F_things_of.kp W.b_things_of (da_cons (de_fld "Least" (cl_is_Least W) (na_is_Least_pieces W) (dv 0)) da_nil))))
theorem ok_Least_told {a : Wa} (W : Wd K mg a) : FnOk P w K mg base CX0 1 a.f_Least_told a.fd_Least_told ["self"] (spT ⟨K, cl a⟩ ["self"].length t_Least_told) :=
  fn_T (k := 0) (N := ["self"]) (F := b_Least_told) W.F_Least_told sc_Least_told fun cdv A outer s H E hr => by
    unfold b_Least_told
    exact (dss_one (ds_retZ (dz_tup (daz_cons de_str (daz_cons (de_fld "Least" (cl_is_Least W) (na_is_Least_bound W) (dv 0)) (daz_one (dz_do (do_list boot_list rfl W.z_list (DE.dc (de_fld "Least" (cl_is_Least W) (na_is_Least_pieces W) (dv 0)))))))))))
theorem ok_Most_named {a : Wa} (W : Wd K mg a) : FnOk P w K mg base CX0 2 a.f_Most_named a.fd_Most_named ["self"] (spT ⟨K, cl a⟩ ["self"].length t_Most_named) :=
  fn_T (k := 1) (N := ["self"]) (F := b_Most_named) W.F_Most_named sc_Most_named fun cdv A outer s H E hr => by
    unfold b_Most_named
    exact (dss_one (ds_retO (do_call (okO_things_of W) (hr.mono (by decide)) rfl W.g_things_of W.F_things_of.kp W.b_things_of (da_cons (de_fld "Most" (cl_is_Most W) (na_is_Most_pieces W) (dv 0)) da_nil))))
theorem ok_Most_told {a : Wa} (W : Wd K mg a) : FnOk P w K mg base CX0 1 a.f_Most_told a.fd_Most_told ["self"] (spT ⟨K, cl a⟩ ["self"].length t_Most_told) :=
  fn_T (k := 0) (N := ["self"]) (F := b_Most_told) W.F_Most_told sc_Most_told fun cdv A outer s H E hr => by
    unfold b_Most_told
    exact (dss_one (ds_retZ (dz_tup (daz_cons de_str (daz_cons (de_fld "Most" (cl_is_Most W) (na_is_Most_bound W) (dv 0)) (daz_one (dz_do (do_list boot_list rfl W.z_list (DE.dc (de_fld "Most" (cl_is_Most W) (na_is_Most_pieces W) (dv 0)))))))))))
theorem ok_Out_named {a : Wa} (W : Wd K mg a) : FnOk P w K mg base CX0 1 a.f_Out_named a.fd_Out_named ["self"] (spT ⟨K, cl a⟩ ["self"].length t_Out_named) :=
  fn_T (k := 0) (N := ["self"]) (F := b_Out_named) W.F_Out_named sc_Out_named fun cdv A outer s H E hr => by
    unfold b_Out_named
    exact (dss_one (ds_retO (do_lst (da_cons (de_fld "Out" (cl_is_Out W) (na_is_Out_thing W) (dv 0)) da_nil))))
theorem ok_Out_told {a : Wa} (W : Wd K mg a) : FnOk P w K mg base CX0 1 a.f_Out_told a.fd_Out_told ["self"] (spT ⟨K, cl a⟩ ["self"].length t_Out_told) :=
  fn_T (k := 0) (N := ["self"]) (F := b_Out_told) W.F_Out_told sc_Out_told fun cdv A outer s H E hr => by
    unfold b_Out_told
    exact (dss_one (ds_retZ (dz_tup (daz_cons de_str (daz_one (dz_de (de_fld "Out" (cl_is_Out W) (na_is_Out_thing W) (dv 0))))))))
theorem ok__law_classes {a : Wa} (W : Wd K mg a) : FnOk P w K mg base CX0 1 a.f__law_classes a.fd__law_classes ["_law_made"] (spD ⟨K, cl a⟩ ["_law_made"].length m__law_classes) :=
  fn_D (k := 0) (N := ["_law_made"]) (F := b__law_classes) W.F__law_classes sc__law_classes fun cdv A outer s H E hr => by
    unfold b__law_classes
    exact (dss_one (ds_retO (do_lst (da_cons (de_isC (isC_Part W) rfl W.z_isinstance rfl W.g_Part (DE.db (dv 0))) (da_cons (de_isC (isC_In W) rfl W.z_isinstance rfl W.g_In (DE.db (dv 0))) (da_cons (de_isC (isC_Out W) rfl W.z_isinstance rfl W.g_Out (DE.db (dv 0))) (da_cons (de_isC (isC_Least W) rfl W.z_isinstance rfl W.g_Least (DE.db (dv 0))) (da_cons (de_isC (isC_Most W) rfl W.z_isinstance rfl W.g_Most (DE.db (dv 0))) da_nil))))))))
theorem ok__law_whole {a : Wa} (W : Wd K mg a) : FnOk P w K mg base CX0 1 a.f__law_whole a.fd__law_whole ["_law_found"] (spD ⟨K, cl a⟩ ["_law_found"].length m__law_whole) :=
  fn_D (k := 0) (N := ["_law_found"]) (F := b__law_whole) W.F__law_whole sc__law_whole fun cdv A outer s H E hr => by
    unfold b__law_whole
    exact (dss_one (ds_ret (de_and (de_isT (T := "int") (is_int W) rfl W.z_isinstance boot_int rfl W.z_int (DE.db (dv 0))) (de_one (de_not (de_isT (T := "bool") (is_bool W) rfl W.z_isinstance boot_bool rfl W.z_bool (DE.db (dv 0))))))))
theorem ok__law_named {a : Wa} (W : Wd K mg a) : FnOk P w K mg base CX0 2 a.f__law_named a.fd__law_named ["_law_found", "_law_due"] (spD ⟨K, cl a⟩ ["_law_found", "_law_due"].length m__law_named) :=
  fn_D (k := 1) (N := ["_law_found", "_law_due"]) (F := b__law_named) W.F__law_named sc__law_named fun cdv A outer s H E hr => have hu := hr.units; by
    unfold b__law_named
    exact (dss_cons (ds_if (DW.dt (dw_or (dt_not (dt_val (DE.db (de_isT (T := "list") (is_list W) rfl W.z_isinstance boot_list rfl W.z_list (DE.db (dv 0)))))) (dw_oneO (dt_cmp (od_ne hu) sc_ne (DE.db (DO.de (do_comp 1 [] ["_law_thing"] rfl (DI.de (di_seq (dv 0))) (fun _ _ _ _ _ => (dgc 0 1)) (fun _ _ _ _ _ => (dts_one (dt_not (dt_val (DE.db (de_call (ok__law_whole W) (hr.mono (by decide)) (glc rfl) W.g__law_whole W.F__law_whole.kp W.b__law_whole (da_cons (dvc 0) da_nil))))))) (fun _ _ _ _ _ => (dvc 0))))) (DE.db (DO.de (do_lst da_nil))))))) (dss_one (ds_ret de_bl)) dss_nil)
    (dss_cons (ds_if (dt_cmp (od_eq hu) sc_eq (DE.db (de_bltB cd_len sc_len rfl W.z_len PySem.boot_len (dab_cons (DE.db (dv 1)) dab_nil))) (DE.db de_int)) (dss_one (ds_ret (de_cmp (od_eq hu) sc_eq (DE.db (dv 0)) (DE.db (DO.de (do_sortset rfl rfl W.z_sorted rfl W.z_set (DO.de (do_comp 2 [] ["_law_thing", "_law_worth"] rfl (DI.de (di_seq (de_ix (dvC 1) de_int))) (fun _ _ _ _ _ => (dg_tup rfl (dgs_cons (dgc 0 2) (dgs_cons (dgc 1 2) dgs_nil)))) (fun _ _ _ _ _ => dts_nil) (fun _ _ _ _ _ => (dvc 0)))))))))) dss_nil)
    (dss_one (ds_ret (de_cmp (od_eq hu) sc_eq (DE.db (dv 0)) (DE.db (DO.de (do_lst (da_cons (de_ix (dvC 1) de_int) da_nil)))))))))
theorem ok__law_pair {a : Wa} (W : Wd K mg a) : FnOk P w K mg base CX0 2 a.f__law_pair a.fd__law_pair ["_law_found"] (spD ⟨K, cl a⟩ ["_law_found"].length m__law_pair) :=
  fn_D (k := 1) (N := ["_law_found"]) (F := b__law_pair) W.F__law_pair sc__law_pair fun cdv A outer s H E hr => have hu := hr.units; by
    unfold b__law_pair
    exact (dss_one (ds_ret (de_and (de_isT (T := "tuple") (is_tuple W) rfl W.z_isinstance boot_tuple rfl W.z_tuple (DE.db (dv 0))) (de_and (de_cmp (od_eq hu) sc_eq (DE.db (de_bltB cd_len sc_len rfl W.z_len PySem.boot_len (dab_cons (DE.db (dv 0)) dab_nil))) (DE.db de_int)) (de_and (de_call (ok__law_whole W) (hr.mono (by decide)) rfl W.g__law_whole W.F__law_whole.kp W.b__law_whole (da_cons (de_ix (dvC 0) de_int) da_nil)) (de_one (de_call (ok__law_whole W) (hr.mono (by decide)) rfl W.g__law_whole W.F__law_whole.kp W.b__law_whole (da_cons (de_ix (dvC 0) de_int) da_nil))))))))
theorem ok__law_told {a : Wa} (W : Wd K mg a) : FnOk P w K mg base CX0 3 a.f__law_told a.fd__law_told ["_law_found", "_law_due"] (spD ⟨K, cl a⟩ ["_law_found", "_law_due"].length m__law_told) :=
  fn_D (k := 2) (N := ["_law_found", "_law_due"]) (F := b__law_told) W.F__law_told sc__law_told fun cdv A outer s H E hr => have hu := hr.units; by
    unfold b__law_told
    exact (dss_cons (ds_if (DW.dt (dw_or (dt_not (dt_val (DE.db (de_isT (T := "tuple") (is_tuple W) rfl W.z_isinstance boot_tuple rfl W.z_tuple (DE.db (dv 0)))))) (dw_oneO (dt_cmp (od_ne hu) sc_ne (DE.db (de_bltB cd_len sc_len rfl W.z_len PySem.boot_len (dab_cons (DE.db (dv 0)) dab_nil))) (DE.db (de_bltB cd_len sc_len rfl W.z_len PySem.boot_len (dab_cons (DE.db (dv 1)) dab_nil))))))) (dss_one (ds_ret de_bl)) dss_nil)
    (dss_cons (ds_if (DW.dt (dw_or (dt_not (dt_val (DE.db (de_isT (T := "str") (is_str W) rfl W.z_isinstance boot_str rfl W.z_str (DE.db (de_ix (dvC 0) de_int)))))) (dw_oneO (dt_not (dt_val (DE.db (de_call (ok__law_whole W) (hr.mono (by decide)) rfl W.g__law_whole W.F__law_whole.kp W.b__law_whole (da_cons (de_ix (dvC 0) de_int) da_nil)))))))) (dss_one (ds_ret de_bl)) dss_nil)
    (dss_cons (ds_if (dt_cmp (od_eq hu) sc_eq (DE.db (de_bltB cd_len sc_len rfl W.z_len PySem.boot_len (dab_cons (DE.db (dv 1)) dab_nil))) (DE.db de_int)) (dss_one (ds_if (DW.dt (dw_or (dt_not (dt_val (DE.db (de_isT (T := "list") (is_list W) rfl W.z_isinstance boot_list rfl W.z_list (DE.db (de_ix (dvC 0) de_int)))))) (dw_oneO (dt_cmp (od_ne hu) sc_ne (DE.db (DO.de (do_comp 1 [] ["_law_row"] rfl (DI.de (di_seq (de_ix (dvC 0) de_int))) (fun _ _ _ _ _ => (dgc 0 1)) (fun _ _ _ _ _ => (dts_one (dt_not (dt_val (DE.db (de_call (ok__law_pair W) (hr.mono (by decide)) (glc rfl) W.g__law_pair W.F__law_pair.kp W.b__law_pair (da_cons (dvc 0) da_nil))))))) (fun _ _ _ _ _ => (dvc 0))))) (DE.db (DO.de (do_lst da_nil))))))) (dss_one (ds_ret de_bl)) dss_nil)) dss_nil)
    (dss_one (ds_ret (de_cmp (od_eq hu) sc_eq (DE.db (dv 0)) (DE.db (dv 1))))))))
theorem ok__law_looked {a : Wa} (W : Wd K mg a) : FnOk P w K mg base CX0 4 a.f__law_looked a.fd__law_looked ["_law_made", "_law_due", "_law_place"] (spD ⟨K, cl a⟩ ["_law_made", "_law_due", "_law_place"].length m__law_looked) :=
  fn_D (k := 3) (N := ["_law_made", "_law_due", "_law_place", "_law_first", "_law_second", "_law_names"]) (F := b__law_looked) W.F__law_looked sc__law_looked fun cdv A outer s H E hr => have hu := hr.units; by
    unfold b__law_looked
    exact (dss_cons (ds_if (dt_cmp (od_ne hu) sc_ne (DE.db (de_call (ok__law_classes W) (hr.mono (by decide)) rfl W.g__law_classes W.F__law_classes.kp W.b__law_classes (da_cons (dv 0) da_nil))) (DE.db (DO.de (do_cat (DO.de (do_lst (da_cons de_bl da_nil))) (DO.de (do_comp 1 [2] ["_law_k", "_law_place"] rfl (DI.de (di_range1 rfl W.z_range (da_cons de_int da_nil))) (fun _ _ _ _ _ => (dgc 0 1)) (fun _ _ _ _ _ => dts_nil) (fun _ _ _ _ _ => (de_cmp (od_eq hu) sc_eq (DE.db (dvc 0)) (DE.db (dvc 1)))))))))) (dss_one (ds_ret de_bl)) dss_nil)
    (dss_cons (ds_setZ 3 sc__law_looked.nd (DZ.orE (dz_meth0 "In" (dv 0) (cl_is_In W) (me_is_In_told W) (ok_In_told W) (hr.mono (by decide)) W.b_In_told) (DZ.orE (dz_meth0 "Out" (dv 0) (cl_is_Out W) (me_is_Out_told W) (ok_Out_told W) (hr.mono (by decide)) W.b_Out_told) (DZ.orE (dz_meth0 "Least" (dv 0) (cl_is_Least W) (me_is_Least_told W) (ok_Least_told W) (hr.mono (by decide)) W.b_Least_told) (dz_meth0 "Most" (dv 0) (cl_is_Most W) (me_is_Most_told W) (ok_Most_told W) (hr.mono (by decide)) W.b_Most_told)))))
    (dss_cons (ds_setZ 4 sc__law_looked.nd (DZ.orE (dz_meth0 "In" (dv 0) (cl_is_In W) (me_is_In_told W) (ok_In_told W) (hr.mono (by decide)) W.b_In_told) (DZ.orE (dz_meth0 "Out" (dv 0) (cl_is_Out W) (me_is_Out_told W) (ok_Out_told W) (hr.mono (by decide)) W.b_Out_told) (DZ.orE (dz_meth0 "Least" (dv 0) (cl_is_Least W) (me_is_Least_told W) (ok_Least_told W) (hr.mono (by decide)) W.b_Least_told) (dz_meth0 "Most" (dv 0) (cl_is_Most W) (me_is_Most_told W) (ok_Most_told W) (hr.mono (by decide)) W.b_Most_told)))))
    (dss_cons (ds_setZ 5 sc__law_looked.nd (DZ.orE (dz_meth0 "In" (dv 0) (cl_is_In W) (me_is_In_named W) (ok_In_named W) (hr.mono (by decide)) W.b_In_named) (DZ.orE (dz_meth0 "Out" (dv 0) (cl_is_Out W) (me_is_Out_named W) (ok_Out_named W) (hr.mono (by decide)) W.b_Out_named) (DZ.orE (dz_meth0 "Least" (dv 0) (cl_is_Least W) (me_is_Least_named W) (ok_Least_named W) (hr.mono (by decide)) W.b_Least_named) (dz_meth0 "Most" (dv 0) (cl_is_Most W) (me_is_Most_named W) (ok_Most_named W) (hr.mono (by decide)) W.b_Most_named)))))
    (dss_cons (ds_if (DW.dt (dw_or (dt_not (dt_val (DE.db (de_callS (ok__law_told W) (hr.mono (by decide)) rfl W.g__law_told W.F__law_told.kp W.b__law_told (dab_cons (dvB 3) (dab_cons (DE.db (dv 1)) dab_nil)))))) (dw_or (dt_not (dt_val (DE.db (de_callS (ok__law_told W) (hr.mono (by decide)) rfl W.g__law_told W.F__law_told.kp W.b__law_told (dab_cons (dvB 4) (dab_cons (DE.db (dv 1)) dab_nil)))))) (dw_oneO (dt_not (dt_val (DE.db (de_callS (ok__law_named W) (hr.mono (by decide)) rfl W.g__law_named W.F__law_named.kp W.b__law_named (dab_cons (dvB 5) (dab_cons (DE.db (dv 1)) dab_nil)))))))))) (dss_one (ds_ret de_bl)) dss_nil)
    (dss_cons (ds_appZ_of (ps_expr (pe_bm PySem.F.plainAttrs_list PySem.F.slot_list_append PySem.F.type_list_append mt_append (pv 5) (pa_cons (dz_de (de_neg de_int)) pa_nil))))
    (dss_cons (ds_if (dt_cmp (od_eq hu) sc_eq (DE.db (de_bltB cd_len sc_len rfl W.z_len PySem.boot_len (dab_cons (DE.db (dv 1)) dab_nil))) (DE.db de_int)) (dss_one (ds_appAt_of (ps_expr (pe_bm PySem.F.plainAttrs_list PySem.F.slot_list_append PySem.F.type_list_append mt_append (pe_ix (ix_list.or ix_tup) (pv 4) pe_int (fun _ _ => rfl)) (pa_cons (de_tup (da_cons de_int (da_cons de_int da_nil))) pa_nil))))) dss_nil)
    (dss_one (ds_ret (de_and (de_callS (ok__law_told W) (hr.mono (by decide)) rfl W.g__law_told W.F__law_told.kp W.b__law_told (dab_cons (dvB 3) (dab_cons (DE.db (dv 1)) dab_nil))) (de_and (de_callS (ok__law_told W) (hr.mono (by decide)) rfl W.g__law_told W.F__law_told.kp W.b__law_told (dab_cons (DZ.db (DZ.orE (dz_meth0 "In" (dv 0) (cl_is_In W) (me_is_In_told W) (ok_In_told W) (hr.mono (by decide)) W.b_In_told) (DZ.orE (dz_meth0 "Out" (dv 0) (cl_is_Out W) (me_is_Out_told W) (ok_Out_told W) (hr.mono (by decide)) W.b_Out_told) (DZ.orE (dz_meth0 "Least" (dv 0) (cl_is_Least W) (me_is_Least_told W) (ok_Least_told W) (hr.mono (by decide)) W.b_Least_told) (dz_meth0 "Most" (dv 0) (cl_is_Most W) (me_is_Most_told W) (ok_Most_told W) (hr.mono (by decide)) W.b_Most_told))))) (dab_cons (DE.db (dv 1)) dab_nil))) (de_one (de_callS (ok__law_named W) (hr.mono (by decide)) rfl W.g__law_named W.F__law_named.kp W.b__law_named (dab_cons (DZ.db (DZ.orE (dz_meth0 "In" (dv 0) (cl_is_In W) (me_is_In_named W) (ok_In_named W) (hr.mono (by decide)) W.b_In_named) (DZ.orE (dz_meth0 "Out" (dv 0) (cl_is_Out W) (me_is_Out_named W) (ok_Out_named W) (hr.mono (by decide)) W.b_Out_named) (DZ.orE (dz_meth0 "Least" (dv 0) (cl_is_Least W) (me_is_Least_named W) (ok_Least_named W) (hr.mono (by decide)) W.b_Least_named) (dz_meth0 "Most" (dv 0) (cl_is_Most W) (me_is_Most_named W) (ok_Most_named W) (hr.mono (by decide)) W.b_Most_named))))) (dab_cons (DE.db (dv 1)) dab_nil)))))))))))))))
theorem ok__law_truths {a : Wa} (W : Wd K mg a) : FnOk P w K mg base CX0 1 a.f__law_truths a.fd__law_truths ["_law_cell", "_law_many", "_law_k"] (spD ⟨K, cl a⟩ ["_law_cell", "_law_many", "_law_k"].length m__law_truths) :=
  fn_D (k := 0) (N := ["_law_cell", "_law_many", "_law_k", "_law_factor", "_law_bits"]) (F := b__law_truths) W.F__law_truths sc__law_truths fun cdv A outer s H E hr => have hu := hr.units; by
    unfold b__law_truths
    exact (dss_cons (ds_set 3 sc__law_truths.nd (de_ix (DO.dc (do_lst (da_cons de_int (da_cons de_int (da_cons de_int (da_cons de_int da_nil)))))) (dv 2)))
    (dss_cons (ds_set 4 sc__law_truths.nd (de_op od_mod (de_op od_mul (de_op od_add (de_op od_mod (dv 0) (de_op od_pow de_int de_int)) de_int) (dv 3)) de_int))
    (dss_one (ds_retO (do_comp 1 [4] ["_law_place", "_law_bits"] rfl (DI.de (di_range1 rfl W.z_range (da_cons (dv 1) da_nil))) (fun _ _ _ _ _ => (dgc 0 1)) (fun _ _ _ _ _ => dts_nil) (fun _ _ _ _ _ => (de_cmp (od_eq hu) sc_eq (DE.db (de_op od_and (de_op od_shr (dvc 1) (dvc 0)) de_int)) (DE.db de_int))))))))
theorem ok_part_of {a : Wa} (W : Wd K mg a) : FnOk P w K mg base CX0 3 a.f_part_of a.fd_part_of ["told"] (spT ⟨K, cl a⟩ ["told"].length t_part_of) :=
  fn_T (k := 2) (N := ["told", "word"]) (F := b_part_of) W.F_part_of sc_part_of fun cdv A outer s H E hr => have hu := hr.units; by
    unfold b_part_of
    exact (dss_cons (ds_set 1 sc_part_of.nd (de_ix (dvC 0) de_int))
    (dss_cons (ds_if (dt_cmp (od_eq hu) sc_eq (DE.db (dv 1)) (DE.db de_str)) (dss_one (ds_retZ (dz_make "In" (mk_is_In W) (ok_In___init__ W) (hr.mono (by decide)) rfl (gc_is_In W) W.b_In___init__ (da_cons (de_ix (dvC 0) de_int) da_nil)))) dss_nil)
    (dss_cons (ds_if (dt_cmp (od_eq hu) sc_eq (DE.db (dv 1)) (DE.db de_str)) (dss_one (ds_retZ (dz_make "Out" (mk_is_Out W) (ok_Out___init__ W) (hr.mono (by decide)) rfl (gc_is_Out W) W.b_Out___init__ (da_cons (de_ix (dvC 0) de_int) da_nil)))) dss_nil)
    (dss_cons (ds_if (dt_cmp (od_eq hu) sc_eq (DE.db (dv 1)) (DE.db de_str)) (dss_one (ds_retZ (dz_make "Least" (mk_is_Least W) (ok_Least___init__ W) (hr.mono (by decide)) rfl (gc_is_Least W) W.b_Least___init__ (da_cons (de_ix (dvC 0) de_int) (da_cons (de_ix (dvC 0) de_int) da_nil))))) dss_nil)
    (dss_one (ds_retZ (dz_make "Most" (mk_is_Most W) (ok_Most___init__ W) (hr.mono (by decide)) rfl (gc_is_Most W) W.b_Most___init__ (da_cons (de_ix (dvC 0) de_int) (da_cons (de_ix (dvC 0) de_int) da_nil)))))))))
theorem ok_law {a : Wa} (W : Wd K mg a) : FnOk P w K mg base CX0 5 a.f_law a.fd_law ["_law_script"] (spD ⟨K, cl a⟩ ["_law_script"].length m_law) :=
  fn_D (k := 4) (N := ["_law_script", "_law_mixed_here", "_law_many", "_law_items_here", "_law_truths_here", "_law_thing", "_law_total", "_law_great", "_law_bound", "_law_dues", "_law_handed", "_law_some", "_law_others", "_law_row", "_law_place"]) (F := b_law) W.F_law sc_law fun cdv A outer s H E hr => have hu := hr.units; by
    unfold b_law
    exact (dss_cons (ds_set 1 sc_law.nd (de_call (ok__law_mixed W) (hr.mono (by decide)) rfl W.g__law_mixed W.F__law_mixed.kp W.b__law_mixed (da_cons (de_call (ok__law_cell_at W) (hr.mono (by decide)) rfl W.g__law_cell_at W.F__law_cell_at.kp W.b__law_cell_at (da_cons (dv 0) (da_cons de_int da_nil))) (da_cons de_int da_nil))))
    (dss_cons (ds_set 2 sc_law.nd (de_op od_add de_int (de_op od_mod (dv 1) de_int)))
    (dss_cons (ds_set 3 sc_law.nd (de_call (ok__law_items W) (hr.mono (by decide)) rfl W.g__law_items W.F__law_items.kp W.b__law_items (da_cons (DO.de (by refine do_slice ?a ?b ?c; (case a => exact (dv 0)); (case b => exact (dp_some de_int)); (case c => exact (dp_some de_int)))) (da_cons (dv 2) da_nil))))
    (dss_cons (ds_set 4 sc_law.nd (de_call (ok__law_truths W) (hr.mono (by decide)) rfl W.g__law_truths W.F__law_truths.kp W.b__law_truths (da_cons (de_call (ok__law_cell_at W) (hr.mono (by decide)) rfl W.g__law_cell_at W.F__law_cell_at.kp W.b__law_cell_at (da_cons (dv 0) (da_cons de_int da_nil))) (da_cons (dv 2) (da_cons de_int da_nil)))))
    (dss_cons (ds_set 6 sc_law.nd (de_bltB (cd_sum rfl) sc_sum rfl W.z_sum boot_sum (dab_cons (DE.db (DO.de (do_comp 2 [] ["_law_thing", "_law_worth"] rfl (DI.de (di_seq (dv 3))) (fun _ _ _ _ _ => (dg_tup rfl (dgs_cons (dgc 0 2) (dgs_cons (dgc 1 2) dgs_nil)))) (fun _ _ _ _ _ => dts_nil) (fun _ _ _ _ _ => (dvc 1))))) dab_nil)))
    (dss_cons (ds_set 7 sc_law.nd (de_op od_mod (de_call (ok__law_cell_at W) (hr.mono (by decide)) rfl W.g__law_cell_at W.F__law_cell_at.kp W.b__law_cell_at (da_cons (dv 0) (da_cons de_int da_nil))) (de_op od_pow de_int de_int)))
    (dss_cons (ds_set 8 sc_law.nd (de_ix (DO.dc (do_lst (da_cons (dv 6) (da_cons (de_op od_sub de_int (dv 7)) (da_cons (dv 7) (da_cons (de_op od_add (dv 6) de_int) da_nil)))))) (de_op od_mod (de_op od_div (dv 1) de_int) de_int)))
    (dss_cons (ds_set 5 sc_law.nd (de_op od_mod (de_op od_div (dv 1) de_int) (dv 2)))
    (dss_cons (ds_set 9 sc_law.nd (DO.de (do_lst (da_cons (de_tup (da_cons de_str (da_cons (dv 5) da_nil))) (da_cons (de_tup (da_cons de_str (da_cons (dv 5) da_nil))) (da_cons (de_tup (da_cons de_str (da_cons (dv 8) (da_cons (dv 3) da_nil)))) (da_cons (de_tup (da_cons de_str (da_cons (dv 8) (da_cons (dv 3) da_nil)))) da_nil)))))))
    (dss_cons (ds_setZComp 10 1 [3] ["_law_k", "_law_items_here"] sc_law.nd rfl (DI.de (di_range1 rfl W.z_range (da_cons de_int da_nil))) (fun _ _ _ _ _ => (dgc 0 1)) (fun _ _ _ _ _ => dts_nil) (fun _ _ _ _ _ => (dz_do (do_list boot_list (glc rfl) W.z_list (dvcC 1)))))
    (dss_cons (ds_setZ 11 sc_law.nd (dz_list (dat_cons (dz_make "In" (mk_is_In W) (ok_In___init__ W) (hr.mono (by decide)) rfl (gc_is_In W) W.b_In___init__ (da_cons (dv 5) da_nil)) (dat_cons (dz_make "Out" (mk_is_Out W) (ok_Out___init__ W) (hr.mono (by decide)) rfl (gc_is_Out W) W.b_Out___init__ (da_cons (dv 5) da_nil)) (dat_cons (dz_makeF "Least" (mk_is_Least W) (ok_Least___init__ W) (hr.mono (by decide)) rfl (gc_is_Least W) W.b_Least___init__ (dab_cons (DE.db (dv 8)) (dab_cons (db_ix (dvB 10) de_int) dab_nil))) (dat_cons (dz_makeF "Most" (mk_is_Most W) (ok_Most___init__ W) (hr.mono (by decide)) rfl (gc_is_Most W) W.b_Most___init__ (dab_cons (DE.db (dv 8)) (dab_cons (db_ix (dvB 10) de_int) dab_nil))) dat_nil))))))
    (dss_cons (ds_setZ 12 sc_law.nd (dz_list (dat_cons (dz_call (ok_part_of W) (hr.mono (by decide)) rfl W.g_part_of W.F_part_of.kp W.b_part_of (da_cons (de_ix (dvC 9) de_int) da_nil)) (dat_cons (dz_call (ok_part_of W) (hr.mono (by decide)) rfl W.g_part_of W.F_part_of.kp W.b_part_of (da_cons (de_ix (dvC 9) de_int) da_nil)) dat_nil))))
    (dss_cons (ds_appZ_of (ps_expr (pe_bm PySem.F.plainAttrs_list PySem.F.slot_list_append PySem.F.type_list_append mt_append (pv 12) (pa_cons (dz_callF (ok_part_of W) (hr.mono (by decide)) rfl W.g_part_of W.F_part_of.kp W.b_part_of (dab_cons (db_tup (dab_cons (DE.db de_str) (dab_cons (DE.db (dv 8)) (dab_cons (db_ix (dvB 10) de_int) dab_nil)))) dab_nil)) pa_nil))))
    (dss_cons (ds_appZ_of (ps_expr (pe_bm PySem.F.plainAttrs_list PySem.F.slot_list_append PySem.F.type_list_append mt_append (pv 12) (pa_cons (dz_callF (ok_part_of W) (hr.mono (by decide)) rfl W.g_part_of W.F_part_of.kp W.b_part_of (dab_cons (db_tup (dab_cons (DE.db de_str) (dab_cons (DE.db (dv 8)) (dab_cons (db_ix (dvB 10) de_int) dab_nil)))) dab_nil)) pa_nil))))
    (dss_cons (ds_forD (i := 10) (kk := none) [13] PassesOwn.never rfl (pv 10) (pg_name sc_law.nd (i := 13) rfl (by first | exact Or.inl rfl | exact Or.inr rfl)) (dss_cons (ds_if (dt_cmp (od_ne hu) sc_ne (dvB 13) (DE.db (dv 3))) (dss_one (ds_ret de_bl)) dss_nil)
    (dss_cons (ds_appZ_of (ps_expr (pe_bm PySem.F.plainAttrs_list PySem.F.slot_list_append PySem.F.type_list_append mt_append (pv 13) (pa_cons (dz_de (de_tup (da_cons (dv 5) (da_cons de_int da_nil)))) pa_nil))))
    (dss_one (ds_revZ_of (ps_expr (pe_bm0 PySem.F.plainAttrs_list PySem.F.slot_list_reverse PySem.F.type_list_reverse mt_reverse (pv 13))))))))
    (dss_cons (ds_for PassesOwn.never rfl (di_range1 rfl W.z_range (da_cons de_int da_nil)) (dg_name 14 15 sc_law.nd) (dss_one (ds_if (DW.dt (dw_or (dt_not (dt_val (DE.db (de_callS (ok__law_looked W) (hr.mono (by decide)) rfl W.g__law_looked W.F__law_looked.kp W.b__law_looked (dab_cons (db_ix (dvB 11) (dv 14)) (dab_cons (DE.db (de_ix (dvC 9) (dv 14))) (dab_cons (DE.db (dv 14)) dab_nil))))))) (dw_oneO (dt_not (dt_val (DE.db (de_callS (ok__law_looked W) (hr.mono (by decide)) rfl W.g__law_looked W.F__law_looked.kp W.b__law_looked (dab_cons (db_ix (dvB 12) (dv 14)) (dab_cons (DE.db (de_ix (dvC 9) (dv 14))) (dab_cons (DE.db (dv 14)) dab_nil)))))))))) (dss_one (ds_ret de_bl)) dss_nil)))
    (dss_cons (ds_for PassesOwn.never rfl (di_range2 rfl W.z_range (da_cons de_int (da_cons de_int da_nil))) (dg_name 14 15 sc_law.nd) (dss_one (ds_if (DW.dt (dw_or (dt_not (dt_val (DE.db (de_callS (ok__law_counted W) (hr.mono (by decide)) rfl W.g__law_counted W.F__law_counted.kp W.b__law_counted (dab_cons (db_ix (dvB 11) (dv 14)) (dab_cons (DE.db (de_ix (dvC 9) (dv 14))) (dab_cons (DE.db (dv 4)) dab_nil))))))) (dw_oneO (dt_not (dt_val (DE.db (de_callS (ok__law_counted W) (hr.mono (by decide)) rfl W.g__law_counted W.F__law_counted.kp W.b__law_counted (dab_cons (db_ix (dvB 12) (dv 14)) (dab_cons (DE.db (de_ix (dvC 9) (dv 14))) (dab_cons (DE.db (dv 4)) dab_nil)))))))))) (dss_one (ds_ret de_bl)) dss_nil)))
    (dss_one (ds_ret de_bl)))))))))))))))))))
end
local macro_rules | `(tactic| walk_at "evS") => `(tactic| first | decide | omega | assumption | exact ⟨by decide, by decide⟩ | exact ⟨by omega, by omega⟩ | exact .inl ⟨by decide, by decide⟩ | exact .inr ⟨by decide, by decide⟩ | exact .inl ⟨by omega, by omega⟩ | exact .inr ⟨by omega, by omega⟩ | exact ⟨by decide, by decide, by decide⟩)
local macro_rules | `(tactic| walk_at "evO") => `(tactic| first | with_reducible exact dAdd_eq | with_reducible exact dSub_eq | with_reducible exact dLt_eq | with_reducible exact dGt_eq | with_reducible exact dLe_eq | with_reducible exact dGe_eq | with_reducible exact dEq_int _ _ | with_reducible exact dNe_int _ _ | exact dMod_eq (by walk_at "evS") | exact dDiv_eq (by walk_at "evS") | exact dMul_eq (by walk_at "evS") | exact dPow_eq (by walk_at "evS") | exact dShr_eq (by walk_at "evS") | with_reducible exact dEq_str _ _ | with_reducible exact dNe_str _ _ | with_reducible exact dEq_bl _ _ | with_reducible exact dAndB_eq | exact dEq_nil _ _ | exact dNe_nil _ _ | assumption | rfl)
local macro_rules | `(tactic| walk_at "ev") => `(tactic| first
  | with_reducible assumption
  | ((with_reducible apply m2_eq); (focus walk_at "ev"); (focus walk_at "ev"); (focus walk_at "evO"))
  | ((with_reducible apply mB_eq); (focus walk_at "ev"))
  | ((with_reducible apply mTru_eq); (focus walk_at "ev"); (focus first | assumption | rfl))
  | ((with_reducible apply mAnd_eq); (focus walk_at "ev"); (focus walk_at "ev"))
  | ((with_reducible apply mOr_eq); (focus walk_at "ev"); (focus walk_at "ev"))
  | ((with_reducible apply mNot_eq); (focus walk_at "ev"))
  | ((with_reducible apply vAnd_eq); (focus walk_at "ev"); (focus walk_at "ev"))
  | ((with_reducible apply vOr_eq); (focus walk_at "ev"); (focus walk_at "ev"))
  | ((with_reducible apply vNot_eq); (focus walk_at "ev"))
  | ((with_reducible apply cons_eq); (focus walk_at "ev"); (focus walk_at "ev"))
  | ((with_reducible apply tup_eq); (focus walk_at "ev"))
  | ((with_reducible apply lst_eq); (focus walk_at "ev"))
  | ((with_reducible apply call_is); (focus walk_at "ev"); (focus first | with_reducible assumption | with_reducible exact len_lst _ _ | assumption | exact len_lst _ _ | exact len_kl _ _ | rfl))
  | ((with_reducible apply callS_is); (focus walk_at "ev"); (focus assumption); (focus rfl))
  | ((with_reducible apply ix_eq); (focus walk_at "ev"); (focus walk_at "ev"); (focus first | assumption | rfl))
  | ((with_reducible apply sl_kl); (focus walk_at "ev"); (focus rfl); (focus rfl))
  | ((with_reducible apply sl_lst); (focus walk_at "ev"); (focus rfl); (focus rfl))
  | ((with_reducible apply seqI_eq); (focus walk_at "ev"); (focus rfl))
  | rfl)
local macro_rules | `(tactic| walk_at "nrm") => `(tactic| simp only [kSeq, List.set_cons_succ, List.set_cons_zero])
local macro_rules | `(tactic| walk_at "set") => `(tactic| (apply wp_seq; (first | with_reducible apply wp_set | with_reducible apply wp_setO); (focus walk_at "ev"); walk_at "nrm"))
local macro_rules | `(tactic| walk_at "if0") => `(tactic| ((with_reducible first | apply wp_if | apply wp_ret); (focus walk_at "ev")))
theorem cell_at (ns : List Int) (i : Int) (h0 : 0 ≤ i) : ∃ v, m__law_cell_at [.kl (ns.map D.int), .int i] = some (.int v) := by
  by_cases h : i < ns.length
  · obtain ⟨x, _, e⟩ := atD_ok (f := D.int) h0 h
    refine ⟨x, run_rt (seq_rt (if_T (congrArg some (decide_eq_true ?_)) (ret_is e)))⟩
    rw [List.length_map]
    exact h
  · refine ⟨0, run_rt (seq_nx (if_F (congrArg some (decide_eq_false ?_)) rfl) rfl)⟩
    rw [List.length_map]
    exact h
theorem p18 : (0 : Int) < 10 ^ (18 : Int).toNat := by decide
theorem p60 : (0 : Int) < 10 ^ (60 : Int).toNat := by decide
theorem cp18 : CPow 10 18 := ⟨by decide, by decide, by decide⟩
theorem cp60 : CPow 10 60 := ⟨by decide, by decide, by decide⟩
theorem mixed (c k : Int) (h0 : 0 ≤ k) (h6 : k < 6) : ∃ r, m__law_mixed [.int c, .int k] = some (.int r) ∧ 0 ≤ r ∧ r < 2147483648 := by
  obtain ⟨f, _, e1⟩ := atD_ok (f := D.int) (xs := [742938285, 950706377, 1226874159, 1343714439, 630360017, 1389796131]) h0 h6
  obtain ⟨q, m2', e2⟩ := atD_ok (f := D.int) (xs := [2147483647, 2147483629, 2147483587, 2147483579, 2147483563, 2147483549]) h0 h6
  have qq : ∀ x ∈ ([2147483647, 2147483629, 2147483587, 2147483579, 2147483563, 2147483549] : List Int), 0 < x ∧ x < 2147483648 := by decide
  obtain ⟨q0, q1⟩ := qq q (List.mem_of_getElem? m2')
  have b1 := Int.emod_nonneg c (Int.ne_of_gt p18)
  have b2 := Int.emod_lt_of_pos c p18
  have hv : (10 : Int) ^ (18 : Int).toNat = 1000000000000000000 := by decide
  have hm : CMul (c % 10 ^ (18 : Int).toNat + 1) f := .inl ⟨by rw [hv] at *; omega, by rw [hv] at *; omega⟩
  refine ⟨_, run_rt (seq_nx (set_is e1) (seq_nx (set_is e2) (ret_is (m2_eq (m2_eq (m2_eq (m2_eq rfl (m2_eq rfl rfl (dI_pos cp18)) (dI_pos p18)) rfl rfl) rfl (dI_pos hm)) rfl (dI_pos q0))))), ?_, ?_⟩
  · exact Int.emod_nonneg _ (Int.ne_of_gt q0)
  · exact Int.lt_trans (Int.emod_lt_of_pos _ q0) q1
theorem truths (c n k : Int) (h0 : 0 ≤ k) (h4 : k < 4) (n0 : 0 ≤ n) (n1 : n ≤ 60) : ∃ bs : List Bool, m__law_truths [.int c, .int n, .int k] = some (.lst (bs.map D.bl)) ∧ (bs.length : Int) = n := by
  obtain ⟨f, _, e1⟩ := atD_ok (f := D.int) (xs := [1234567890123456789, 1098765432109876543, 2001002003004005007, 1618033988749894849]) h0 h4
  have b1 := Int.emod_nonneg c (Int.ne_of_gt p18)
  have b2 := Int.emod_lt_of_pos c p18
  have hv : (10 : Int) ^ (18 : Int).toNat = 1000000000000000000 := by decide
  have hm : CMul (c % 10 ^ (18 : Int).toNat + 1) f := .inl ⟨by rw [hv] at *; omega, by rw [hv] at *; omega⟩
  have hp : (0 : Int) < 2305843009213693951 := by decide
  generalize hb : (c % 10 ^ (18 : Int).toNat + 1) * f % 2305843009213693951 = B
  refine ⟨(List.range n.toNat).map fun (j : Nat) => (Builtin.bitAnd (B / 2 ^ (j : Int).toNat) 1 == 1), run_rtO (seq_nx (set_is e1) (seq_nx (set_is (m2_eq (m2_eq (m2_eq (m2_eq rfl (m2_eq rfl rfl (dI_pos cp18)) (dI_pos p18)) rfl rfl) rfl (dI_pos hm)) rfl (dI_pos hp))) ?_)), ?_⟩
  · rw [hb, List.map_map]
    refine congrArg (Option.map Fl.rtO) (comp_f (List.range n.toNat) (fun (i : Nat) => D.int i) _ (rng1_eq rfl n0 (by omega)) (by rw [List.length_range]; omega) fun j hj => ?_)
    exact turn_T rfl rfl (m2_eq (m2_eq (m2_eq rfl rfl (dI_pos (Int.natCast_nonneg j))) rfl rfl) rfl rfl)
  · rw [List.length_map, List.length_range]
    omega
theorem cat_eq {f g : List Sl → Option D} {ρ : List Sl} {a b : List D} (h : f ρ = some (.lst a)) (h' : g ρ = some (.lst b)) (hl : a.length + b.length ≤ 16777216) : mCat f g ρ = some (a ++ b) := by
  unfold mCat
  rw [h, h']
  show (if a.length + b.length ≤ 16777216 then some (a ++ b) else none) = _
  rw [if_pos hl]

theorem items (cs : List Int) (n : Int) (n1 : 1 ≤ n) (n60 : n ≤ 60) (hc : cs.length ≤ 1000) : ∃ its : List (Int × Int), m__law_items [.lst (cs.map D.int), .int n] = some (.lst (its.map itD)) ∧ InN n.toNat its ∧ its.length = cs.length := by
  obtain ⟨ρ', e, its, v3, v4, v5, rfl, hin, hl⟩ := for_go (g := gSet 3)
    (F := (mSeq (mSet 4 (mCall m__law_mixed (mCons (mVar 3) (mCons (fun _ => some (.int 0)) (fun _ => some [])))))
    (mSeq (mSet 5 (m2 dMod (m2 dDiv (mVar 4) (mVar 1)) (fun _ => some (.int 4))))
    (mSeq (mIfS (mB (m2 dEq (m2 dMod (m2 dDiv (mVar 4) (m2 dMul (fun _ => some (.int 4)) (mVar 1))) (fun _ => some (.int 4))) (fun _ => some (.int 1)))) (mSet 5 (m2 dMod (mVar 3) (m2 dPow (fun _ => some (.int 10)) (fun _ => some (.int 60))))) mNext)
    (mApp 2 (mTup (mCons (m2 dMod (mVar 4) (mVar 1)) (mCons (mVar 5) (fun _ => some []))))))))) (fi := mSeqI (mVar 0)) (ρ := [.im (.lst (cs.map D.int)), .im (.int n), .own [], .no, .no, .no])
    cs D.int (fun pre ρ => ∃ (its : List (Int × Int)) (v3 v4 v5 : Sl), ρ = [.im (.lst (cs.map D.int)), .im (.int n), .own (its.map itD), v3, v4, v5] ∧ InN n.toNat its ∧ its.length = pre.length) rfl
    ⟨[], .no, .no, .no, rfl, (fun z hz => nomatch hz), rfl⟩ (by
      rintro pre c post ρ ex ⟨its, v3, v4, v5, rfl, hin, hl⟩
      obtain ⟨r, er, r0, r1⟩ := mixed c 0 (by decide) (by decide)
      have hlen : pre.length < cs.length := by rw [ex]; simp
      have w1 : 0 ≤ r / n % 4 := Int.emod_nonneg _ (by decide)
      have w2 : 0 ≤ c % 10 ^ (60 : Int).toNat := Int.emod_nonneg _ (Int.ne_of_gt p60)
      have step : ∀ w : Int, 0 ≤ w → ∃ ρ2, mApp 2 (mTup (mCons (m2 dMod (mVar 4) (mVar 1)) (mCons (mVar 5) (fun _ => some [])))) [.im (.lst (cs.map D.int)), .im (.int n), .own (its.map itD), .im (.int c), .im (.int r), .im (.int w)] = some (.nx ρ2) ∧
          ∃ (its : List (Int × Int)) (v3 v4 v5 : Sl), ρ2 = [.im (.lst (cs.map D.int)), .im (.int n), .own (its.map itD), v3, v4, v5] ∧ InN n.toNat its ∧ its.length = (pre ++ [c]).length := fun w hw => by
        refine ⟨_, app_eq (tup_eq (cons_eq (m2_eq rfl rfl (dI_pos (by omega))) (cons_eq rfl rfl))) rfl (by rw [List.length_map]; omega), its ++ [(r % n, w)], .im (.int c), .im (.int r), .im (.int w), ?_, ?_, ?_⟩
        · rw [List.map_append]
          rfl
        · intro z hz
          rcases List.mem_append.mp hz with hz | hz
          · exact hin z hz
          · have hz : z = (r % n, w) := by simpa using hz
            subst hz
            have a1 := Int.emod_nonneg r (show n ≠ 0 by omega)
            have a2 := Int.emod_lt_of_pos r (show 0 < n by omega)
            exact ⟨a1, by show r % n < _; omega, hw⟩
        · rw [List.length_append, List.length_append, hl]
          rfl
      cases hb : (r / (4 * n) % 4 == 1) with
      | true =>
        obtain ⟨ρ2, e2, q⟩ := step _ w2
        refine ⟨_, ρ2, rfl, .inl (seq_nx (set_is (call_is rfl er)) (seq_nx (set_is (m2_eq (m2_eq rfl rfl (dI_pos ⟨by omega, by omega⟩)) rfl (dI_pos (by decide)))) (seq_nx (if_T (mB_eq (m2_eq (m2_eq (m2_eq rfl (m2_eq rfl rfl (dI_pos (.inl ⟨by decide, by decide⟩))) (dI_pos ⟨by omega, by omega⟩)) rfl (dI_pos (by decide))) rfl ?_)) (set_is (m2_eq rfl (m2_eq rfl rfl (dI_pos cp60)) (dI_pos p60)))) e2))), q⟩
        rw [dEq_int, hb]
      | false =>
        obtain ⟨ρ2, e2, q⟩ := step _ w1
        refine ⟨_, ρ2, rfl, .inl (seq_nx (set_is (call_is rfl er)) (seq_nx (set_is (m2_eq (m2_eq rfl rfl (dI_pos ⟨by omega, by omega⟩)) rfl (dI_pos (by decide)))) (seq_nx (if_F (mB_eq (m2_eq (m2_eq (m2_eq rfl (m2_eq rfl rfl (dI_pos (.inl ⟨by decide, by decide⟩))) (dI_pos ⟨by omega, by omega⟩)) rfl (dI_pos (by decide))) rfl ?_)) rfl) e2))), q⟩
        rw [dEq_int, hb])
  exact ⟨its, run_rtO (seq_nx rfl (seq_nx e rfl)), hin, hl⟩
theorem worth_in_eq {es : List (Option Bool)} {its : List (Int × Int)} (h : InN es.length its) (hz : its.length ≤ 100000) : m_worth_in [.lst (its.map itD), .lst (es.map shD)] = some (.int (worthIf (· == some true) es its)) := by
  refine run_rt (ret_is (call_is (cons_eq (lst_eq (comp_ff its itD (fun z => es.getD z.1.toNat none == some true) (fun z => D.int z.2) rfl (by omega) fun z hz' => ?_)) rfl) (sum_worth (fun t => es.getD t.toNat none == some true) its)))
  exact turn_eq rfl (mB_eq (m2_eq (ix_eq rfl rfl (at_shD (h z hz').1 (h z hz').2.1)) rfl (is_sh _ _))) fun _ => rfl
theorem holds_disp {rs ws : List Bool} {fo : List Sl → Option D} {fa : List Sl → Option (List D)} {ρ : List Sl} (p : Prt) (h : p.Ok rs.length) (hw : ws.length = rs.length) (ho : fo ρ = some p.obj) (ha : fa ρ = some [.lst (rs.map D.bl), .lst (ws.map D.bl)]) :
    mOrE (mMeth "In" "holds" m_In_holds fo fa) (mOrE (mMeth "Out" "holds" m_Out_holds fo fa) (mOrE (mMeth "Least" "holds" m_Least_holds fo fa) (mMeth "Most" "holds" m_Most_holds fo fa))) ρ = some (.bl (p.holds rs ws)) := by
  have wi : ∀ (l : List Bool) (its : List (Int × Int)), InN l.length its → its.length ≤ 100000 → m_worth_in [.lst (its.map itD), .lst (l.map D.bl)] = some (.int (worthIf (· == some true) (bs l) its)) := fun l its h1 h2 => by
    rw [← bs_shD]
    exact worth_in_eq (by rw [bs_len]; exact h1) h2
  cases p with
  | inn t => exact orE_1 ((meth_is ho rfl ha).trans (run_rt (ret_is (ix_eq rfl rfl (at_blD h.1 h.2)))))
  | out t => exact orE_2 (meth_no ho (by decide)) (orE_1 ((meth_is ho rfl ha).trans (run_rt (ret_is (vNot_eq (ix_eq rfl rfl (at_blD h.1 (by rw [hw]; exact h.2))))))))
  | least k its => exact orE_2 (meth_no ho (by decide)) (orE_2 (meth_no ho (by decide)) (orE_1 ((meth_is ho rfl ha).trans (run_rt (ret_is (m2_eq (call_is rfl (wi rs its h.1 h.2)) rfl rfl))))))
  | most k its => exact orE_2 (meth_no ho (by decide)) (orE_2 (meth_no ho (by decide)) (orE_2 (meth_no ho (by decide)) ((meth_is ho rfl ha).trans (run_rt (ret_is (m2_eq (call_is rfl (wi ws its (by rw [hw]; exact h.1) h.2)) rfl rfl))))))

theorem zlst_eq {f : List Sl → Option (List D)} {ρ : List Sl} {ds : List D} (h : f ρ = some ds) : zLst f ρ = some (.lst (ds.map .fz)) := by
  unfold zLst
  rw [h]
  rfl
theorem zturn_T {g : D → List Sl → Option (List Sl)} {ft : List Sl → Option Bool} {fe : List Sl → Option O} {ρ ρ1 : List Sl} {d : D} {y : O} (h1 : g d ρ = some ρ1) (h2 : ft ρ1 = some true) (h3 : fe ρ1 = some y) : zTurn g ft fe ρ d = some (some y) := by
  unfold zTurn
  rw [h1, Option.bind_some, h2, Option.bind_some, if_pos rfl, h3]
  rfl
theorem zcomp_f {α : Type} {k : Nat} {js : List Nat} {fi : List Sl → Option (List D)} {g : D → List Sl → Option (List Sl)} {ft : List Sl → Option Bool} {fe : List Sl → Option O} {ρ : List Sl} (xs : List α) (f : α → D) (φ : α → O) (hi : fi ρ = some (xs.map f)) (hl : xs.length ≤ 16777216)
    (ht : ∀ x ∈ xs, zTurn g ft fe (compRo k js ρ) (f x) = some (some (φ x))) : zComp k js fi g ft fe ρ = some (.lst (xs.map φ)) := by
  unfold zComp
  rw [hi, Option.bind_some, if_pos (by rw [List.length_map]; exact hl), compZ_all f φ ht]
  rfl
theorem zcall_is {m : List D → Option O} {f : List Sl → Option (List D)} {ρ : List Sl} {ds : List D} {o : O} (h : f ρ = some ds) (h' : m ds = some o) : zCall m f ρ = some o := by
  unfold zCall
  rw [h, Option.bind_some, h']
theorem zcallF_is {m : List D → Option O} {f : List Sl → Option (List D)} {ρ : List Sl} {ds : List D} {o : O} (h : f ρ = some ds) (h' : m ds = some o) (hf : o.flat = true) : zCallF m f ρ = some o := by
  unfold zCallF
  rw [h, Option.bind_some, h', Option.bind_some, if_pos hf]
theorem zb_is {f : List Sl → Option O} {ρ : List Sl} {o : O} (h : f ρ = some o) (hk : o.kn = true) : zB f ρ = some o.toD := by
  unfold zB
  rw [h, Option.bind_some, if_pos hk]
theorem varB_deep {i : Nat} {ρ : List Sl} {o : O} (h : ρ[i]? = some (.deep o)) (hk : o.kn = true) : mVarB i ρ = some o.toD := by
  unfold mVarB
  rw [h]
  exact if_pos hk
theorem runT_of {n : Nat} {F : List Sl → Option Fl} {ds : List D} {o : O} (h : wp F (args0 n ds) (kRunT fun t => t = o)) : runT n F ds = some o := by
  obtain ⟨t, e, rfl⟩ := wp_runT h
  exact e
theorem flats_fz : ∀ (ds : List D), ds.all D.flat = true → O.flats (ds.map .fz) = true
  | [], _ => rfl
  | d :: ds, h => by
    rw [List.all_cons, Bool.and_eq_true] at h
    rw [List.map_cons, O.flats, O.flat, h.1, flats_fz ds h.2]
    rfl
theorem kns_fz : ∀ (ds : List D), O.kns (ds.map .fz) = true
  | [] => rfl
  | d :: ds => by rw [List.map_cons, O.kns, O.kn, kns_fz ds]; rfl
theorem kns_map {α : Type} (φ : α → O) : ∀ (xs : List α), (∀ x ∈ xs, (φ x).kn = true) → O.kns (xs.map φ) = true
  | [], _ => rfl
  | x :: xs, h => by rw [List.map_cons, O.kns, h x List.mem_cons_self, kns_map φ xs fun y hy => h y (List.mem_cons_of_mem _ hy)]; rfl
theorem toDs_map {α : Type} (φ : α → O) (f : α → D) : ∀ (xs : List α), (∀ x ∈ xs, (φ x).toD = f x) → O.toDs (xs.map φ) = xs.map f
  | [], _ => rfl
  | x :: xs, h => by rw [List.map_cons, O.toDs, h x List.mem_cons_self, toDs_map φ f xs fun y hy => h y (List.mem_cons_of_mem _ hy)]; rfl
theorem worthP_cong {p q : Int → Bool} {its : List (Int × Int)} (h : ∀ z ∈ its, p z.1 = q z.1) : worthP p its = worthP q its := by
  unfold worthP
  rw [List.filter_congr h]
theorem worth_bs {l : List Bool} {its : List (Int × Int)} (h : InN l.length its) : worthIf (· == some true) (bs l) its = worthP (fun t => l.getD t.toNat false) its := by
  rw [worthIf_P]
  refine worthP_cong fun z hz => ?_
  have := h z hz
  rw [bs_at (by omega)]
  cases l.getD z.1.toNat false <;> rfl
theorem come_b {l : List Bool} {its : List (Int × Int)} {js : List Nat} {fi : List Sl → Option (List D)} {ρ : List Sl} (h : InN l.length its) (hz : its.length ≤ 100000) (hi : fi ρ = some (its.map itD)) (hj : compRo 2 js ρ = [.no, .no, .im (.lst (l.map D.bl))]) :
    mCall sumD (mCons (mLst (mComp 2 js fi (gTupD (gsCons (gSet 0) (gsCons (gSet 1) gsNil))) (mTru (mIx (mVarC 2) (mVar 0))) (mVar 1))) (fun _ => some [])) ρ = some (.int (worthIf (· == some true) (bs l) its)) := by
  rw [worth_bs h]
  refine call_is (cons_eq (lst_eq (comp_ff its itD (fun z => l.getD z.1.toNat false) (fun z => D.int z.2) hi (by omega) fun z hz' => ?_)) rfl) (sum_worth (fun t => l.getD t.toNat false) its)
  rw [hj]
  exact turn_eq rfl (mTru_eq (ix_eq rfl rfl (at_blD (h z hz').1 (h z hz').2.1)) rfl) fun _ => rfl
theorem srt_eq {f : List Sl → Option D} {ρ : List Sl} {ns : List Int} (h : f ρ = some (.lst (ns.map D.int))) (h1 : ns.length < 4000) (h2 : (srtZ ns).length < 64) : mSrt f ρ = some ((srtZ ns).map D.int) := by
  unfold mSrt
  rw [h, Option.bind_some]
  show (zsD (ns.map D.int)).bind _ = _
  rw [zsD_ints, Option.bind_some, if_pos ⟨h1, h2⟩]
theorem srt_le {n : Nat} {ns : List Int} (h : ∀ x ∈ ns, 0 ≤ x ∧ x < (n : Int)) : (srtZ ns).length ≤ n := by
  have nd : (srtZ ns).Nodup := (ris_srtZ ns).imp fun h => Int.ne_of_lt h
  by_cases hl : (srtZ ns).length ≤ n
  · exact hl
  · have hs : ∀ x ∈ srtZ ns, x ∈ (List.range n).map fun (i : Nat) => (i : Int) := fun x hx => by
      obtain ⟨a, b⟩ := h x ((mem_srtZ x ns).mp hx)
      exact List.mem_map.mpr ⟨x.toNat, List.mem_range.mpr (by omega), by omega⟩
    have p := perm_of_len (srtZ ns) _ nd hs (by rw [List.length_map, List.length_range]; omega)
    have := p.length_eq
    rw [List.length_map, List.length_range] at this
    omega

noncomputable def objO (p : Prt) : O := match p with
  | .inn t => .ins "In" ["thing"] [.fz (.int t)]
  | .out t => .ins "Out" ["thing"] [.fz (.int t)]
  | .least k its => .ins "Least" ["bound", "pieces"] [.fz (.int k), .lst ((its.map itD).map .fz)]
  | .most k its => .ins "Most" ["bound", "pieces"] [.fz (.int k), .lst ((its.map itD).map .fz)]
noncomputable def pT (p : Prt) : O := match p with
  | .inn t => .tup [.fz (.str "in"), .fz (.int t)]
  | .out t => .tup [.fz (.str "out"), .fz (.int t)]
  | .least k its => .tup [.fz (.str "least"), .fz (.int k), .lst ((its.map itD).map .fz)]
  | .most k its => .tup [.fz (.str "most"), .fz (.int k), .lst ((its.map itD).map .fz)]
noncomputable def nmL (p : Prt) : List Int := match p with
  | .inn t => [t]
  | .out t => [t]
  | .least _ its => srtZ (its.map (·.1))
  | .most _ its => srtZ (its.map (·.1))
theorem its_flat (its : List (Int × Int)) : O.flats ((its.map itD).map .fz) = true := flats_fz _ (by rw [List.all_map]; exact List.all_eq_true.mpr fun _ _ => rfl)
theorem obj_d (p : Prt) : (objO p).toD = p.obj := by cases p <;> simp only [objO, O.toD, O.toDs, toDs_fz] <;> rfl
theorem obj_k (p : Prt) : (objO p).kn = true := by cases p <;> simp only [objO, O.kn, O.kns, kns_fz, Bool.true_and, Bool.and_true]
theorem obj_f (p : Prt) : (objO p).flat = true := by cases p <;> simp only [objO, O.flat, O.flats, its_flat, Bool.true_and, Bool.and_true] <;> rfl
theorem pT_d (p : Prt) : (pT p).toD = p.toD := by cases p <;> simp only [pT, O.toD, O.toDs, toDs_fz] <;> rfl
theorem pT_k (p : Prt) : (pT p).kn = true := by cases p <;> simp only [pT, O.kn, O.kns, kns_fz, Bool.true_and, Bool.and_true]
theorem told_eq (p : Prt) {fo : List Sl → Option D} {ρ : List Sl} (h : fo ρ = some p.obj) : zOr (zMeth "In" "told" t_In_told fo) (zOr (zMeth "Out" "told" t_Out_told fo) (zOr (zMeth "Least" "told" t_Least_told fo) (zMeth "Most" "told" t_Most_told fo))) ρ = some (pT p) := by
  unfold zOr zMeth
  rw [h]
  cases p <;> rfl
theorem things_o {n : Nat} {its : List (Int × Int)} (h : InN n its) (hn : n ≤ 60) (hz : its.length ≤ 1000) : o_things_of [.lst (its.map itD)] = some ((srtZ (its.map (·.1))).map D.int) := by
  have hs : (srtZ (its.map (·.1))).length ≤ n := srt_le fun x hx => by obtain ⟨z, hz, rfl⟩ := List.mem_map.mp hx; exact ⟨(h z hz).1, (h z hz).2.1⟩
  refine runO_of (congrArg (Option.map Fl.rtO) (srt_eq (lst_eq ?_) (by rw [List.length_map]; omega) (by omega)))
  rw [List.map_map]
  exact comp_f its itD (fun z => D.int z.1) rfl (by omega) fun z _ => turn_T rfl rfl rfl
structure POk (n : Nat) (p : Prt) : Prop where
  ok : p.Ok n
  n60 : n ≤ 60
  len : ∀ k its, (p = .least k its ∨ p = .most k its) → its.length ≤ 1000
theorem zor_1 {f g : List Sl → Option O} {ρ : List Sl} {o : O} (h : f ρ = some o) : zOr f g ρ = some o := by unfold zOr; rw [h]; rfl
theorem zor_2 {f g : List Sl → Option O} {ρ : List Sl} {r : Option O} (h : f ρ = none) (h' : g ρ = r) : zOr f g ρ = r := by unfold zOr; rw [h, h']; cases r <;> rfl
theorem zmeth_no {cn f c' : Str} {m : List D → Option O} {fo : List Sl → Option D} {ρ : List Sl} {ns : List Str} {ds : List D} (ho : fo ρ = some (.ins c' ns ds)) (h : ¬ c' = cn) : zMeth cn f m fo ρ = none := by
  unfold zMeth
  rw [ho]
  exact if_neg fun z => h z.1
theorem zmeth_is {cn f : Str} {m : List D → Option O} {fo : List Sl → Option D} {ρ : List Sl} {ns : List Str} {ds : List D} (ho : fo ρ = some (.ins cn ns ds)) (h : ns.contains f = false) : zMeth cn f m fo ρ = m [.ins cn ns ds] := by
  unfold zMeth
  rw [ho]
  exact if_pos ⟨rfl, h⟩
theorem named_eq {n : Nat} (p : Prt) (hp : POk n p) {fo : List Sl → Option D} {ρ : List Sl} (h : fo ρ = some p.obj) : zOr (zMeth "In" "named" t_In_named fo) (zOr (zMeth "Out" "named" t_Out_named fo) (zOr (zMeth "Least" "named" t_Least_named fo) (zMeth "Most" "named" t_Most_named fo))) ρ = some (.lst (((nmL p).map D.int).map .fz)) := by
  cases p with
  | inn t => exact zor_1 ((zmeth_is h rfl).trans rfl)
  | out t => exact zor_2 (zmeth_no h (by decide)) (zor_1 ((zmeth_is h rfl).trans rfl))
  | least k its =>
    have e : t_Least_named [Prt.obj (.least k its)] = some (.lst (((srtZ (its.map (·.1))).map D.int).map .fz)) := by
      apply runT_of
      unfold b_Least_named
      exact wp_retO (callO_is (cons_eq rfl rfl) (things_o hp.ok.1 hp.n60 (hp.len k its (.inl rfl)))) ⟨_, rfl, rfl⟩
    exact zor_2 (zmeth_no h (by decide)) (zor_2 (zmeth_no h (by decide)) (zor_1 ((zmeth_is h rfl).trans e)))
  | most k its =>
    have e : t_Most_named [Prt.obj (.most k its)] = some (.lst (((srtZ (its.map (·.1))).map D.int).map .fz)) := by
      apply runT_of
      unfold b_Most_named
      exact wp_retO (callO_is (cons_eq rfl rfl) (things_o hp.ok.1 hp.n60 (hp.len k its (.inr rfl)))) ⟨_, rfl, rfl⟩
    exact zor_2 (zmeth_no h (by decide)) (zor_2 (zmeth_no h (by decide)) (zor_2 (zmeth_no h (by decide)) ((zmeth_is h rfl).trans e)))
theorem part_of_t (p : Prt) : t_part_of [p.toD] = some (objO p) := by cases p <;> rfl

theorem whole_eq (k : Int) : m__law_whole [.int k] = some (.bl true) := rfl
theorem pair_eq (z : Int × Int) : m__law_pair [itD z] = some (.bl true) := rfl
theorem plainP (p : Prt) : Plain 20 p.toD := (plain_part p).le (by decide)
theorem law_told_eq {n : Nat} (p : Prt) (hp : POk n p) : m__law_told [p.toD, p.toD] = some (.bl true) := by
  have fil : ∀ (s : Str) (k : Int) (its : List (Int × Int)), its.length ≤ 1000 → mB (m2 dNe (mLst (mComp 1 [] (mSeqI (mIx (mVarC 0) (fun _ => some (.int 2)))) (gSet 0) (mNot (mTru (mCall m__law_pair (mCons (mVar 0) (fun _ => some []))))) (mVar 0))) (mLst (fun _ => some []))) [.im (.tup [.str s, .int k, .lst (its.map itD)]), .im (.tup [.str s, .int k, .lst (its.map itD)])] = some false := fun s k its hl => by
    have : mComp 1 [] (mSeqI (mIx (mVarC 0) (fun _ => some (.int 2)))) (gSet 0) (mNot (mTru (mCall m__law_pair (mCons (mVar 0) (fun _ => some []))))) (mVar 0) [.im (.tup [.str s, .int k, .lst (its.map itD)]), .im (.tup [.str s, .int k, .lst (its.map itD)])] = some [] := by
      refine (comp_ff its itD (fun _ => false) itD rfl (by omega) fun z _ => turn_eq rfl (mNot_eq (b := true) (mTru_eq (call_is rfl (pair_eq z)) rfl)) fun _ => rfl).trans ?_
      rw [List.filter_eq_nil_iff.mpr (fun _ _ => Bool.false_ne_true)]
      rfl
    exact mB_eq (m2_eq (lst_eq this) rfl rfl)
  have pl := plainP p
  apply wp_runE
  unfold b__law_told
  cases p with
  | inn t =>
    refine wp_seq (wp_if (b := false) rfl (fun z => by cases z) (fun _ => wp_next (wp_seq (wp_if (b := false) rfl (fun z => by cases z) (fun _ => wp_next (wp_seq (wp_if (b := false) rfl (fun z => by cases z) (fun _ => wp_next ?_))))))))
    exact wp_ret (m2_eq rfl rfl (dEq_self pl)) (k_rt rfl)
  | out t =>
    refine wp_seq (wp_if (b := false) rfl (fun z => by cases z) (fun _ => wp_next (wp_seq (wp_if (b := false) rfl (fun z => by cases z) (fun _ => wp_next (wp_seq (wp_if (b := false) rfl (fun z => by cases z) (fun _ => wp_next ?_))))))))
    exact wp_ret (m2_eq rfl rfl (dEq_self pl)) (k_rt rfl)
  | least k its =>
    refine wp_seq (wp_if (b := false) rfl (fun z => by cases z) (fun _ => wp_next (wp_seq (wp_if (b := false) rfl (fun z => by cases z) (fun _ => wp_next (wp_seq (wp_if (b := true) rfl (fun _ => wp_if (b := false) (mOr_F rfl (fil "least" k its (hp.len k its (.inl rfl)))) (fun z => by cases z) (fun _ => wp_next ?_)) (fun z => by cases z))))))))
    exact wp_ret (m2_eq rfl rfl (dEq_self pl)) (k_rt rfl)
  | most k its =>
    refine wp_seq (wp_if (b := false) rfl (fun z => by cases z) (fun _ => wp_next (wp_seq (wp_if (b := false) rfl (fun z => by cases z) (fun _ => wp_next (wp_seq (wp_if (b := true) rfl (fun _ => wp_if (b := false) (mOr_F rfl (fil "most" k its (hp.len k its (.inr rfl)))) (fun z => by cases z) (fun _ => wp_next ?_)) (fun z => by cases z))))))))
    exact wp_ret (m2_eq rfl rfl (dEq_self pl)) (k_rt rfl)
theorem nm_len {n : Nat} (p : Prt) (hp : POk n p) : (nmL p).length ≤ 60 := by
  cases p with
  | inn t => show 1 ≤ 60; decide
  | out t => show 1 ≤ 60; decide
  | least k its => exact Nat.le_trans (srt_le fun x hx => by obtain ⟨z, hz, rfl⟩ := List.mem_map.mp hx; exact ⟨(hp.ok.1 z hz).1, (hp.ok.1 z hz).2.1⟩) hp.n60
  | most k its => exact Nat.le_trans (srt_le fun x hx => by obtain ⟨z, hz, rfl⟩ := List.mem_map.mp hx; exact ⟨(hp.ok.1 z hz).1, (hp.ok.1 z hz).2.1⟩) hp.n60
theorem law_named_eq {n : Nat} (p : Prt) (hp : POk n p) : m__law_named [.lst ((nmL p).map D.int), p.toD] = some (.bl true) := by
  have hl := nm_len p hp
  have pl : Plain 20 (.lst ((nmL p).map D.int)) := (plain_ints _).le (by decide)
  apply wp_runE
  unfold b__law_named
  show wp _ [.im (.lst ((nmL p).map D.int)), .im p.toD] _
  apply wp_seq
  refine wp_if (b := false) (mOr_F rfl ?_) (fun z => by cases z) (fun _ => wp_next ?_)
  · have : mComp 1 [] (mSeqI (mVar 0)) (gSet 0) (mNot (mTru (mCall m__law_whole (mCons (mVar 0) (fun _ => some []))))) (mVar 0) [.im (.lst ((nmL p).map D.int)), .im p.toD] = some [] := by
      refine (comp_ff (nmL p) D.int (fun _ => false) D.int rfl (by omega) fun k _ => turn_eq rfl (mNot_eq (b := true) (mTru_eq (call_is rfl (whole_eq k)) rfl)) fun _ => rfl).trans ?_
      rw [List.filter_eq_nil_iff.mpr (fun _ _ => Bool.false_ne_true)]
      rfl
    exact mB_eq (m2_eq (lst_eq this) rfl rfl)
  walk_at "nrm"
  have srt : ∀ (s : Str) (k : Int) (its : List (Int × Int)) (f : D), InN n its → its.length ≤ 1000 → mSrt (mLst (mComp 2 [] (mSeqI (mIx (mVarC 1) (fun _ => some (.int 2)))) (gTupD (gsCons (gSet 0) (gsCons (gSet 1) gsNil))) (fun _ => some true) (mVar 0))) [.im f, .im (.tup [.str s, .int k, .lst (its.map itD)])] = some ((srtZ (its.map (·.1))).map D.int) := fun s k its f hi hz => by
    have hs : (srtZ (its.map (·.1))).length ≤ n := srt_le fun x hx => by obtain ⟨z, hz, rfl⟩ := List.mem_map.mp hx; exact ⟨(hi z hz).1, (hi z hz).2.1⟩
    have n60 := hp.n60
    refine srt_eq (lst_eq ?_) (by rw [List.length_map]; omega) (by omega)
    rw [List.map_map]
    exact comp_f its itD (fun z => D.int z.1) rfl (by omega) fun z _ => turn_T rfl rfl rfl
  cases p with
  | inn t => exact wp_seq (wp_if (b := false) rfl (fun z => by cases z) (fun _ => wp_next (wp_ret (m2_eq rfl rfl (dEq_self pl)) (k_rt rfl))))
  | out t => exact wp_seq (wp_if (b := false) rfl (fun z => by cases z) (fun _ => wp_next (wp_ret (m2_eq rfl rfl (dEq_self pl)) (k_rt rfl))))
  | least k its => exact wp_seq (wp_if (b := true) rfl (fun _ => wp_ret (m2_eq rfl (lst_eq (srt "least" k its _ hp.ok.1 (hp.len k its (.inl rfl)))) (dEq_self pl)) (k_rt rfl)) (fun z => by cases z))
  | most k its => exact wp_seq (wp_if (b := true) rfl (fun _ => wp_ret (m2_eq rfl (lst_eq (srt "most" k its _ hp.ok.1 (hp.len k its (.inr rfl)))) (dEq_self pl)) (k_rt rfl)) (fun z => by cases z))
noncomputable def plc (p : Prt) : Nat := match p with
  | .inn _ => 0
  | .out _ => 1
  | .least _ _ => 2
  | .most _ _ => 3
theorem looked_eq {n : Nat} (p : Prt) (hp : POk n p) : m__law_looked [p.obj, p.toD, .int (plc p)] = some (.bl true) := by
  apply wp_runE
  unfold b__law_looked
  show wp _ [.im p.obj, .im p.toD, .im (.int (plc p)), .no, .no, .no] _
  have nl := nm_len p hp
  have kL : (O.lst (((nmL p).map D.int).map .fz)).kn = true := kns_fz _
  have dL : (O.lst (((nmL p).map D.int).map .fz)).toD = .lst ((nmL p).map D.int) := by simp only [O.toD, toDs_fz]
  have lt := law_told_eq p hp
  have ln := law_named_eq p hp
  apply wp_seq
  refine wp_if (b := false) (mB_eq (m2_eq (x := .lst ([true, plc p == 0, plc p == 1, plc p == 2, plc p == 3].map D.bl)) (y := .lst ([D.bl true] ++ (List.range 4).map fun (i : Nat) => D.bl ((i : Int) == (plc p : Int)))) ?_ (lst_eq (cat_eq (by rfl) (lst_eq (comp_f (List.range 4) (fun (i : Nat) => D.int i) (fun (i : Nat) => D.bl ((i : Int) == (plc p : Int))) (rng1_eq (n := 4) (cons_eq rfl rfl) (by decide) (by decide)) (by decide) fun i _ => turn_T rfl rfl (m2_eq rfl rfl (dEq_int _ _)))) (by rw [List.length_map, List.length_range]; decide))) ?_)) (fun z => by cases z) (fun _ => wp_next ?_)
  · cases p <;> rfl
  · cases p <;> rfl
  walk_at "nrm"
  apply wp_seq
  refine wp_setZ (told_eq p rfl) ?_
  walk_at "nrm"
  apply wp_seq
  refine wp_setZ (told_eq p rfl) ?_
  walk_at "nrm"
  apply wp_seq
  refine wp_setZ (named_eq p hp rfl) ?_
  walk_at "nrm"
  have nt : ∀ {f : List Sl → Option D} {ρ : List Sl}, f ρ = some (.bl true) → mNot (mTru f) ρ = some false := fun e => mNot_eq (b := true) (mTru_eq e rfl)
  have ct : ∀ {f g : List Sl → Option D} {ρ : List Sl}, f ρ = some (pT p).toD → g ρ = some p.toD → mCallS m__law_told (mCons f (mCons g (fun _ => some []))) ρ = some (.bl true) := fun h1 h2 => callS_is (cons_eq h1 (cons_eq h2 rfl)) (by rw [pT_d]; exact lt) rfl
  have cn : ∀ {f g : List Sl → Option D} {ρ : List Sl}, f ρ = some (O.lst (((nmL p).map D.int).map .fz)).toD → g ρ = some p.toD → mCallS m__law_named (mCons f (mCons g (fun _ => some []))) ρ = some (.bl true) := fun h1 h2 => callS_is (cons_eq h1 (cons_eq h2 rfl)) (by rw [dL]; exact ln) rfl
  apply wp_seq
  refine wp_if (b := false) (mOr_F (nt (ct (varB_deep rfl (pT_k p)) rfl)) (mOr_F (nt (ct (varB_deep rfl (pT_k p)) rfl)) (nt (cn (varB_deep rfl kL) rfl)))) (fun z => by cases z) (fun _ => wp_next ?_)
  walk_at "nrm"
  apply wp_seq
  refine wp_appZ (o := .fz (.int (-1))) rfl rfl (by rw [List.length_map, List.length_map]; omega) ?_
  walk_at "nrm"
  have fin : ∀ v4 v5 : Sl, wp (mRet (vAnd (mCallS m__law_told (mCons (mVarB 3) (mCons (mVar 1) (fun _ => some [])))) (vAnd (mCallS m__law_told (mCons (zB (zOr (zMeth "In" "told" t_In_told (mVar 0)) (zOr (zMeth "Out" "told" t_Out_told (mVar 0)) (zOr (zMeth "Least" "told" t_Least_told (mVar 0)) (zMeth "Most" "told" t_Most_told (mVar 0)))))) (mCons (mVar 1) (fun _ => some [])))) (mCallS m__law_named (mCons (zB (zOr (zMeth "In" "named" t_In_named (mVar 0)) (zOr (zMeth "Out" "named" t_Out_named (mVar 0)) (zOr (zMeth "Least" "named" t_Least_named (mVar 0)) (zMeth "Most" "named" t_Most_named (mVar 0)))))) (mCons (mVar 1) (fun _ => some []))))))) [.im p.obj, .im p.toD, .im (.int (plc p)), .deep (pT p), v4, v5] (kRun fun d => d = .bl true) := fun v4 v5 =>
    wp_ret (vAnd_eq (a := true) (b := true) (ct (varB_deep rfl (pT_k p)) rfl) (vAnd_eq (a := true) (b := true) (ct (zb_is (told_eq p rfl) (pT_k p)) rfl) (cn (zb_is (named_eq p hp rfl) kL) rfl))) (k_rt rfl)
  apply wp_seq
  cases p with
  | inn t => exact wp_if (b := false) rfl (fun z => by cases z) (fun _ => wp_next (fin _ _))
  | out t => exact wp_if (b := false) rfl (fun z => by cases z) (fun _ => wp_next (fin _ _))
  | least k its =>
    have ap : (O.lst ((its.map itD).map .fz)).appd (.tup [.int 0, .int 7]) = some (.lst ((its.map itD).map .fz ++ [.fz (.tup [.int 0, .int 7])])) := if_pos (by rw [List.length_map, List.length_map]; have := hp.len k its (.inl rfl); omega)
    exact wp_if (b := true) rfl (fun _ => wp_appAt rfl rfl rfl ap (fin _ _)) (fun z => by cases z)
  | most k its =>
    have ap : (O.lst ((its.map itD).map .fz)).appd (.tup [.int 0, .int 7]) = some (.lst ((its.map itD).map .fz ++ [.fz (.tup [.int 0, .int 7])])) := if_pos (by rw [List.length_map, List.length_map]; have := hp.len k its (.inr rfl); omega)
    exact wp_if (b := true) rfl (fun _ => wp_appAt rfl rfl rfl ap (fin _ _)) (fun z => by cases z)

theorem counted_eq {l : List Bool} (p : Prt) (hp : POk l.length p) (h2 : plc p = 2 ∨ plc p = 3) : m__law_counted [p.obj, p.toD, .lst (l.map D.bl)] = some (.bl true) := by
  apply wp_runE
  unfold b__law_counted
  show wp _ [.im p.obj, .im p.toD, .im (.lst (l.map D.bl)), .no, .no] _
  have n60 := hp.n60
  apply wp_seq
  refine wp_set (d := .lst ((l.map fun _ => false).map D.bl)) (lst_eq ?_) ?_
  · rw [List.map_map]
    exact comp_f l D.bl (fun _ => D.bl false) rfl (by omega) fun x _ => turn_T rfl rfl rfl
  walk_at "nrm"
  have fl : (l.map fun _ => false).length = l.length := List.length_map _
  cases p with
  | inn t => rcases h2 with h | h <;> cases h
  | out t => rcases h2 with h | h <;> cases h
  | least k its =>
    have hz := hp.len k its (.inl rfl)
    apply wp_seq
    refine wp_if (b := true) rfl (fun _ => ?_) (fun z => by cases z)
    apply wp_seq
    refine wp_set (holds_disp (rs := l) (ws := l.map fun _ => false) (.least k its) hp.ok fl rfl (cons_eq rfl (cons_eq rfl rfl))) ?_
    walk_at "nrm"
    refine wp_ret (m2_eq rfl (m2_eq (come_b hp.ok.1 (by omega) rfl rfl) rfl dGe_eq) (dEq_bl _ _)) (k_rt ?_)
    rw [show (Prt.least k its).holds l (l.map fun _ => false) = decide (k ≤ worthIf (· == some true) (bs l) its) from rfl, beq_self_eq_true]
  | most k its =>
    have hz := hp.len k its (.inr rfl)
    apply wp_seq
    refine wp_if (b := false) rfl (fun z => by cases z) (fun _ => wp_next ?_)
    walk_at "nrm"
    apply wp_seq
    refine wp_set (holds_disp (rs := l.map fun _ => false) (ws := l) (.most k its) (by rw [fl]; exact hp.ok) fl.symm rfl (cons_eq rfl (cons_eq rfl rfl))) ?_
    walk_at "nrm"
    refine wp_ret (m2_eq rfl (m2_eq (come_b hp.ok.1 (by omega) rfl rfl) rfl dLe_eq) (dEq_bl _ _)) (k_rt ?_)
    rw [show (Prt.most k its).holds (l.map fun _ => false) l = decide (worthIf (· == some true) (bs l) its ≤ k) from rfl, beq_self_eq_true]
theorem like_one {j : Nat} {a b : List Sl} (h : Like [j] a b) : ∃ z, a = b.set j z := by
  obtain ⟨hl, he⟩ := h
  refine ⟨(a[j]?).getD .no, List.ext_getElem? fun m => ?_⟩
  by_cases hm : m = j
  · subst hm
    by_cases hj : m < b.length
    · rw [List.getElem?_set_self hj, List.getElem?_eq_getElem (by omega)]
      rfl
    · rw [List.getElem?_eq_none (by omega), List.getElem?_eq_none (by rw [List.length_set]; omega)]
  · rw [List.getElem?_set_ne (Ne.symm hm)]
    exact he m (fun z => hm (List.mem_singleton.mp z))
theorem set_like (j : Nat) (b : List Sl) (z : Sl) : Like [j] (b.set j z) b := ⟨by rw [List.length_set], fun m hm => List.getElem?_set_ne fun e => hm (List.mem_singleton.mpr e.symm)⟩
theorem rng24 : mRng (mCons (fun _ => some (.int 2)) (mCons (fun _ => some (.int 4)) (fun _ => some []))) = fun _ => some ((List.range 2).map fun (i : Nat) => D.int (2 + (i : Int))) := by
  funext ρ
  rfl
theorem law_true (ns : List Int) (hn : ns.length ≤ 63) : m_law [.kl (ns.map D.int)] = some (.bl true) := by
  apply wp_runE
  unfold b_law
  show wp _ [.im (.kl (ns.map D.int)), .no, .no, .no, .no, .no, .no, .no, .no, .no, .no, .no, .no, .no, .no] _
  obtain ⟨c0, k0⟩ := cell_at ns 0 (by decide)
  obtain ⟨c1, k1⟩ := cell_at ns 1 (by decide)
  obtain ⟨m, em, m0, m1⟩ := mixed c0 1 (by decide) (by decide)
  have a0 : 0 ≤ m % 60 := Int.emod_nonneg _ (by decide)
  have a1 : m % 60 < 60 := Int.emod_lt_of_pos _ (by decide)
  generalize hN : 1 + m % 60 = n
  have n1 : 1 ≤ n := by omega
  have n60 : n ≤ 60 := by omega
  have hcl : ((ns.drop (HT.sIx ns.length 0 (some 2))).take (HT.sIx ns.length ns.length (some 62) - HT.sIx ns.length 0 (some 2))).length ≤ ns.length := Nat.le_trans (List.length_take_le' _ _) (by rw [List.length_drop]; exact Nat.sub_le _ _)
  obtain ⟨its, ei, hin, hil⟩ := items ((ns.drop (HT.sIx ns.length 0 (some 2))).take (HT.sIx ns.length ns.length (some 62) - HT.sIx ns.length 0 (some 2))) n n1 n60 (by omega)
  obtain ⟨l, el, hl⟩ := truths c1 n 0 (by decide) (by decide) (by omega) n60
  have ll : l.length = n.toNat := by omega
  have t0 : 0 ≤ m / 240 % n := Int.emod_nonneg _ (by omega)
  have t1 : m / 240 % n < n := Int.emod_lt_of_pos _ (by omega)
  generalize hT : m / 240 % n = t at t0 t1
  obtain ⟨b, hb, eb⟩ := atD_ok (f := D.int) (xs := [(its.map (·.2)).sum, 0 - c1 % 10 ^ (60 : Int).toNat, c1 % 10 ^ (60 : Int).toNat, (its.map (·.2)).sum + 1]) (i := m / 60 % 4) (Int.emod_nonneg _ (by decide)) (Int.emod_lt_of_pos _ (by decide))
  apply wp_seq
  refine wp_set (call_is (cons_eq (call_is (cons_eq rfl (cons_eq rfl rfl)) k0) (cons_eq rfl rfl)) em) ?_
  walk_at "nrm"
  apply wp_seq
  refine wp_set (d := .int n) (by rw [← hN]; exact m2_eq rfl (m2_eq rfl rfl (dMod_eq (by decide))) dAdd_eq) ?_
  walk_at "nrm"
  apply wp_seq
  refine wp_set (call_is (cons_eq (lst_eq (sl_kl rfl rfl rfl)) (cons_eq rfl rfl)) ei) ?_
  walk_at "nrm"
  apply wp_seq
  refine wp_set (call_is (cons_eq (call_is (cons_eq rfl (cons_eq rfl rfl)) k1) (cons_eq rfl (cons_eq rfl rfl))) el) ?_
  walk_at "nrm"
  apply wp_seq
  refine wp_set (d := .int (its.map (·.2)).sum) (call_is (cons_eq (lst_eq (comp_f its itD (fun z => D.int z.2) rfl (by omega) fun z _ => turn_T rfl rfl rfl)) rfl) (by rw [show (its.map fun z => D.int z.2) = (its.map (·.2)).map D.int by rw [List.map_map]; rfl]; exact sum_is)) ?_
  walk_at "nrm"
  apply wp_seq
  refine wp_set (m2_eq (call_is (cons_eq rfl (cons_eq rfl rfl)) k1) (m2_eq rfl rfl (dPow_eq cp60)) (dMod_eq p60)) ?_
  walk_at "nrm"
  apply wp_seq
  refine wp_set (d := .int b) (ix_eq (cons_eq rfl (cons_eq (m2_eq rfl rfl dSub_eq) (cons_eq rfl (cons_eq (m2_eq rfl rfl dAdd_eq) rfl)))) (m2_eq (m2_eq rfl rfl (dDiv_eq ⟨by decide, by decide⟩)) rfl (dMod_eq (by decide))) eb) ?_
  walk_at "nrm"
  apply wp_seq
  refine wp_set (d := .int t) (by rw [← hT]; exact m2_eq (m2_eq rfl rfl (dDiv_eq ⟨by decide, by decide⟩)) rfl (dMod_eq (by omega))) ?_
  walk_at "nrm"
  let ps : List Prt := [.inn t, .out t, .least b its, .most b its]
  have hps : ∀ p ∈ ps, POk l.length p := fun p hp => by
    have h3 : p = .inn t ∨ p = .out t ∨ p = .least b its ∨ p = .most b its := by simpa [ps] using hp
    rw [ll]
    rcases h3 with rfl | rfl | rfl | rfl
    · exact ⟨⟨t0, by omega⟩, by omega, fun k its h => by rcases h with h | h <;> cases h⟩
    · exact ⟨⟨t0, by omega⟩, by omega, fun k its h => by rcases h with h | h <;> cases h⟩
    · exact ⟨⟨hin, by omega⟩, by omega, fun k its h => by rcases h with h | h <;> cases h; omega⟩
    · exact ⟨⟨hin, by omega⟩, by omega, fun k its h => by rcases h with h | h <;> cases h; omega⟩
  let row : O := .lst ((its.map itD).map .fz)
  have row_k : row.kn = true := kns_fz _
  have row_d : row.toD = .lst (its.map itD) := by simp only [row, O.toD, toDs_fz]
  have hd_k : (O.lst [row, row, row, row]).kn = true := by simp only [O.kn, O.kns, row_k, Bool.true_and]
  have hd_d : (O.lst [row, row, row, row]).toD = .lst [.lst (its.map itD), .lst (its.map itD), .lst (its.map itD), .lst (its.map itD)] := by simp only [O.toD, O.toDs, row_d]
  have pk : (O.lst (ps.map objO)).kn = true := kns_map objO ps fun p _ => obj_k p
  have pd : (O.lst (ps.map objO)).toD = .lst (ps.map Prt.obj) := by simp only [O.toD, toDs_map objO Prt.obj ps fun p _ => obj_d p]
  apply wp_seq
  refine wp_set (d := .lst (ps.map Prt.toD)) rfl ?_
  walk_at "nrm"
  apply wp_seq
  refine wp_setZ (o := .lst [row, row, row, row]) (zcomp_f (List.range 4) (fun (i : Nat) => D.int i) (fun _ => row) (rng1_eq (n := 4) (cons_eq rfl rfl) (by decide) (by decide)) (by decide) fun i _ => zturn_T rfl rfl (zlst_eq rfl)) ?_
  walk_at "nrm"
  have ixh : ∀ (j : Int) (ρ : List Sl), ρ[10]? = some (.deep (.lst [row, row, row, row])) → 0 ≤ j → j < 4 → mIx (mSeqI (mVarB 10)) (fun _ => some (.int j)) ρ = some (.lst (its.map itD)) := fun j ρ h j0 j4 => by
    refine ix_eq (seqI_eq (by rw [varB_deep h hd_k, hd_d]) rfl) rfl ?_
    have : j = 0 ∨ j = 1 ∨ j = 2 ∨ j = 3 := by omega
    rcases this with rfl | rfl | rfl | rfl <;> rfl
  have mkL : O.flats [.fz (.int b), row] = true := by simp only [O.flats, O.flat, row, its_flat, Bool.true_and, Bool.and_true]; rfl
  have mk : ∀ (cn : Str) (z : List D → Option (List Str × List O)) (j : Int) (ρ : List Sl), ρ[10]? = some (.deep (.lst [row, row, row, row])) → ρ[8]? = some (.im (.int b)) → 0 ≤ j → j < 4 → z [.int b, .lst (its.map itD)] = some (((["bound", "pieces"] : List Str), [.fz (.int b), row])) →
      zMakeF cn z (mCons (mVar 8) (mCons (mIx (mSeqI (mVarB 10)) (fun _ => some (.int j))) (fun _ => some []))) ρ = some (.ins cn ["bound", "pieces"] [.fz (.int b), row]) := fun cn z j ρ h10 h8 j0 j4 hz => by
    unfold zMakeF
    rw [cons_eq (d := .int b) (by unfold mVar; rw [h8]) (cons_eq (ixh j ρ h10 j0 j4) rfl), Option.bind_some, hz, Option.bind_some, if_pos mkL]
  apply wp_seq
  have zl4 : ∀ {f1 f2 f3 f4 : List Sl → Option O} {ρ : List Sl} {o1 o2 o3 o4 : O}, f1 ρ = some o1 → f2 ρ = some o2 → f3 ρ = some o3 → f4 ρ = some o4 → zList (zCons f1 (zCons f2 (zCons f3 (zCons f4 (fun _ => some []))))) ρ = some (.lst [o1, o2, o3, o4]) := fun h1 h2 h3 h4 => by
    unfold zList zCons
    rw [h1, h2, h3, h4]
    rfl
  refine wp_setZ (o := .lst (ps.map objO)) (zl4 (o1 := objO (.inn t)) (o2 := objO (.out t)) rfl rfl (mk "Least" z_Least 0 _ rfl rfl (by decide) (by decide) rfl) (mk "Most" z_Most 1 _ rfl rfl (by decide) (by decide) rfl)) ?_
  walk_at "nrm"
  have zl2 : ∀ {f g : List Sl → Option O} {ρ : List Sl} {o o' : O}, f ρ = some o → g ρ = some o' → zList (zCons f (zCons g (fun _ => some []))) ρ = some (.lst [o, o']) := fun h1 h2 => by
    unfold zList zCons
    rw [h1, h2]
    rfl
  apply wp_seq
  refine wp_setZ (zl2 (zcall_is (cons_eq (ix_eq rfl rfl rfl) rfl) (part_of_t (.inn t))) (zcall_is (cons_eq (ix_eq rfl rfl rfl) rfl) (part_of_t (.out t)))) ?_
  walk_at "nrm"
  apply wp_seq
  refine wp_appZ (zcallF_is (cons_eq (tup_eq (cons_eq rfl (cons_eq rfl (cons_eq (ixh 2 _ rfl (by decide) (by decide)) rfl)))) rfl) (part_of_t (.least b its)) (obj_f _)) rfl (by show 2 < 16777216; decide) ?_
  walk_at "nrm"
  apply wp_seq
  refine wp_appZ (zcallF_is (cons_eq (tup_eq (cons_eq rfl (cons_eq rfl (cons_eq (ixh 3 _ rfl (by decide) (by decide)) rfl)))) rfl) (part_of_t (.most b its)) (obj_f _)) rfl (by show 3 < 16777216; decide) ?_
  walk_at "nrm"
  apply wp_seq
  refine wp_forD (os := [row, row, row, row]) (s' := .deep (.jnk 4)) rfl (by decide) (fun u o ho ρ1 l1 => ?_) ?_
  · have ho : o = row := by simpa using ho
    subst ho
    obtain ⟨z, rfl⟩ := like_one l1
    have pl : Plain 20 (.lst (its.map itD)) := (plain_its its).le (by decide)
    have goal : wp (mSeq (mIfS (mB (m2 dNe (mVarB 13) (mVar 3))) (mRet (fun _ => some (.bl false))) mNext)
        (mSeq (zApp 13 (zFz (mTup (mCons (mVar 5) (mCons (fun _ => some (.int 1)) (fun _ => some []))))))
        (zRev 13))) [.im (.kl (ns.map D.int)), .im (.int m), .im (.int n), .im (.lst (its.map itD)), .im (.lst (l.map D.bl)), .im (.int t), .im (.int (its.map (·.2)).sum), .im (.int (c1 % 10 ^ (60 : Int).toNat)), .im (.int b), .im (.lst (ps.map Prt.toD)), .val u, .deep (.lst (ps.map objO)), .deep (.lst (ps.map objO)), .deep row, .no] (fun x => ∃ z, x = .nx ([.im (.kl (ns.map D.int)), .im (.int m), .im (.int n), .im (.lst (its.map itD)), .im (.lst (l.map D.bl)), .im (.int t), .im (.int (its.map (·.2)).sum), .im (.int (c1 % 10 ^ (60 : Int).toNat)), .im (.int b), .im (.lst (ps.map Prt.toD)), .val u, .deep (.lst (ps.map objO)), .deep (.lst (ps.map objO)), .no, .no].set 13 z)) := by
      apply wp_seq
      refine wp_if (b := false) (mB_eq (m2_eq (by rw [varB_deep rfl row_k, row_d]) rfl (dNe_self pl))) (fun z => by cases z) (fun _ => wp_next ?_)
      walk_at "nrm"
      apply wp_seq
      refine wp_appZ (o := .fz (.tup [.int t, .int 1])) rfl rfl (by rw [List.length_map, List.length_map]; omega) ?_
      walk_at "nrm"
      exact wp_revZ rfl ⟨_, rfl⟩
    obtain ⟨x, e, z2, rfl⟩ := goal
    exact ⟨_, e, set_like 13 _ z2⟩
  simp only [eras, List.foldl_cons, List.foldl_nil, kSeq, List.set_cons_succ, List.set_cons_zero]
  have nt : ∀ {f : List Sl → Option D} {ρ : List Sl}, f ρ = some (.bl true) → mNot (mTru f) ρ = some false := fun e => mNot_eq (b := true) (mTru_eq e rfl)
  have at4 : ∀ (i : Nat), i < 4 → ∃ p, p ∈ ps ∧ plc p = i ∧ atI (ps.map Prt.obj) (i : Int) = some p.obj ∧ atI (ps.map Prt.toD) (i : Int) = some p.toD := fun i hi => by
    have : i = 0 ∨ i = 1 ∨ i = 2 ∨ i = 3 := by omega
    rcases this with rfl | rfl | rfl | rfl
    · exact ⟨.inn t, by simp [ps], rfl, rfl, rfl⟩
    · exact ⟨.out t, by simp [ps], rfl, rfl, rfl⟩
    · exact ⟨.least b its, by simp [ps], rfl, rfl, rfl⟩
    · exact ⟨.most b its, by simp [ps], rfl, rfl, rfl⟩
  have gt : ∀ {k : Nat} {i : Int} {ρ : List Sl} {d : D}, ρ[k]? = some (.deep (.lst (ps.map objO))) → ρ[14]? = some (.im (.int i)) → atI (ps.map Prt.obj) i = some d → mIx (mSeqI (mVarB k)) (mVar 14) ρ = some d := fun h1 h2 h3 => ix_eq (seqI_eq (by rw [varB_deep h1 pk, pd]) rfl) (by unfold mVar; rw [h2]) h3
  apply wp_seq
  refine wp_for (List.range 4) (fun (i : Nat) => D.int i) (fun pre ρ => ∃ v, ρ = [.im (.kl (ns.map D.int)), .im (.int m), .im (.int n), .im (.lst (its.map itD)), .im (.lst (l.map D.bl)), .im (.int t), .im (.int (its.map (·.2)).sum), .im (.int (c1 % 10 ^ (60 : Int).toNat)), .im (.int b), .im (.lst (ps.map Prt.toD)), .deep (.jnk 4), .deep (.lst (ps.map objO)), .deep (.lst (ps.map objO)), .no, v]) (rng1_eq (n := 4) (cons_eq rfl rfl) (by decide) (by decide)) ⟨_, rfl⟩ ?_ ?_
  · rintro pre i post ρ ex ⟨v, rfl⟩
    have hi : i < 4 := List.mem_range.mp (by rw [ex]; simp)
    obtain ⟨p, hp, hpl, e1, e2⟩ := at4 i hi
    have lk := looked_eq p (hps p hp)
    rw [hpl] at lk
    refine ⟨_, rfl, ?_⟩
    walk_at "nrm"
    refine wp_if (b := false) (mOr_F (nt (callS_is (cons_eq (gt rfl rfl e1) (cons_eq (ix_eq rfl rfl e2) (cons_eq rfl rfl))) lk rfl)) (nt (callS_is (cons_eq (gt rfl rfl e1) (cons_eq (ix_eq rfl rfl e2) (cons_eq rfl rfl))) lk rfl))) (fun z => by cases z) (fun _ => wp_next ?_)
    exact ⟨_, rfl⟩
  · rintro ρ ⟨v, rfl⟩
    walk_at "nrm"
    apply wp_seq
    refine wp_for (List.range 2) (fun (i : Nat) => D.int (2 + (i : Int))) (fun pre ρ => ∃ v, ρ = [.im (.kl (ns.map D.int)), .im (.int m), .im (.int n), .im (.lst (its.map itD)), .im (.lst (l.map D.bl)), .im (.int t), .im (.int (its.map (·.2)).sum), .im (.int (c1 % 10 ^ (60 : Int).toNat)), .im (.int b), .im (.lst (ps.map Prt.toD)), .deep (.jnk 4), .deep (.lst (ps.map objO)), .deep (.lst (ps.map objO)), .no, v]) (by rw [rng24]) ⟨_, rfl⟩ ?_ ?_
    · rintro pre i post ρ ex ⟨v, rfl⟩
      have hi : i < 2 := List.mem_range.mp (by rw [ex]; simp)
      obtain ⟨p, hp, hpl, e1, e2⟩ := at4 (2 + i) (by omega)
      have lk := counted_eq p (hps p hp) (by omega)
      have ci : (2 + (i : Int)) = ((2 + i : Nat) : Int) := by omega
      refine ⟨_, rfl, ?_⟩
      walk_at "nrm"
      rw [ci]
      refine wp_if (b := false) (mOr_F (nt (callS_is (cons_eq (gt rfl rfl e1) (cons_eq (ix_eq rfl rfl e2) (cons_eq rfl rfl))) lk rfl)) (nt (callS_is (cons_eq (gt rfl rfl e1) (cons_eq (ix_eq rfl rfl e2) (cons_eq rfl rfl))) lk rfl))) (fun z => by cases z) (fun _ => wp_next ?_)
      exact ⟨_, rfl⟩
    · rintro ρ ⟨v, rfl⟩
      exact wp_ret rfl (k_rt rfl)
section
variable {P : Program} {w : World} {K : PySem.W.Frag} {mg : Str → Option Value} {base : Heap}
noncomputable def sp_law (K : PySem.W.Frag) : Sp := fun vs H Q _ => ∃ (a : Addr) (ns : List Int), vs = [.ref a] ∧ SqL K H a (ns.map V.int) ∧ ns.length ≤ 63 ∧ ∀ H', Q (.bl true) H'
theorem sp_law_of {K : PySem.W.Frag} {H : Hp} {a : Addr} {ns : List Int} {E : XK} (hl : ns.length ≤ 63) (hS : SqL K H a (ns.map V.int)) : sp_law K [.ref a] H (fun v _ => v = .bl true) E := ⟨a, ns, rfl, hS, hl, fun _ => rfl⟩
theorem law_ok {a : Wa} (W : Wd K mg a) : FnOk P w K mg base CX0 5 a.f_law a.fd_law ["_law_script"] (sp_law K) := (ok_law W).imp fun vs H Q E ⟨a, ns, ev, hS, hl, k⟩ =>
  ⟨H, [.kl (ns.map D.int)], .bl true, Same.refl _, ⟨.ref a, [], ev, ⟨a, _, rfl, hS, Reps.ints ns⟩, rfl⟩, rfl, law_true ns hl, fun v Hf' H' x r => by rw [show v = V.bl true from r]; exact k H'⟩
end
section
variable {K : PySem.W.Frag} {mg : Str → Option Value}
theorem len_z {P : List Value → Prop} (h : P []) : ∀ us : List Value, us.length = 0 → P us := fun us e => by
  rw [List.eq_nil_of_length_eq_zero e]
  exact h
theorem len_s {n : Nat} {P : List Value → Prop} (h : ∀ a (us : List Value), us.length = n → P (a :: us)) : ∀ us : List Value, us.length = n + 1 → P us := fun us e => by
  cases us with
  | nil => cases e
  | cons a us => exact h a us (Nat.succ.inj e)
theorem len_1 {P : List Value → Prop} (h : ∀ a0 : Value, P [a0]) : ∀ us : List Value, us.length = 1 → P us := len_s (P := fun us => P (us)) fun a0 => len_z (h a0)
theorem len_2 {P : List Value → Prop} (h : ∀ a0 a1 : Value, P [a0, a1]) : ∀ us : List Value, us.length = 2 → P us := len_s (P := fun us => P (us)) fun a0 => len_s (P := fun us => P (a0 :: us)) fun a1 => len_z (h a0 a1)
theorem len_3 {P : List Value → Prop} (h : ∀ a0 a1 a2 : Value, P [a0, a1, a2]) : ∀ us : List Value, us.length = 3 → P us := len_s (P := fun us => P (us)) fun a0 => len_s (P := fun us => P (a0 :: us)) fun a1 => len_s (P := fun us => P (a0 :: a1 :: us)) fun a2 => len_z (h a0 a1 a2)
theorem all_mk {l : PySem.W.OpenLaw} {w : World} {h : Heap} {C_Part : Addr} {C_In : Addr} {C_Out : Addr} {C_Least : Addr} {C_Most : Addr} {f_part_of : Addr} {od_part_of an_part_of : Option Addr} {sl_part_of : Array (Option Value)} {oc_part_of kV_part_of dc_part_of pm_part_of cd_part_of ct_part_of : Value} {f_things_of : Addr} {od_things_of an_things_of : Option Addr} {sl_things_of : Array (Option Value)} {oc_things_of kV_things_of dc_things_of pm_things_of cd_things_of ct_things_of : Value} {f_worth_in : Addr} {od_worth_in an_worth_in : Option Addr} {sl_worth_in : Array (Option Value)} {oc_worth_in kV_worth_in dc_worth_in pm_worth_in cd_worth_in ct_worth_in : Value} {f__law_cell_at : Addr} {od__law_cell_at an__law_cell_at : Option Addr} {sl__law_cell_at : Array (Option Value)} {oc__law_cell_at kV__law_cell_at dc__law_cell_at pm__law_cell_at cd__law_cell_at ct__law_cell_at : Value} {f__law_whole : Addr} {od__law_whole an__law_whole : Option Addr} {sl__law_whole : Array (Option Value)} {oc__law_whole kV__law_whole dc__law_whole pm__law_whole cd__law_whole ct__law_whole : Value} {f__law_mixed : Addr} {od__law_mixed an__law_mixed : Option Addr} {sl__law_mixed : Array (Option Value)} {oc__law_mixed kV__law_mixed dc__law_mixed pm__law_mixed cd__law_mixed ct__law_mixed : Value} {f__law_truths : Addr} {od__law_truths an__law_truths : Option Addr} {sl__law_truths : Array (Option Value)} {oc__law_truths kV__law_truths dc__law_truths pm__law_truths cd__law_truths ct__law_truths : Value} {f__law_items : Addr} {od__law_items an__law_items : Option Addr} {sl__law_items : Array (Option Value)} {oc__law_items kV__law_items dc__law_items pm__law_items cd__law_items ct__law_items : Value} {f__law_classes : Addr} {od__law_classes an__law_classes : Option Addr} {sl__law_classes : Array (Option Value)} {oc__law_classes kV__law_classes dc__law_classes pm__law_classes cd__law_classes ct__law_classes : Value} {f__law_pair : Addr} {od__law_pair an__law_pair : Option Addr} {sl__law_pair : Array (Option Value)} {oc__law_pair kV__law_pair dc__law_pair pm__law_pair cd__law_pair ct__law_pair : Value} {f__law_told : Addr} {od__law_told an__law_told : Option Addr} {sl__law_told : Array (Option Value)} {oc__law_told kV__law_told dc__law_told pm__law_told cd__law_told ct__law_told : Value} {f__law_named : Addr} {od__law_named an__law_named : Option Addr} {sl__law_named : Array (Option Value)} {oc__law_named kV__law_named dc__law_named pm__law_named cd__law_named ct__law_named : Value} {f__law_looked : Addr} {od__law_looked an__law_looked : Option Addr} {sl__law_looked : Array (Option Value)} {oc__law_looked kV__law_looked dc__law_looked pm__law_looked cd__law_looked ct__law_looked : Value} {f__law_counted : Addr} {od__law_counted an__law_counted : Option Addr} {sl__law_counted : Array (Option Value)} {oc__law_counted kV__law_counted dc__law_counted pm__law_counted cd__law_counted ct__law_counted : Value} {f_law : Addr} {od_law an_law : Option Addr} {sl_law : Array (Option Value)} {oc_law kV_law dc_law pm_law cd_law ct_law : Value} {f_In___init__ : Addr} {od_In___init__ an_In___init__ : Option Addr} {sl_In___init__ : Array (Option Value)} {oc_In___init__ kV_In___init__ dc_In___init__ pm_In___init__ cd_In___init__ ct_In___init__ : Value} {f_In_told : Addr} {od_In_told an_In_told : Option Addr} {sl_In_told : Array (Option Value)} {oc_In_told kV_In_told dc_In_told pm_In_told cd_In_told ct_In_told : Value} {f_In_named : Addr} {od_In_named an_In_named : Option Addr} {sl_In_named : Array (Option Value)} {oc_In_named kV_In_named dc_In_named pm_In_named cd_In_named ct_In_named : Value} {f_In_holds : Addr} {od_In_holds an_In_holds : Option Addr} {sl_In_holds : Array (Option Value)} {oc_In_holds kV_In_holds dc_In_holds pm_In_holds cd_In_holds ct_In_holds : Value} {f_Out___init__ : Addr} {od_Out___init__ an_Out___init__ : Option Addr} {sl_Out___init__ : Array (Option Value)} {oc_Out___init__ kV_Out___init__ dc_Out___init__ pm_Out___init__ cd_Out___init__ ct_Out___init__ : Value} {f_Out_told : Addr} {od_Out_told an_Out_told : Option Addr} {sl_Out_told : Array (Option Value)} {oc_Out_told kV_Out_told dc_Out_told pm_Out_told cd_Out_told ct_Out_told : Value} {f_Out_named : Addr} {od_Out_named an_Out_named : Option Addr} {sl_Out_named : Array (Option Value)} {oc_Out_named kV_Out_named dc_Out_named pm_Out_named cd_Out_named ct_Out_named : Value} {f_Out_holds : Addr} {od_Out_holds an_Out_holds : Option Addr} {sl_Out_holds : Array (Option Value)} {oc_Out_holds kV_Out_holds dc_Out_holds pm_Out_holds cd_Out_holds ct_Out_holds : Value} {f_Least___init__ : Addr} {od_Least___init__ an_Least___init__ : Option Addr} {sl_Least___init__ : Array (Option Value)} {oc_Least___init__ kV_Least___init__ dc_Least___init__ pm_Least___init__ cd_Least___init__ ct_Least___init__ : Value} {f_Least_told : Addr} {od_Least_told an_Least_told : Option Addr} {sl_Least_told : Array (Option Value)} {oc_Least_told kV_Least_told dc_Least_told pm_Least_told cd_Least_told ct_Least_told : Value} {f_Least_named : Addr} {od_Least_named an_Least_named : Option Addr} {sl_Least_named : Array (Option Value)} {oc_Least_named kV_Least_named dc_Least_named pm_Least_named cd_Least_named ct_Least_named : Value} {f_Least_holds : Addr} {od_Least_holds an_Least_holds : Option Addr} {sl_Least_holds : Array (Option Value)} {oc_Least_holds kV_Least_holds dc_Least_holds pm_Least_holds cd_Least_holds ct_Least_holds : Value} {f_Most___init__ : Addr} {od_Most___init__ an_Most___init__ : Option Addr} {sl_Most___init__ : Array (Option Value)} {oc_Most___init__ kV_Most___init__ dc_Most___init__ pm_Most___init__ cd_Most___init__ ct_Most___init__ : Value} {f_Most_told : Addr} {od_Most_told an_Most_told : Option Addr} {sl_Most_told : Array (Option Value)} {oc_Most_told kV_Most_told dc_Most_told pm_Most_told cd_Most_told ct_Most_told : Value} {f_Most_named : Addr} {od_Most_named an_Most_named : Option Addr} {sl_Most_named : Array (Option Value)} {oc_Most_named kV_Most_named dc_Most_named pm_Most_named cd_Most_named ct_Most_named : Value} {f_Most_holds : Addr} {od_Most_holds an_Most_holds : Option Addr} {sl_Most_holds : Array (Option Value)} {oc_Most_holds kV_Most_holds dc_Most_holds pm_Most_holds cd_Most_holds ct_Most_holds : Value} {fa : Addr} (X : K.In h) (G : h.Ns mainGlobals mg) (hfa : mg "law" = some (.ref fa))
    (aC_Part : PySem.W.nsIn K mainGlobals "Part" = some (some (.ref C_Part)))
    (aC_In : PySem.W.nsIn K mainGlobals "In" = some (some (.ref C_In)))
    (aC_Out : PySem.W.nsIn K mainGlobals "Out" = some (some (.ref C_Out)))
    (aC_Least : PySem.W.nsIn K mainGlobals "Least" = some (some (.ref C_Least)))
    (aC_Most : PySem.W.nsIn K mainGlobals "Most" = some (some (.ref C_Most)))
    (a_part_of : PySem.W.nsIn K mainGlobals "part_of" = some (some (.ref f_part_of)))
    (l_part_of : K.lookup f_part_of = some ⟨oc_part_of, od_part_of, .func (PySem.W.fnOf "part_of" "part_of" (defArgs s_part_of) (defBody s_part_of) (defScope s_part_of) .none kV_part_of dc_part_of pm_part_of an_part_of cd_part_of ct_part_of), sl_part_of⟩)
    (c_part_of : PySem.W.codeIn K cd_part_of "part_of" = true)
    (k_part_of : PySem.W.keepIn K (.ref f_part_of) = true)
    (a_things_of : PySem.W.nsIn K mainGlobals "things_of" = some (some (.ref f_things_of)))
    (l_things_of : K.lookup f_things_of = some ⟨oc_things_of, od_things_of, .func (PySem.W.fnOf "things_of" "things_of" (defArgs s_things_of) (defBody s_things_of) (defScope s_things_of) .none kV_things_of dc_things_of pm_things_of an_things_of cd_things_of ct_things_of), sl_things_of⟩)
    (c_things_of : PySem.W.codeIn K cd_things_of "things_of" = true)
    (k_things_of : PySem.W.keepIn K (.ref f_things_of) = true)
    (a_worth_in : PySem.W.nsIn K mainGlobals "worth_in" = some (some (.ref f_worth_in)))
    (l_worth_in : K.lookup f_worth_in = some ⟨oc_worth_in, od_worth_in, .func (PySem.W.fnOf "worth_in" "worth_in" (defArgs s_worth_in) (defBody s_worth_in) (defScope s_worth_in) .none kV_worth_in dc_worth_in pm_worth_in an_worth_in cd_worth_in ct_worth_in), sl_worth_in⟩)
    (c_worth_in : PySem.W.codeIn K cd_worth_in "worth_in" = true)
    (k_worth_in : PySem.W.keepIn K (.ref f_worth_in) = true)
    (a__law_cell_at : PySem.W.nsIn K mainGlobals "_law_cell_at" = some (some (.ref f__law_cell_at)))
    (l__law_cell_at : K.lookup f__law_cell_at = some ⟨oc__law_cell_at, od__law_cell_at, .func (PySem.W.fnOf "_law_cell_at" "_law_cell_at" (defArgs s__law_cell_at) (defBody s__law_cell_at) (defScope s__law_cell_at) .none kV__law_cell_at dc__law_cell_at pm__law_cell_at an__law_cell_at cd__law_cell_at ct__law_cell_at), sl__law_cell_at⟩)
    (c__law_cell_at : PySem.W.codeIn K cd__law_cell_at "_law_cell_at" = true)
    (k__law_cell_at : PySem.W.keepIn K (.ref f__law_cell_at) = true)
    (a__law_whole : PySem.W.nsIn K mainGlobals "_law_whole" = some (some (.ref f__law_whole)))
    (l__law_whole : K.lookup f__law_whole = some ⟨oc__law_whole, od__law_whole, .func (PySem.W.fnOf "_law_whole" "_law_whole" (defArgs s__law_whole) (defBody s__law_whole) (defScope s__law_whole) .none kV__law_whole dc__law_whole pm__law_whole an__law_whole cd__law_whole ct__law_whole), sl__law_whole⟩)
    (c__law_whole : PySem.W.codeIn K cd__law_whole "_law_whole" = true)
    (k__law_whole : PySem.W.keepIn K (.ref f__law_whole) = true)
    (a__law_mixed : PySem.W.nsIn K mainGlobals "_law_mixed" = some (some (.ref f__law_mixed)))
    (l__law_mixed : K.lookup f__law_mixed = some ⟨oc__law_mixed, od__law_mixed, .func (PySem.W.fnOf "_law_mixed" "_law_mixed" (defArgs s__law_mixed) (defBody s__law_mixed) (defScope s__law_mixed) .none kV__law_mixed dc__law_mixed pm__law_mixed an__law_mixed cd__law_mixed ct__law_mixed), sl__law_mixed⟩)
    (c__law_mixed : PySem.W.codeIn K cd__law_mixed "_law_mixed" = true)
    (k__law_mixed : PySem.W.keepIn K (.ref f__law_mixed) = true)
    (a__law_truths : PySem.W.nsIn K mainGlobals "_law_truths" = some (some (.ref f__law_truths)))
    (l__law_truths : K.lookup f__law_truths = some ⟨oc__law_truths, od__law_truths, .func (PySem.W.fnOf "_law_truths" "_law_truths" (defArgs s__law_truths) (defBody s__law_truths) (defScope s__law_truths) .none kV__law_truths dc__law_truths pm__law_truths an__law_truths cd__law_truths ct__law_truths), sl__law_truths⟩)
    (c__law_truths : PySem.W.codeIn K cd__law_truths "_law_truths" = true)
    (k__law_truths : PySem.W.keepIn K (.ref f__law_truths) = true)
    (a__law_items : PySem.W.nsIn K mainGlobals "_law_items" = some (some (.ref f__law_items)))
    (l__law_items : K.lookup f__law_items = some ⟨oc__law_items, od__law_items, .func (PySem.W.fnOf "_law_items" "_law_items" (defArgs s__law_items) (defBody s__law_items) (defScope s__law_items) .none kV__law_items dc__law_items pm__law_items an__law_items cd__law_items ct__law_items), sl__law_items⟩)
    (c__law_items : PySem.W.codeIn K cd__law_items "_law_items" = true)
    (k__law_items : PySem.W.keepIn K (.ref f__law_items) = true)
    (a__law_classes : PySem.W.nsIn K mainGlobals "_law_classes" = some (some (.ref f__law_classes)))
    (l__law_classes : K.lookup f__law_classes = some ⟨oc__law_classes, od__law_classes, .func (PySem.W.fnOf "_law_classes" "_law_classes" (defArgs s__law_classes) (defBody s__law_classes) (defScope s__law_classes) .none kV__law_classes dc__law_classes pm__law_classes an__law_classes cd__law_classes ct__law_classes), sl__law_classes⟩)
    (c__law_classes : PySem.W.codeIn K cd__law_classes "_law_classes" = true)
    (k__law_classes : PySem.W.keepIn K (.ref f__law_classes) = true)
    (a__law_pair : PySem.W.nsIn K mainGlobals "_law_pair" = some (some (.ref f__law_pair)))
    (l__law_pair : K.lookup f__law_pair = some ⟨oc__law_pair, od__law_pair, .func (PySem.W.fnOf "_law_pair" "_law_pair" (defArgs s__law_pair) (defBody s__law_pair) (defScope s__law_pair) .none kV__law_pair dc__law_pair pm__law_pair an__law_pair cd__law_pair ct__law_pair), sl__law_pair⟩)
    (c__law_pair : PySem.W.codeIn K cd__law_pair "_law_pair" = true)
    (k__law_pair : PySem.W.keepIn K (.ref f__law_pair) = true)
    (a__law_told : PySem.W.nsIn K mainGlobals "_law_told" = some (some (.ref f__law_told)))
    (l__law_told : K.lookup f__law_told = some ⟨oc__law_told, od__law_told, .func (PySem.W.fnOf "_law_told" "_law_told" (defArgs s__law_told) (defBody s__law_told) (defScope s__law_told) .none kV__law_told dc__law_told pm__law_told an__law_told cd__law_told ct__law_told), sl__law_told⟩)
    (c__law_told : PySem.W.codeIn K cd__law_told "_law_told" = true)
    (k__law_told : PySem.W.keepIn K (.ref f__law_told) = true)
    (a__law_named : PySem.W.nsIn K mainGlobals "_law_named" = some (some (.ref f__law_named)))
    (l__law_named : K.lookup f__law_named = some ⟨oc__law_named, od__law_named, .func (PySem.W.fnOf "_law_named" "_law_named" (defArgs s__law_named) (defBody s__law_named) (defScope s__law_named) .none kV__law_named dc__law_named pm__law_named an__law_named cd__law_named ct__law_named), sl__law_named⟩)
    (c__law_named : PySem.W.codeIn K cd__law_named "_law_named" = true)
    (k__law_named : PySem.W.keepIn K (.ref f__law_named) = true)
    (a__law_looked : PySem.W.nsIn K mainGlobals "_law_looked" = some (some (.ref f__law_looked)))
    (l__law_looked : K.lookup f__law_looked = some ⟨oc__law_looked, od__law_looked, .func (PySem.W.fnOf "_law_looked" "_law_looked" (defArgs s__law_looked) (defBody s__law_looked) (defScope s__law_looked) .none kV__law_looked dc__law_looked pm__law_looked an__law_looked cd__law_looked ct__law_looked), sl__law_looked⟩)
    (c__law_looked : PySem.W.codeIn K cd__law_looked "_law_looked" = true)
    (k__law_looked : PySem.W.keepIn K (.ref f__law_looked) = true)
    (a__law_counted : PySem.W.nsIn K mainGlobals "_law_counted" = some (some (.ref f__law_counted)))
    (l__law_counted : K.lookup f__law_counted = some ⟨oc__law_counted, od__law_counted, .func (PySem.W.fnOf "_law_counted" "_law_counted" (defArgs s__law_counted) (defBody s__law_counted) (defScope s__law_counted) .none kV__law_counted dc__law_counted pm__law_counted an__law_counted cd__law_counted ct__law_counted), sl__law_counted⟩)
    (c__law_counted : PySem.W.codeIn K cd__law_counted "_law_counted" = true)
    (k__law_counted : PySem.W.keepIn K (.ref f__law_counted) = true)
    (a_law : PySem.W.nsIn K mainGlobals "law" = some (some (.ref f_law)))
    (l_law : K.lookup f_law = some ⟨oc_law, od_law, .func (PySem.W.fnOf "law" "law" (defArgs s_law) (defBody s_law) (defScope s_law) .none kV_law dc_law pm_law an_law cd_law ct_law), sl_law⟩)
    (c_law : PySem.W.codeIn K cd_law "law" = true)
    (k_law : PySem.W.keepIn K (.ref f_law) = true)
    (a_In___init__ : PySem.W.findIn K (.ref C_In) "__init__" = some (some (.ref f_In___init__)))
    (i_In___init__ : PySem.W.isFn K (.ref f_In___init__) = true)
    (l_In___init__ : K.lookup f_In___init__ = some ⟨oc_In___init__, od_In___init__, .func (PySem.W.fnOf "__init__" "In.__init__" (defArgs s_In___init__) (defBody s_In___init__) (defScope s_In___init__) .none kV_In___init__ dc_In___init__ pm_In___init__ an_In___init__ cd_In___init__ ct_In___init__), sl_In___init__⟩)
    (c_In___init__ : PySem.W.codeIn K cd_In___init__ "In.__init__" = true)
    (k_In___init__ : PySem.W.keepIn K (.ref f_In___init__) = true)
    (a_In_told : PySem.W.findIn K (.ref C_In) "told" = some (some (.ref f_In_told)))
    (i_In_told : PySem.W.isFn K (.ref f_In_told) = true)
    (l_In_told : K.lookup f_In_told = some ⟨oc_In_told, od_In_told, .func (PySem.W.fnOf "told" "In.told" (defArgs s_In_told) (defBody s_In_told) (defScope s_In_told) .none kV_In_told dc_In_told pm_In_told an_In_told cd_In_told ct_In_told), sl_In_told⟩)
    (c_In_told : PySem.W.codeIn K cd_In_told "In.told" = true)
    (k_In_told : PySem.W.keepIn K (.ref f_In_told) = true)
    (a_In_named : PySem.W.findIn K (.ref C_In) "named" = some (some (.ref f_In_named)))
    (i_In_named : PySem.W.isFn K (.ref f_In_named) = true)
    (l_In_named : K.lookup f_In_named = some ⟨oc_In_named, od_In_named, .func (PySem.W.fnOf "named" "In.named" (defArgs s_In_named) (defBody s_In_named) (defScope s_In_named) .none kV_In_named dc_In_named pm_In_named an_In_named cd_In_named ct_In_named), sl_In_named⟩)
    (c_In_named : PySem.W.codeIn K cd_In_named "In.named" = true)
    (k_In_named : PySem.W.keepIn K (.ref f_In_named) = true)
    (a_In_holds : PySem.W.findIn K (.ref C_In) "holds" = some (some (.ref f_In_holds)))
    (i_In_holds : PySem.W.isFn K (.ref f_In_holds) = true)
    (l_In_holds : K.lookup f_In_holds = some ⟨oc_In_holds, od_In_holds, .func (PySem.W.fnOf "holds" "In.holds" (defArgs s_In_holds) (defBody s_In_holds) (defScope s_In_holds) .none kV_In_holds dc_In_holds pm_In_holds an_In_holds cd_In_holds ct_In_holds), sl_In_holds⟩)
    (c_In_holds : PySem.W.codeIn K cd_In_holds "In.holds" = true)
    (k_In_holds : PySem.W.keepIn K (.ref f_In_holds) = true)
    (a_Out___init__ : PySem.W.findIn K (.ref C_Out) "__init__" = some (some (.ref f_Out___init__)))
    (i_Out___init__ : PySem.W.isFn K (.ref f_Out___init__) = true)
    (l_Out___init__ : K.lookup f_Out___init__ = some ⟨oc_Out___init__, od_Out___init__, .func (PySem.W.fnOf "__init__" "Out.__init__" (defArgs s_Out___init__) (defBody s_Out___init__) (defScope s_Out___init__) .none kV_Out___init__ dc_Out___init__ pm_Out___init__ an_Out___init__ cd_Out___init__ ct_Out___init__), sl_Out___init__⟩)
    (c_Out___init__ : PySem.W.codeIn K cd_Out___init__ "Out.__init__" = true)
    (k_Out___init__ : PySem.W.keepIn K (.ref f_Out___init__) = true)
    (a_Out_told : PySem.W.findIn K (.ref C_Out) "told" = some (some (.ref f_Out_told)))
    (i_Out_told : PySem.W.isFn K (.ref f_Out_told) = true)
    (l_Out_told : K.lookup f_Out_told = some ⟨oc_Out_told, od_Out_told, .func (PySem.W.fnOf "told" "Out.told" (defArgs s_Out_told) (defBody s_Out_told) (defScope s_Out_told) .none kV_Out_told dc_Out_told pm_Out_told an_Out_told cd_Out_told ct_Out_told), sl_Out_told⟩)
    (c_Out_told : PySem.W.codeIn K cd_Out_told "Out.told" = true)
    (k_Out_told : PySem.W.keepIn K (.ref f_Out_told) = true)
    (a_Out_named : PySem.W.findIn K (.ref C_Out) "named" = some (some (.ref f_Out_named)))
    (i_Out_named : PySem.W.isFn K (.ref f_Out_named) = true)
    (l_Out_named : K.lookup f_Out_named = some ⟨oc_Out_named, od_Out_named, .func (PySem.W.fnOf "named" "Out.named" (defArgs s_Out_named) (defBody s_Out_named) (defScope s_Out_named) .none kV_Out_named dc_Out_named pm_Out_named an_Out_named cd_Out_named ct_Out_named), sl_Out_named⟩)
    (c_Out_named : PySem.W.codeIn K cd_Out_named "Out.named" = true)
    (k_Out_named : PySem.W.keepIn K (.ref f_Out_named) = true)
    (a_Out_holds : PySem.W.findIn K (.ref C_Out) "holds" = some (some (.ref f_Out_holds)))
    (i_Out_holds : PySem.W.isFn K (.ref f_Out_holds) = true)
    (l_Out_holds : K.lookup f_Out_holds = some ⟨oc_Out_holds, od_Out_holds, .func (PySem.W.fnOf "holds" "Out.holds" (defArgs s_Out_holds) (defBody s_Out_holds) (defScope s_Out_holds) .none kV_Out_holds dc_Out_holds pm_Out_holds an_Out_holds cd_Out_holds ct_Out_holds), sl_Out_holds⟩)
    (c_Out_holds : PySem.W.codeIn K cd_Out_holds "Out.holds" = true)
    (k_Out_holds : PySem.W.keepIn K (.ref f_Out_holds) = true)
    (a_Least___init__ : PySem.W.findIn K (.ref C_Least) "__init__" = some (some (.ref f_Least___init__)))
    (i_Least___init__ : PySem.W.isFn K (.ref f_Least___init__) = true)
    (l_Least___init__ : K.lookup f_Least___init__ = some ⟨oc_Least___init__, od_Least___init__, .func (PySem.W.fnOf "__init__" "Least.__init__" (defArgs s_Least___init__) (defBody s_Least___init__) (defScope s_Least___init__) .none kV_Least___init__ dc_Least___init__ pm_Least___init__ an_Least___init__ cd_Least___init__ ct_Least___init__), sl_Least___init__⟩)
    (c_Least___init__ : PySem.W.codeIn K cd_Least___init__ "Least.__init__" = true)
    (k_Least___init__ : PySem.W.keepIn K (.ref f_Least___init__) = true)
    (a_Least_told : PySem.W.findIn K (.ref C_Least) "told" = some (some (.ref f_Least_told)))
    (i_Least_told : PySem.W.isFn K (.ref f_Least_told) = true)
    (l_Least_told : K.lookup f_Least_told = some ⟨oc_Least_told, od_Least_told, .func (PySem.W.fnOf "told" "Least.told" (defArgs s_Least_told) (defBody s_Least_told) (defScope s_Least_told) .none kV_Least_told dc_Least_told pm_Least_told an_Least_told cd_Least_told ct_Least_told), sl_Least_told⟩)
    (c_Least_told : PySem.W.codeIn K cd_Least_told "Least.told" = true)
    (k_Least_told : PySem.W.keepIn K (.ref f_Least_told) = true)
    (a_Least_named : PySem.W.findIn K (.ref C_Least) "named" = some (some (.ref f_Least_named)))
    (i_Least_named : PySem.W.isFn K (.ref f_Least_named) = true)
    (l_Least_named : K.lookup f_Least_named = some ⟨oc_Least_named, od_Least_named, .func (PySem.W.fnOf "named" "Least.named" (defArgs s_Least_named) (defBody s_Least_named) (defScope s_Least_named) .none kV_Least_named dc_Least_named pm_Least_named an_Least_named cd_Least_named ct_Least_named), sl_Least_named⟩)
    (c_Least_named : PySem.W.codeIn K cd_Least_named "Least.named" = true)
    (k_Least_named : PySem.W.keepIn K (.ref f_Least_named) = true)
    (a_Least_holds : PySem.W.findIn K (.ref C_Least) "holds" = some (some (.ref f_Least_holds)))
    (i_Least_holds : PySem.W.isFn K (.ref f_Least_holds) = true)
    (l_Least_holds : K.lookup f_Least_holds = some ⟨oc_Least_holds, od_Least_holds, .func (PySem.W.fnOf "holds" "Least.holds" (defArgs s_Least_holds) (defBody s_Least_holds) (defScope s_Least_holds) .none kV_Least_holds dc_Least_holds pm_Least_holds an_Least_holds cd_Least_holds ct_Least_holds), sl_Least_holds⟩)
    (c_Least_holds : PySem.W.codeIn K cd_Least_holds "Least.holds" = true)
    (k_Least_holds : PySem.W.keepIn K (.ref f_Least_holds) = true)
    (a_Most___init__ : PySem.W.findIn K (.ref C_Most) "__init__" = some (some (.ref f_Most___init__)))
    (i_Most___init__ : PySem.W.isFn K (.ref f_Most___init__) = true)
    (l_Most___init__ : K.lookup f_Most___init__ = some ⟨oc_Most___init__, od_Most___init__, .func (PySem.W.fnOf "__init__" "Most.__init__" (defArgs s_Most___init__) (defBody s_Most___init__) (defScope s_Most___init__) .none kV_Most___init__ dc_Most___init__ pm_Most___init__ an_Most___init__ cd_Most___init__ ct_Most___init__), sl_Most___init__⟩)
    (c_Most___init__ : PySem.W.codeIn K cd_Most___init__ "Most.__init__" = true)
    (k_Most___init__ : PySem.W.keepIn K (.ref f_Most___init__) = true)
    (a_Most_told : PySem.W.findIn K (.ref C_Most) "told" = some (some (.ref f_Most_told)))
    (i_Most_told : PySem.W.isFn K (.ref f_Most_told) = true)
    (l_Most_told : K.lookup f_Most_told = some ⟨oc_Most_told, od_Most_told, .func (PySem.W.fnOf "told" "Most.told" (defArgs s_Most_told) (defBody s_Most_told) (defScope s_Most_told) .none kV_Most_told dc_Most_told pm_Most_told an_Most_told cd_Most_told ct_Most_told), sl_Most_told⟩)
    (c_Most_told : PySem.W.codeIn K cd_Most_told "Most.told" = true)
    (k_Most_told : PySem.W.keepIn K (.ref f_Most_told) = true)
    (a_Most_named : PySem.W.findIn K (.ref C_Most) "named" = some (some (.ref f_Most_named)))
    (i_Most_named : PySem.W.isFn K (.ref f_Most_named) = true)
    (l_Most_named : K.lookup f_Most_named = some ⟨oc_Most_named, od_Most_named, .func (PySem.W.fnOf "named" "Most.named" (defArgs s_Most_named) (defBody s_Most_named) (defScope s_Most_named) .none kV_Most_named dc_Most_named pm_Most_named an_Most_named cd_Most_named ct_Most_named), sl_Most_named⟩)
    (c_Most_named : PySem.W.codeIn K cd_Most_named "Most.named" = true)
    (k_Most_named : PySem.W.keepIn K (.ref f_Most_named) = true)
    (a_Most_holds : PySem.W.findIn K (.ref C_Most) "holds" = some (some (.ref f_Most_holds)))
    (i_Most_holds : PySem.W.isFn K (.ref f_Most_holds) = true)
    (l_Most_holds : K.lookup f_Most_holds = some ⟨oc_Most_holds, od_Most_holds, .func (PySem.W.fnOf "holds" "Most.holds" (defArgs s_Most_holds) (defBody s_Most_holds) (defScope s_Most_holds) .none kV_Most_holds dc_Most_holds pm_Most_holds an_Most_holds cd_Most_holds ct_Most_holds), sl_Most_holds⟩)
    (c_Most_holds : PySem.W.codeIn K cd_Most_holds "Most.holds" = true)
    (k_Most_holds : PySem.W.keepIn K (.ref f_Most_holds) = true)
    (pg_In : PySem.W.plainGet K C_In Str.empty = true)
    (hd_In : PySem.W.hasDictIn K C_In = true)
    (po_In : PySem.W.plainOver K C_In = true)
    (sa_In : PySem.W.findIn K (.ref C_In) "__setattr__" = some (some (.builtin "object.__setattr__")))
    (mk_In : PySem.W.makesIn K C_In = true)
    (kc_In : PySem.W.keepIn K (.ref C_In) = true)
    (na_In_thing : PySem.W.findIn K (.ref C_In) "thing" = some none)
    (pg_Out : PySem.W.plainGet K C_Out Str.empty = true)
    (hd_Out : PySem.W.hasDictIn K C_Out = true)
    (po_Out : PySem.W.plainOver K C_Out = true)
    (sa_Out : PySem.W.findIn K (.ref C_Out) "__setattr__" = some (some (.builtin "object.__setattr__")))
    (mk_Out : PySem.W.makesIn K C_Out = true)
    (kc_Out : PySem.W.keepIn K (.ref C_Out) = true)
    (na_Out_thing : PySem.W.findIn K (.ref C_Out) "thing" = some none)
    (pg_Least : PySem.W.plainGet K C_Least Str.empty = true)
    (hd_Least : PySem.W.hasDictIn K C_Least = true)
    (po_Least : PySem.W.plainOver K C_Least = true)
    (sa_Least : PySem.W.findIn K (.ref C_Least) "__setattr__" = some (some (.builtin "object.__setattr__")))
    (mk_Least : PySem.W.makesIn K C_Least = true)
    (kc_Least : PySem.W.keepIn K (.ref C_Least) = true)
    (na_Least_bound : PySem.W.findIn K (.ref C_Least) "bound" = some none)
    (na_Least_pieces : PySem.W.findIn K (.ref C_Least) "pieces" = some none)
    (pg_Most : PySem.W.plainGet K C_Most Str.empty = true)
    (hd_Most : PySem.W.hasDictIn K C_Most = true)
    (po_Most : PySem.W.plainOver K C_Most = true)
    (sa_Most : PySem.W.findIn K (.ref C_Most) "__setattr__" = some (some (.builtin "object.__setattr__")))
    (mk_Most : PySem.W.makesIn K C_Most = true)
    (kc_Most : PySem.W.keepIn K (.ref C_Most) = true)
    (na_Most_bound : PySem.W.findIn K (.ref C_Most) "bound" = some none)
    (na_Most_pieces : PySem.W.findIn K (.ref C_Most) "pieces" = some none)
    (tG : PySem.W.specialIn K (.builtin "object.__class__") "__get__" = some (some (.builtin "getset_descriptor.__get__")))
    (tK : PySem.W.takesIn K (.builtin "object.__class__") = some true)
    (tA_In : PySem.W.findIn K (.ref C_In) "__class__" = some (some (.builtin "object.__class__")))
    (tM_In : PySem.W.mroIn K C_In (.type "object") = some true)
    (ki_In_In : PySem.W.kitOne K (.ref C_In) (.ref C_In) = some true)
    (ki_In_Least : PySem.W.kitOne K (.ref C_In) (.ref C_Least) = some false)
    (ki_In_Most : PySem.W.kitOne K (.ref C_In) (.ref C_Most) = some false)
    (ki_In_Out : PySem.W.kitOne K (.ref C_In) (.ref C_Out) = some false)
    (ki_In_Part : PySem.W.kitOne K (.ref C_In) (.ref C_Part) = some true)
    (tA_Out : PySem.W.findIn K (.ref C_Out) "__class__" = some (some (.builtin "object.__class__")))
    (tM_Out : PySem.W.mroIn K C_Out (.type "object") = some true)
    (ki_Out_In : PySem.W.kitOne K (.ref C_Out) (.ref C_In) = some false)
    (ki_Out_Least : PySem.W.kitOne K (.ref C_Out) (.ref C_Least) = some false)
    (ki_Out_Most : PySem.W.kitOne K (.ref C_Out) (.ref C_Most) = some false)
    (ki_Out_Out : PySem.W.kitOne K (.ref C_Out) (.ref C_Out) = some true)
    (ki_Out_Part : PySem.W.kitOne K (.ref C_Out) (.ref C_Part) = some true)
    (tA_Least : PySem.W.findIn K (.ref C_Least) "__class__" = some (some (.builtin "object.__class__")))
    (tM_Least : PySem.W.mroIn K C_Least (.type "object") = some true)
    (ki_Least_In : PySem.W.kitOne K (.ref C_Least) (.ref C_In) = some false)
    (ki_Least_Least : PySem.W.kitOne K (.ref C_Least) (.ref C_Least) = some true)
    (ki_Least_Most : PySem.W.kitOne K (.ref C_Least) (.ref C_Most) = some false)
    (ki_Least_Out : PySem.W.kitOne K (.ref C_Least) (.ref C_Out) = some false)
    (ki_Least_Part : PySem.W.kitOne K (.ref C_Least) (.ref C_Part) = some true)
    (tA_Most : PySem.W.findIn K (.ref C_Most) "__class__" = some (some (.builtin "object.__class__")))
    (tM_Most : PySem.W.mroIn K C_Most (.type "object") = some true)
    (ki_Most_In : PySem.W.kitOne K (.ref C_Most) (.ref C_In) = some false)
    (ki_Most_Least : PySem.W.kitOne K (.ref C_Most) (.ref C_Least) = some false)
    (ki_Most_Most : PySem.W.kitOne K (.ref C_Most) (.ref C_Most) = some true)
    (ki_Most_Out : PySem.W.kitOne K (.ref C_Most) (.ref C_Out) = some false)
    (ki_Most_Part : PySem.W.kitOne K (.ref C_Most) (.ref C_Part) = some true)
    (kt_NoneType_bool : PySem.W.kitOne K (.type "NoneType") (.type "bool") = some false)
    (kt_bool_bool : PySem.W.kitOne K (.type "bool") (.type "bool") = some true)
    (kt_int_bool : PySem.W.kitOne K (.type "int") (.type "bool") = some false)
    (kt_str_bool : PySem.W.kitOne K (.type "str") (.type "bool") = some false)
    (kt_list_bool : PySem.W.kitOne K (.type "list") (.type "bool") = some false)
    (kt_tuple_bool : PySem.W.kitOne K (.type "tuple") (.type "bool") = some false)
    (kt_dict_bool : PySem.W.kitOne K (.type "dict") (.type "bool") = some false)
    (kt_NoneType_int : PySem.W.kitOne K (.type "NoneType") (.type "int") = some false)
    (kt_bool_int : PySem.W.kitOne K (.type "bool") (.type "int") = some true)
    (kt_int_int : PySem.W.kitOne K (.type "int") (.type "int") = some true)
    (kt_str_int : PySem.W.kitOne K (.type "str") (.type "int") = some false)
    (kt_list_int : PySem.W.kitOne K (.type "list") (.type "int") = some false)
    (kt_tuple_int : PySem.W.kitOne K (.type "tuple") (.type "int") = some false)
    (kt_dict_int : PySem.W.kitOne K (.type "dict") (.type "int") = some false)
    (kt_NoneType_list : PySem.W.kitOne K (.type "NoneType") (.type "list") = some false)
    (kt_bool_list : PySem.W.kitOne K (.type "bool") (.type "list") = some false)
    (kt_int_list : PySem.W.kitOne K (.type "int") (.type "list") = some false)
    (kt_str_list : PySem.W.kitOne K (.type "str") (.type "list") = some false)
    (kt_list_list : PySem.W.kitOne K (.type "list") (.type "list") = some true)
    (kt_tuple_list : PySem.W.kitOne K (.type "tuple") (.type "list") = some false)
    (kt_dict_list : PySem.W.kitOne K (.type "dict") (.type "list") = some false)
    (kt_NoneType_str : PySem.W.kitOne K (.type "NoneType") (.type "str") = some false)
    (kt_bool_str : PySem.W.kitOne K (.type "bool") (.type "str") = some false)
    (kt_int_str : PySem.W.kitOne K (.type "int") (.type "str") = some false)
    (kt_str_str : PySem.W.kitOne K (.type "str") (.type "str") = some true)
    (kt_list_str : PySem.W.kitOne K (.type "list") (.type "str") = some false)
    (kt_tuple_str : PySem.W.kitOne K (.type "tuple") (.type "str") = some false)
    (kt_dict_str : PySem.W.kitOne K (.type "dict") (.type "str") = some false)
    (kt_NoneType_tuple : PySem.W.kitOne K (.type "NoneType") (.type "tuple") = some false)
    (kt_bool_tuple : PySem.W.kitOne K (.type "bool") (.type "tuple") = some false)
    (kt_int_tuple : PySem.W.kitOne K (.type "int") (.type "tuple") = some false)
    (kt_str_tuple : PySem.W.kitOne K (.type "str") (.type "tuple") = some false)
    (kt_list_tuple : PySem.W.kitOne K (.type "list") (.type "tuple") = some false)
    (kt_tuple_tuple : PySem.W.kitOne K (.type "tuple") (.type "tuple") = some true)
    (kt_dict_tuple : PySem.W.kitOne K (.type "dict") (.type "tuple") = some false)
    (z_bool : PySem.W.nsIn K mainGlobals "bool" = some none)
    (z_int : PySem.W.nsIn K mainGlobals "int" = some none)
    (z_isinstance : PySem.W.nsIn K mainGlobals "isinstance" = some none)
    (z_len : PySem.W.nsIn K mainGlobals "len" = some none)
    (z_list : PySem.W.nsIn K mainGlobals "list" = some none)
    (z_range : PySem.W.nsIn K mainGlobals "range" = some none)
    (z_set : PySem.W.nsIn K mainGlobals "set" = some none)
    (z_sorted : PySem.W.nsIn K mainGlobals "sorted" = some none)
    (z_str : PySem.W.nsIn K mainGlobals "str" = some none)
    (z_sum : PySem.W.nsIn K mainGlobals "sum" = some none)
    (z_tuple : PySem.W.nsIn K mainGlobals "tuple" = some none)
    : ∃ fd : FuncData, (∀ (s : Shared) (v : Value), BindsTo s fd ⟨[v], []⟩ [("_law_script", v)]) ∧ ∃ a : Wa, ∃ W : Wd K mg a, a.f_law = fa ∧ a.fd_law = fd := by
  have e := hfa.symm.trans (PySem.W.mg_of X G a_law)
  cases e
  have F_part_of := fun_mk (st := s_part_of) l_part_of c_part_of k_part_of
  have F_things_of := fun_mk (st := s_things_of) l_things_of c_things_of k_things_of
  have F_worth_in := fun_mk (st := s_worth_in) l_worth_in c_worth_in k_worth_in
  have F__law_cell_at := fun_mk (st := s__law_cell_at) l__law_cell_at c__law_cell_at k__law_cell_at
  have F__law_whole := fun_mk (st := s__law_whole) l__law_whole c__law_whole k__law_whole
  have F__law_mixed := fun_mk (st := s__law_mixed) l__law_mixed c__law_mixed k__law_mixed
  have F__law_truths := fun_mk (st := s__law_truths) l__law_truths c__law_truths k__law_truths
  have F__law_items := fun_mk (st := s__law_items) l__law_items c__law_items k__law_items
  have F__law_classes := fun_mk (st := s__law_classes) l__law_classes c__law_classes k__law_classes
  have F__law_pair := fun_mk (st := s__law_pair) l__law_pair c__law_pair k__law_pair
  have F__law_told := fun_mk (st := s__law_told) l__law_told c__law_told k__law_told
  have F__law_named := fun_mk (st := s__law_named) l__law_named c__law_named k__law_named
  have F__law_looked := fun_mk (st := s__law_looked) l__law_looked c__law_looked k__law_looked
  have F__law_counted := fun_mk (st := s__law_counted) l__law_counted c__law_counted k__law_counted
  have F_law := fun_mk (st := s_law) l_law c_law k_law
  have F_In___init__ := fun_mk (st := s_In___init__) l_In___init__ c_In___init__ k_In___init__
  have F_In_told := fun_mk (st := s_In_told) l_In_told c_In_told k_In_told
  have F_In_named := fun_mk (st := s_In_named) l_In_named c_In_named k_In_named
  have F_In_holds := fun_mk (st := s_In_holds) l_In_holds c_In_holds k_In_holds
  have F_Out___init__ := fun_mk (st := s_Out___init__) l_Out___init__ c_Out___init__ k_Out___init__
  have F_Out_told := fun_mk (st := s_Out_told) l_Out_told c_Out_told k_Out_told
  have F_Out_named := fun_mk (st := s_Out_named) l_Out_named c_Out_named k_Out_named
  have F_Out_holds := fun_mk (st := s_Out_holds) l_Out_holds c_Out_holds k_Out_holds
  have F_Least___init__ := fun_mk (st := s_Least___init__) l_Least___init__ c_Least___init__ k_Least___init__
  have F_Least_told := fun_mk (st := s_Least_told) l_Least_told c_Least_told k_Least_told
  have F_Least_named := fun_mk (st := s_Least_named) l_Least_named c_Least_named k_Least_named
  have F_Least_holds := fun_mk (st := s_Least_holds) l_Least_holds c_Least_holds k_Least_holds
  have F_Most___init__ := fun_mk (st := s_Most___init__) l_Most___init__ c_Most___init__ k_Most___init__
  have F_Most_told := fun_mk (st := s_Most_told) l_Most_told c_Most_told k_Most_told
  have F_Most_named := fun_mk (st := s_Most_named) l_Most_named c_Most_named k_Most_named
  have F_Most_holds := fun_mk (st := s_Most_holds) l_Most_holds c_Most_holds k_Most_holds
  exact ⟨PySem.W.fnOf "law" "law" (defArgs s_law) (defBody s_law) (defScope s_law) .none kV_law dc_law pm_law an_law cd_law ct_law, fun s v => .of_eq rfl, {
    f_part_of := f_part_of,
    fd_part_of := _,
    f_things_of := f_things_of,
    fd_things_of := _,
    f_worth_in := f_worth_in,
    fd_worth_in := _,
    f__law_cell_at := f__law_cell_at,
    fd__law_cell_at := _,
    f__law_whole := f__law_whole,
    fd__law_whole := _,
    f__law_mixed := f__law_mixed,
    fd__law_mixed := _,
    f__law_truths := f__law_truths,
    fd__law_truths := _,
    f__law_items := f__law_items,
    fd__law_items := _,
    f__law_classes := f__law_classes,
    fd__law_classes := _,
    f__law_pair := f__law_pair,
    fd__law_pair := _,
    f__law_told := f__law_told,
    fd__law_told := _,
    f__law_named := f__law_named,
    fd__law_named := _,
    f__law_looked := f__law_looked,
    fd__law_looked := _,
    f__law_counted := f__law_counted,
    fd__law_counted := _,
    f_law := f_law,
    fd_law := _,
    f_In___init__ := f_In___init__,
    fd_In___init__ := _,
    f_In_told := f_In_told,
    fd_In_told := _,
    f_In_named := f_In_named,
    fd_In_named := _,
    f_In_holds := f_In_holds,
    fd_In_holds := _,
    f_Out___init__ := f_Out___init__,
    fd_Out___init__ := _,
    f_Out_told := f_Out_told,
    fd_Out_told := _,
    f_Out_named := f_Out_named,
    fd_Out_named := _,
    f_Out_holds := f_Out_holds,
    fd_Out_holds := _,
    f_Least___init__ := f_Least___init__,
    fd_Least___init__ := _,
    f_Least_told := f_Least_told,
    fd_Least_told := _,
    f_Least_named := f_Least_named,
    fd_Least_named := _,
    f_Least_holds := f_Least_holds,
    fd_Least_holds := _,
    f_Most___init__ := f_Most___init__,
    fd_Most___init__ := _,
    f_Most_told := f_Most_told,
    fd_Most_told := _,
    f_Most_named := f_Most_named,
    fd_Most_named := _,
    f_Most_holds := f_Most_holds,
    fd_Most_holds := _,
    C_Part := C_Part,
    C_In := C_In,
    C_Out := C_Out,
    C_Least := C_Least,
    C_Most := C_Most }, {
    F_part_of := F_part_of,
    b_part_of := F_part_of.binds fun _ _ _ _ _ _ us hl => by
      revert us hl
      exact len_1 fun _ => rfl,
    g_part_of := PySem.W.mg_of X G a_part_of,
    F_things_of := F_things_of,
    b_things_of := F_things_of.binds fun _ _ _ _ _ _ us hl => by
      revert us hl
      exact len_1 fun _ => rfl,
    g_things_of := PySem.W.mg_of X G a_things_of,
    F_worth_in := F_worth_in,
    b_worth_in := F_worth_in.binds fun _ _ _ _ _ _ us hl => by
      revert us hl
      exact len_2 fun _ _ => rfl,
    g_worth_in := PySem.W.mg_of X G a_worth_in,
    F__law_cell_at := F__law_cell_at,
    b__law_cell_at := F__law_cell_at.binds fun _ _ _ _ _ _ us hl => by
      revert us hl
      exact len_2 fun _ _ => rfl,
    g__law_cell_at := PySem.W.mg_of X G a__law_cell_at,
    F__law_whole := F__law_whole,
    b__law_whole := F__law_whole.binds fun _ _ _ _ _ _ us hl => by
      revert us hl
      exact len_1 fun _ => rfl,
    g__law_whole := PySem.W.mg_of X G a__law_whole,
    F__law_mixed := F__law_mixed,
    b__law_mixed := F__law_mixed.binds fun _ _ _ _ _ _ us hl => by
      revert us hl
      exact len_2 fun _ _ => rfl,
    g__law_mixed := PySem.W.mg_of X G a__law_mixed,
    F__law_truths := F__law_truths,
    b__law_truths := F__law_truths.binds fun _ _ _ _ _ _ us hl => by
      revert us hl
      exact len_3 fun _ _ _ => rfl,
    g__law_truths := PySem.W.mg_of X G a__law_truths,
    F__law_items := F__law_items,
    b__law_items := F__law_items.binds fun _ _ _ _ _ _ us hl => by
      revert us hl
      exact len_2 fun _ _ => rfl,
    g__law_items := PySem.W.mg_of X G a__law_items,
    F__law_classes := F__law_classes,
    b__law_classes := F__law_classes.binds fun _ _ _ _ _ _ us hl => by
      revert us hl
      exact len_1 fun _ => rfl,
    g__law_classes := PySem.W.mg_of X G a__law_classes,
    F__law_pair := F__law_pair,
    b__law_pair := F__law_pair.binds fun _ _ _ _ _ _ us hl => by
      revert us hl
      exact len_1 fun _ => rfl,
    g__law_pair := PySem.W.mg_of X G a__law_pair,
    F__law_told := F__law_told,
    b__law_told := F__law_told.binds fun _ _ _ _ _ _ us hl => by
      revert us hl
      exact len_2 fun _ _ => rfl,
    g__law_told := PySem.W.mg_of X G a__law_told,
    F__law_named := F__law_named,
    b__law_named := F__law_named.binds fun _ _ _ _ _ _ us hl => by
      revert us hl
      exact len_2 fun _ _ => rfl,
    g__law_named := PySem.W.mg_of X G a__law_named,
    F__law_looked := F__law_looked,
    b__law_looked := F__law_looked.binds fun _ _ _ _ _ _ us hl => by
      revert us hl
      exact len_3 fun _ _ _ => rfl,
    g__law_looked := PySem.W.mg_of X G a__law_looked,
    F__law_counted := F__law_counted,
    b__law_counted := F__law_counted.binds fun _ _ _ _ _ _ us hl => by
      revert us hl
      exact len_3 fun _ _ _ => rfl,
    g__law_counted := PySem.W.mg_of X G a__law_counted,
    F_law := F_law,
    b_law := F_law.binds fun _ _ _ _ _ _ us hl => by
      revert us hl
      exact len_1 fun _ => rfl,
    g_law := PySem.W.mg_of X G a_law,
    F_In___init__ := F_In___init__,
    b_In___init__ := F_In___init__.binds fun _ _ _ _ _ _ us hl => by
      revert us hl
      exact len_2 fun _ _ => rfl,
    F_In_told := F_In_told,
    b_In_told := F_In_told.binds fun _ _ _ _ _ _ us hl => by
      revert us hl
      exact len_1 fun _ => rfl,
    F_In_named := F_In_named,
    b_In_named := F_In_named.binds fun _ _ _ _ _ _ us hl => by
      revert us hl
      exact len_1 fun _ => rfl,
    F_In_holds := F_In_holds,
    b_In_holds := F_In_holds.binds fun _ _ _ _ _ _ us hl => by
      revert us hl
      exact len_3 fun _ _ _ => rfl,
    F_Out___init__ := F_Out___init__,
    b_Out___init__ := F_Out___init__.binds fun _ _ _ _ _ _ us hl => by
      revert us hl
      exact len_2 fun _ _ => rfl,
    F_Out_told := F_Out_told,
    b_Out_told := F_Out_told.binds fun _ _ _ _ _ _ us hl => by
      revert us hl
      exact len_1 fun _ => rfl,
    F_Out_named := F_Out_named,
    b_Out_named := F_Out_named.binds fun _ _ _ _ _ _ us hl => by
      revert us hl
      exact len_1 fun _ => rfl,
    F_Out_holds := F_Out_holds,
    b_Out_holds := F_Out_holds.binds fun _ _ _ _ _ _ us hl => by
      revert us hl
      exact len_3 fun _ _ _ => rfl,
    F_Least___init__ := F_Least___init__,
    b_Least___init__ := F_Least___init__.binds fun _ _ _ _ _ _ us hl => by
      revert us hl
      exact len_3 fun _ _ _ => rfl,
    F_Least_told := F_Least_told,
    b_Least_told := F_Least_told.binds fun _ _ _ _ _ _ us hl => by
      revert us hl
      exact len_1 fun _ => rfl,
    F_Least_named := F_Least_named,
    b_Least_named := F_Least_named.binds fun _ _ _ _ _ _ us hl => by
      revert us hl
      exact len_1 fun _ => rfl,
    F_Least_holds := F_Least_holds,
    b_Least_holds := F_Least_holds.binds fun _ _ _ _ _ _ us hl => by
      revert us hl
      exact len_3 fun _ _ _ => rfl,
    F_Most___init__ := F_Most___init__,
    b_Most___init__ := F_Most___init__.binds fun _ _ _ _ _ _ us hl => by
      revert us hl
      exact len_3 fun _ _ _ => rfl,
    F_Most_told := F_Most_told,
    b_Most_told := F_Most_told.binds fun _ _ _ _ _ _ us hl => by
      revert us hl
      exact len_1 fun _ => rfl,
    F_Most_named := F_Most_named,
    b_Most_named := F_Most_named.binds fun _ _ _ _ _ _ us hl => by
      revert us hl
      exact len_1 fun _ => rfl,
    F_Most_holds := F_Most_holds,
    b_Most_holds := F_Most_holds.binds fun _ _ _ _ _ _ us hl => by
      revert us hl
      exact len_3 fun _ _ _ => rfl,
    g_Part := PySem.W.mg_of X G aC_Part,
    g_In := PySem.W.mg_of X G aC_In,
    cl_In := ⟨pg_In, hd_In, po_In, sa_In⟩,
    mk_In := ⟨mk_In, a_In___init__, i_In___init__, kc_In⟩,
    na_In_thing := na_In_thing,
    m_In_told := ⟨a_In_told, i_In_told, k_In_told⟩,
    m_In_named := ⟨a_In_named, i_In_named, k_In_named⟩,
    m_In_holds := ⟨a_In_holds, i_In_holds, k_In_holds⟩,
    g_Out := PySem.W.mg_of X G aC_Out,
    cl_Out := ⟨pg_Out, hd_Out, po_Out, sa_Out⟩,
    mk_Out := ⟨mk_Out, a_Out___init__, i_Out___init__, kc_Out⟩,
    na_Out_thing := na_Out_thing,
    m_Out_told := ⟨a_Out_told, i_Out_told, k_Out_told⟩,
    m_Out_named := ⟨a_Out_named, i_Out_named, k_Out_named⟩,
    m_Out_holds := ⟨a_Out_holds, i_Out_holds, k_Out_holds⟩,
    g_Least := PySem.W.mg_of X G aC_Least,
    cl_Least := ⟨pg_Least, hd_Least, po_Least, sa_Least⟩,
    mk_Least := ⟨mk_Least, a_Least___init__, i_Least___init__, kc_Least⟩,
    na_Least_bound := na_Least_bound,
    na_Least_pieces := na_Least_pieces,
    m_Least_told := ⟨a_Least_told, i_Least_told, k_Least_told⟩,
    m_Least_named := ⟨a_Least_named, i_Least_named, k_Least_named⟩,
    m_Least_holds := ⟨a_Least_holds, i_Least_holds, k_Least_holds⟩,
    g_Most := PySem.W.mg_of X G aC_Most,
    cl_Most := ⟨pg_Most, hd_Most, po_Most, sa_Most⟩,
    mk_Most := ⟨mk_Most, a_Most___init__, i_Most___init__, kc_Most⟩,
    na_Most_bound := na_Most_bound,
    na_Most_pieces := na_Most_pieces,
    m_Most_told := ⟨a_Most_told, i_Most_told, k_Most_told⟩,
    m_Most_named := ⟨a_Most_named, i_Most_named, k_Most_named⟩,
    m_Most_holds := ⟨a_Most_holds, i_Most_holds, k_Most_holds⟩,
    tc_In := ⟨tA_In, tG, tK, tM_In⟩,
    ki_In_In := ki_In_In,
    ki_In_Least := ki_In_Least,
    ki_In_Most := ki_In_Most,
    ki_In_Out := ki_In_Out,
    ki_In_Part := ki_In_Part,
    tc_Out := ⟨tA_Out, tG, tK, tM_Out⟩,
    ki_Out_In := ki_Out_In,
    ki_Out_Least := ki_Out_Least,
    ki_Out_Most := ki_Out_Most,
    ki_Out_Out := ki_Out_Out,
    ki_Out_Part := ki_Out_Part,
    tc_Least := ⟨tA_Least, tG, tK, tM_Least⟩,
    ki_Least_In := ki_Least_In,
    ki_Least_Least := ki_Least_Least,
    ki_Least_Most := ki_Least_Most,
    ki_Least_Out := ki_Least_Out,
    ki_Least_Part := ki_Least_Part,
    tc_Most := ⟨tA_Most, tG, tK, tM_Most⟩,
    ki_Most_In := ki_Most_In,
    ki_Most_Least := ki_Most_Least,
    ki_Most_Most := ki_Most_Most,
    ki_Most_Out := ki_Most_Out,
    ki_Most_Part := ki_Most_Part,
    kt_NoneType_bool := kt_NoneType_bool,
    kt_bool_bool := kt_bool_bool,
    kt_int_bool := kt_int_bool,
    kt_str_bool := kt_str_bool,
    kt_list_bool := kt_list_bool,
    kt_tuple_bool := kt_tuple_bool,
    kt_dict_bool := kt_dict_bool,
    kt_NoneType_int := kt_NoneType_int,
    kt_bool_int := kt_bool_int,
    kt_int_int := kt_int_int,
    kt_str_int := kt_str_int,
    kt_list_int := kt_list_int,
    kt_tuple_int := kt_tuple_int,
    kt_dict_int := kt_dict_int,
    kt_NoneType_list := kt_NoneType_list,
    kt_bool_list := kt_bool_list,
    kt_int_list := kt_int_list,
    kt_str_list := kt_str_list,
    kt_list_list := kt_list_list,
    kt_tuple_list := kt_tuple_list,
    kt_dict_list := kt_dict_list,
    kt_NoneType_str := kt_NoneType_str,
    kt_bool_str := kt_bool_str,
    kt_int_str := kt_int_str,
    kt_str_str := kt_str_str,
    kt_list_str := kt_list_str,
    kt_tuple_str := kt_tuple_str,
    kt_dict_str := kt_dict_str,
    kt_NoneType_tuple := kt_NoneType_tuple,
    kt_bool_tuple := kt_bool_tuple,
    kt_int_tuple := kt_int_tuple,
    kt_str_tuple := kt_str_tuple,
    kt_list_tuple := kt_list_tuple,
    kt_tuple_tuple := kt_tuple_tuple,
    kt_dict_tuple := kt_dict_tuple,
    z_bool := PySem.W.mg_none_of X G z_bool,
    z_int := PySem.W.mg_none_of X G z_int,
    z_isinstance := PySem.W.mg_none_of X G z_isinstance,
    z_len := PySem.W.mg_none_of X G z_len,
    z_list := PySem.W.mg_none_of X G z_list,
    z_range := PySem.W.mg_none_of X G z_range,
    z_set := PySem.W.mg_none_of X G z_set,
    z_sorted := PySem.W.mg_none_of X G z_sorted,
    z_str := PySem.W.mg_none_of X G z_str,
    z_sum := PySem.W.mg_none_of X G z_sum,
    z_tuple := PySem.W.mg_none_of X G z_tuple }, rfl, rfl⟩
end
end N_k05
theorem PySem.W.Fast.te12333064341838747856 : True := trivial
theorem PySem.W.Fast.te11336775240445427226 : True := trivial
theorem PySem.W.Fast.te11766049268744339813 : True := trivial
theorem PySem.W.Fast.te6324032041202315357 : True := trivial
theorem PySem.W.Fast.te4975169818958635676 : True := trivial
theorem PySem.W.Fast.te13612421013492802067 : True := trivial
theorem PySem.W.Fast.te16366999644547634352 : True := trivial
theorem PySem.W.Fast.te4703686844654373692 : True := trivial
open PySem PySem.W PyProof.Rows
set_option maxRecDepth 100000 in
set_option maxHeartbeats 0 in
theorem PySem.Challenge.cw_standstill_k05_parts_told_and_named_holds : PySem.Challenge.rw_standstill_k05_parts_told_and_named.Holds := by
  w_on; o_law; k_head; (case hw => w_witness2)
  k_fill
  refine L2.walk_ofK (l := PySem.Challenge.rw_standstill_k05_parts_told_and_named) (n := 63) (k := 5) (x := "_law_script") (CX := L2.CX0) (sp := N_k05.sp_law) rfl (by decide) rfl ⟨rfl, by decide, by decide⟩ (fun w h Y => PySem.W.kIn_of Y) ?F (fun _ _ a ns hl _ hS => N_k05.sp_law_of hl hS) (fun _ _ _ _ z => z)
  case F =>
    intro w mg fa h KX G hmg
    have TT : ∃ fd : FuncData, (∀ (s : Shared) (v : Value), BindsTo s fd ⟨[v], []⟩ [("_law_script", v)]) ∧ ∃ a : N_k05.Wa, ∃ W : N_k05.Wd (L2.KOf KX) mg a, a.f_law = fa ∧ a.fd_law = fd := by
      dsimp only [L2.KOf]
      refine' N_k05.all_mk (l := PySem.Challenge.rw_standstill_k05_parts_told_and_named) (w := w) KX G hmg ?aC_Part ?aC_In ?aC_Out ?aC_Least ?aC_Most ?a_part_of ?l_part_of ?c_part_of ?k_part_of ?a_things_of ?l_things_of ?c_things_of ?k_things_of ?a_worth_in ?l_worth_in ?c_worth_in ?k_worth_in ?a__law_cell_at ?l__law_cell_at ?c__law_cell_at ?k__law_cell_at ?a__law_whole ?l__law_whole ?c__law_whole ?k__law_whole ?a__law_mixed ?l__law_mixed ?c__law_mixed ?k__law_mixed ?a__law_truths ?l__law_truths ?c__law_truths ?k__law_truths ?a__law_items ?l__law_items ?c__law_items ?k__law_items ?a__law_classes ?l__law_classes ?c__law_classes ?k__law_classes ?a__law_pair ?l__law_pair ?c__law_pair ?k__law_pair ?a__law_told ?l__law_told ?c__law_told ?k__law_told ?a__law_named ?l__law_named ?c__law_named ?k__law_named ?a__law_looked ?l__law_looked ?c__law_looked ?k__law_looked ?a__law_counted ?l__law_counted ?c__law_counted ?k__law_counted ?a_law ?l_law ?c_law ?k_law ?a_In___init__ ?i_In___init__ ?l_In___init__ ?c_In___init__ ?k_In___init__ ?a_In_told ?i_In_told ?l_In_told ?c_In_told ?k_In_told ?a_In_named ?i_In_named ?l_In_named ?c_In_named ?k_In_named ?a_In_holds ?i_In_holds ?l_In_holds ?c_In_holds ?k_In_holds ?a_Out___init__ ?i_Out___init__ ?l_Out___init__ ?c_Out___init__ ?k_Out___init__ ?a_Out_told ?i_Out_told ?l_Out_told ?c_Out_told ?k_Out_told ?a_Out_named ?i_Out_named ?l_Out_named ?c_Out_named ?k_Out_named ?a_Out_holds ?i_Out_holds ?l_Out_holds ?c_Out_holds ?k_Out_holds ?a_Least___init__ ?i_Least___init__ ?l_Least___init__ ?c_Least___init__ ?k_Least___init__ ?a_Least_told ?i_Least_told ?l_Least_told ?c_Least_told ?k_Least_told ?a_Least_named ?i_Least_named ?l_Least_named ?c_Least_named ?k_Least_named ?a_Least_holds ?i_Least_holds ?l_Least_holds ?c_Least_holds ?k_Least_holds ?a_Most___init__ ?i_Most___init__ ?l_Most___init__ ?c_Most___init__ ?k_Most___init__ ?a_Most_told ?i_Most_told ?l_Most_told ?c_Most_told ?k_Most_told ?a_Most_named ?i_Most_named ?l_Most_named ?c_Most_named ?k_Most_named ?a_Most_holds ?i_Most_holds ?l_Most_holds ?c_Most_holds ?k_Most_holds ?pg_In ?hd_In ?po_In ?sa_In ?mk_In ?kc_In ?na_In_thing ?pg_Out ?hd_Out ?po_Out ?sa_Out ?mk_Out ?kc_Out ?na_Out_thing ?pg_Least ?hd_Least ?po_Least ?sa_Least ?mk_Least ?kc_Least ?na_Least_bound ?na_Least_pieces ?pg_Most ?hd_Most ?po_Most ?sa_Most ?mk_Most ?kc_Most ?na_Most_bound ?na_Most_pieces ?tG ?tK ?tA_In ?tM_In ?ki_In_In ?ki_In_Least ?ki_In_Most ?ki_In_Out ?ki_In_Part ?tA_Out ?tM_Out ?ki_Out_In ?ki_Out_Least ?ki_Out_Most ?ki_Out_Out ?ki_Out_Part ?tA_Least ?tM_Least ?ki_Least_In ?ki_Least_Least ?ki_Least_Most ?ki_Least_Out ?ki_Least_Part ?tA_Most ?tM_Most ?ki_Most_In ?ki_Most_Least ?ki_Most_Most ?ki_Most_Out ?ki_Most_Part ?kt_NoneType_bool ?kt_bool_bool ?kt_int_bool ?kt_str_bool ?kt_list_bool ?kt_tuple_bool ?kt_dict_bool ?kt_NoneType_int ?kt_bool_int ?kt_int_int ?kt_str_int ?kt_list_int ?kt_tuple_int ?kt_dict_int ?kt_NoneType_list ?kt_bool_list ?kt_int_list ?kt_str_list ?kt_list_list ?kt_tuple_list ?kt_dict_list ?kt_NoneType_str ?kt_bool_str ?kt_int_str ?kt_str_str ?kt_list_str ?kt_tuple_str ?kt_dict_str ?kt_NoneType_tuple ?kt_bool_tuple ?kt_int_tuple ?kt_str_tuple ?kt_list_tuple ?kt_tuple_tuple ?kt_dict_tuple ?z_bool ?z_int ?z_isinstance ?z_len ?z_list ?z_range ?z_set ?z_sorted ?z_str ?z_sum ?z_tuple
      (case aC_Part => k_is)
      (case aC_In => k_is)
      (case aC_Out => k_is)
      (case aC_Least => k_is)
      (case aC_Most => k_is)
      (case a_part_of => k_is)
      (case l_part_of => k_is)
      (case c_part_of => k_is)
      (case k_part_of => k_is)
      (case a_things_of => k_is)
      (case l_things_of => k_is)
      (case c_things_of => k_is)
      (case k_things_of => k_is)
      (case a_worth_in => k_is)
      (case l_worth_in => k_is)
      (case c_worth_in => k_is)
      (case k_worth_in => k_is)
      (case a__law_cell_at => k_is)
      (case l__law_cell_at => k_is)
      (case c__law_cell_at => k_is)
      (case k__law_cell_at => k_is)
      (case a__law_whole => k_is)
      (case l__law_whole => k_is)
      (case c__law_whole => k_is)
      (case k__law_whole => k_is)
      (case a__law_mixed => k_is)
      (case l__law_mixed => k_is)
      (case c__law_mixed => k_is)
      (case k__law_mixed => k_is)
      (case a__law_truths => k_is)
      (case l__law_truths => k_is)
      (case c__law_truths => k_is)
      (case k__law_truths => k_is)
      (case a__law_items => k_is)
      (case l__law_items => k_is)
      (case c__law_items => k_is)
      (case k__law_items => k_is)
      (case a__law_classes => k_is)
      (case l__law_classes => k_is)
      (case c__law_classes => k_is)
      (case k__law_classes => k_is)
      (case a__law_pair => k_is)
      (case l__law_pair => k_is)
      (case c__law_pair => k_is)
      (case k__law_pair => k_is)
      (case a__law_told => k_is)
      (case l__law_told => k_is)
      (case c__law_told => k_is)
      (case k__law_told => k_is)
      (case a__law_named => k_is)
      (case l__law_named => k_is)
      (case c__law_named => k_is)
      (case k__law_named => k_is)
      (case a__law_looked => k_is)
      (case l__law_looked => k_is)
      (case c__law_looked => k_is)
      (case k__law_looked => k_is)
      (case a__law_counted => k_is)
      (case l__law_counted => k_is)
      (case c__law_counted => k_is)
      (case k__law_counted => k_is)
      (case a_law => k_is)
      (case l_law => k_is)
      (case c_law => k_is)
      (case k_law => k_is)
      (case a_In___init__ => k_is)
      (case i_In___init__ => k_is)
      (case l_In___init__ => k_is)
      (case c_In___init__ => k_is)
      (case k_In___init__ => k_is)
      (case a_In_told => k_is)
      (case i_In_told => k_is)
      (case l_In_told => k_is)
      (case c_In_told => k_is)
      (case k_In_told => k_is)
      (case a_In_named => k_is)
      (case i_In_named => k_is)
      (case l_In_named => k_is)
      (case c_In_named => k_is)
      (case k_In_named => k_is)
      (case a_In_holds => k_is)
      (case i_In_holds => k_is)
      (case l_In_holds => k_is)
      (case c_In_holds => k_is)
      (case k_In_holds => k_is)
      (case a_Out___init__ => k_is)
      (case i_Out___init__ => k_is)
      (case l_Out___init__ => k_is)
      (case c_Out___init__ => k_is)
      (case k_Out___init__ => k_is)
      (case a_Out_told => k_is)
      (case i_Out_told => k_is)
      (case l_Out_told => k_is)
      (case c_Out_told => k_is)
      (case k_Out_told => k_is)
      (case a_Out_named => k_is)
      (case i_Out_named => k_is)
      (case l_Out_named => k_is)
      (case c_Out_named => k_is)
      (case k_Out_named => k_is)
      (case a_Out_holds => k_is)
      (case i_Out_holds => k_is)
      (case l_Out_holds => k_is)
      (case c_Out_holds => k_is)
      (case k_Out_holds => k_is)
      (case a_Least___init__ => k_is)
      (case i_Least___init__ => k_is)
      (case l_Least___init__ => k_is)
      (case c_Least___init__ => k_is)
      (case k_Least___init__ => k_is)
      (case a_Least_told => k_is)
      (case i_Least_told => k_is)
      (case l_Least_told => k_is)
      (case c_Least_told => k_is)
      (case k_Least_told => k_is)
      (case a_Least_named => k_is)
      (case i_Least_named => k_is)
      (case l_Least_named => k_is)
      (case c_Least_named => k_is)
      (case k_Least_named => k_is)
      (case a_Least_holds => k_is)
      (case i_Least_holds => k_is)
      (case l_Least_holds => k_is)
      (case c_Least_holds => k_is)
      (case k_Least_holds => k_is)
      (case a_Most___init__ => k_is)
      (case i_Most___init__ => k_is)
      (case l_Most___init__ => k_is)
      (case c_Most___init__ => k_is)
      (case k_Most___init__ => k_is)
      (case a_Most_told => k_is)
      (case i_Most_told => k_is)
      (case l_Most_told => k_is)
      (case c_Most_told => k_is)
      (case k_Most_told => k_is)
      (case a_Most_named => k_is)
      (case i_Most_named => k_is)
      (case l_Most_named => k_is)
      (case c_Most_named => k_is)
      (case k_Most_named => k_is)
      (case a_Most_holds => k_is)
      (case i_Most_holds => k_is)
      (case l_Most_holds => k_is)
      (case c_Most_holds => k_is)
      (case k_Most_holds => k_is)
      (case pg_In => k_is)
      (case hd_In => k_is)
      (case po_In => k_is)
      (case sa_In => k_is)
      (case mk_In => k_is)
      (case kc_In => k_is)
      (case na_In_thing => k_is)
      (case pg_Out => k_is)
      (case hd_Out => k_is)
      (case po_Out => k_is)
      (case sa_Out => k_is)
      (case mk_Out => k_is)
      (case kc_Out => k_is)
      (case na_Out_thing => k_is)
      (case pg_Least => k_is)
      (case hd_Least => k_is)
      (case po_Least => k_is)
      (case sa_Least => k_is)
      (case mk_Least => k_is)
      (case kc_Least => k_is)
      (case na_Least_bound => k_is)
      (case na_Least_pieces => k_is)
      (case pg_Most => k_is)
      (case hd_Most => k_is)
      (case po_Most => k_is)
      (case sa_Most => k_is)
      (case mk_Most => k_is)
      (case kc_Most => k_is)
      (case na_Most_bound => k_is)
      (case na_Most_pieces => k_is)
      (case tG => k_is)
      (case tK => k_is)
      (case tA_In => k_is)
      (case tM_In => k_is)
      (case ki_In_In => kit_is)
      (case ki_In_Least => kit_is)
      (case ki_In_Most => kit_is)
      (case ki_In_Out => kit_is)
      (case ki_In_Part => kit_is)
      (case tA_Out => k_is)
      (case tM_Out => k_is)
      (case ki_Out_In => kit_is)
      (case ki_Out_Least => kit_is)
      (case ki_Out_Most => kit_is)
      (case ki_Out_Out => kit_is)
      (case ki_Out_Part => kit_is)
      (case tA_Least => k_is)
      (case tM_Least => k_is)
      (case ki_Least_In => kit_is)
      (case ki_Least_Least => kit_is)
      (case ki_Least_Most => kit_is)
      (case ki_Least_Out => kit_is)
      (case ki_Least_Part => kit_is)
      (case tA_Most => k_is)
      (case tM_Most => k_is)
      (case ki_Most_In => kit_is)
      (case ki_Most_Least => kit_is)
      (case ki_Most_Most => kit_is)
      (case ki_Most_Out => kit_is)
      (case ki_Most_Part => kit_is)
      (case kt_NoneType_bool => kit_is)
      (case kt_bool_bool => kit_is)
      (case kt_int_bool => kit_is)
      (case kt_str_bool => kit_is)
      (case kt_list_bool => kit_is)
      (case kt_tuple_bool => kit_is)
      (case kt_dict_bool => kit_is)
      (case kt_NoneType_int => kit_is)
      (case kt_bool_int => kit_is)
      (case kt_int_int => kit_is)
      (case kt_str_int => kit_is)
      (case kt_list_int => kit_is)
      (case kt_tuple_int => kit_is)
      (case kt_dict_int => kit_is)
      (case kt_NoneType_list => kit_is)
      (case kt_bool_list => kit_is)
      (case kt_int_list => kit_is)
      (case kt_str_list => kit_is)
      (case kt_list_list => kit_is)
      (case kt_tuple_list => kit_is)
      (case kt_dict_list => kit_is)
      (case kt_NoneType_str => kit_is)
      (case kt_bool_str => kit_is)
      (case kt_int_str => kit_is)
      (case kt_str_str => kit_is)
      (case kt_list_str => kit_is)
      (case kt_tuple_str => kit_is)
      (case kt_dict_str => kit_is)
      (case kt_NoneType_tuple => kit_is)
      (case kt_bool_tuple => kit_is)
      (case kt_int_tuple => kit_is)
      (case kt_str_tuple => kit_is)
      (case kt_list_tuple => kit_is)
      (case kt_tuple_tuple => kit_is)
      (case kt_dict_tuple => kit_is)
      (case z_bool => k_is)
      (case z_int => k_is)
      (case z_isinstance => k_is)
      (case z_len => k_is)
      (case z_list => k_is)
      (case z_range => k_is)
      (case z_set => k_is)
      (case z_sorted => k_is)
      (case z_str => k_is)
      (case z_sum => k_is)
      (case z_tuple => k_is)
    obtain ⟨fd, hb, a, W, e1, e2⟩ := TT
    subst e1 e2
    exact ⟨_, hb, fun base kb nb => N_k05.law_ok W⟩


