import PyProof.Rows.All
import Wide.All
import OpenK.AllK
import Wide.FinOn
import Lean
import PyProof.EqAt
import PyProof.EqKinds
import PyProof.TupleCall
import PyProof.NeKinds
import PySem.Challenge.RW_standstill_k71_words
set_option Elab.async false
set_option genSizeOf false
set_option linter.all false
set_option maxRecDepth 100000
namespace L2
open PySem PySem.Spec PyProof.Rows
noncomputable abbrev Key := Sum Int Str
noncomputable def zkt : Key -> Value -> Bool
  | .inl k, v => Value.isInt k v
  | .inr x, v => Value.isStrOf x v
noncomputable def zs2 (w : World) : Key -> Int
  | .inl k => hashInt k
  | .inr x => hashStr w x
theorem zcf : ∀ {k : Key} {v : Value}, zkt k v = true -> (∃ i t, k = Sum.inl i /\ v = Value.int i t) \/ (∃ x t, k = Sum.inr x /\ v = Value.str x t)
  | .inl i, v, h => by
    obtain ⟨t, e⟩ := Value.isInt_shape (k := i) (v := v) h
    exact .inl ⟨i, t, rfl, e⟩
  | .inr x, v, h => by
    obtain ⟨t, e⟩ := Value.isStrOf_shape (x := x) (v := v) h
    exact .inr ⟨x, t, rfl, e⟩
theorem zn1 (a b : Int) : decide ((Sum.inl a : Key) = Sum.inl b) = (a == b) := by
  by_cases e : a = b
  · subst e; simp
  · have h : ¬ (Sum.inl a : Key) = Sum.inl b := fun q => e (Sum.inl.inj q)
    rw [decide_eq_false h]
    exact (beq_eq_false_iff_ne.mpr e).symm
theorem zop (a b : Str) : decide ((Sum.inr a : Key) = Sum.inr b) = decide (a = b) := by
  by_cases e : a = b
  · subst e; simp
  · have h : ¬ (Sum.inr a : Key) = Sum.inr b := fun q => e (Sum.inr.inj q)
    rw [decide_eq_false h, decide_eq_false e]
theorem zp5 (a : Int) (b : Str) : decide ((Sum.inl a : Key) = Sum.inr b) = false := decide_eq_false (fun q => nomatch q)
theorem zn7 (a : Str) (b : Int) : decide ((Sum.inr a : Key) = Sum.inl b) = false := decide_eq_false (fun q => nomatch q)
noncomputable def zic (prog : Program) (w : World) : PySem.KeyKind prog w Key where
  is := zkt
  hash := zs2 w
  inj := fun v a b ha hb => by
    rcases zcf ha with ⟨i, t, rfl, rfl⟩ | ⟨x, t, rfl, rfl⟩
    · rcases zcf hb with ⟨j, u, rfl, e⟩ | ⟨y, u, rfl, e⟩
      · injection e with e1 _; rw [e1]
      · exact nomatch e
    · rcases zcf hb with ⟨j, u, rfl, e⟩ | ⟨y, u, rfl, e⟩
      · exact nomatch e
      · injection e with e1 _; rw [e1]
  byValue := fun k v h => by
    rcases zcf h with ⟨i, t, rfl, rfl⟩ | ⟨x, t, rfl, rfl⟩ <;> rfl
  pyHash := fun hv h => by
    rcases zcf hv with ⟨i, t, rfl, rfl⟩ | ⟨x, t, rfl, rfl⟩
    · exact wpAny_pyHash_int h
    · exact wpAny_pyHash_str h
  eqBool := fun hu hv h => by
    rcases zcf hu with ⟨i, t, rfl, rfl⟩ | ⟨x, t, rfl, rfl⟩
    · rcases zcf hv with ⟨j, u, rfl, rfl⟩ | ⟨y, u, rfl, rfl⟩
      · rw [zn1] at h; exact wpAny_eqBool_int h
      · rw [zp5] at h; exact SeqAt.EqAt.int_str i t y u _ _ _ _ h
    · rcases zcf hv with ⟨j, u, rfl, rfl⟩ | ⟨y, u, rfl, rfl⟩
      · rw [zn7] at h; exact SeqAt.EqAt.str_int x t j u _ _ _ _ h
      · rw [zop] at h; exact wpAny_eqBool_str h
  «strs» := fun k x t v h => by
    rcases zcf h with ⟨i, u, rfl, e⟩ | ⟨y, u, rfl, e⟩
    · exact nomatch e
    · injection e with e1 _
      subst e1
      cases v <;> rfl
end L2
namespace L2
open PySem PySem.Spec PyProof.Rows
inductive V where
  | non | bl (b : Bool) | int (i : Int) | str (x : Str) | byt (b : Array UInt8) | flt (b : UInt64) | ref (a : Addr) | ty (n : String)
  deriving DecidableEq
noncomputable def zae : V -> Value -> Prop
  | .non, u => u = Value.none
  | .bl b, u => u = Value.bool b
  | .int i, u => ∃ t, u = Value.int i t
  | .str x, u => ∃ t, u = Value.str x t
  | .byt b, u => ∃ t, u = Value.bytes b t
  | .flt b, u => ∃ t, u = Value.float b t
  | .ref a, u => u = Value.ref a
  | .ty n, u => u = Value.type n
noncomputable abbrev zad : List V -> List Value -> Prop := Paired zae
theorem zad.length {xs : List V} {us : List Value} (r : zad xs us) : xs.length = us.length := Paired.length r
theorem zad.get : ∀ {xs : List V} {us : List Value} {i : Nat} {x : V}, zad xs us -> xs[i]? = some x -> ∃ u, us[i]? = some u /\ zae x u
  | _, _, _, _, .nil, e => by simp at e
  | _, _, 0, _, .cons r _, e => by simp at e; subst e; exact ⟨_, rfl, r⟩
  | _, _, i + 1, x, .cons _ t, e => by
    obtain ⟨u, h1, h2⟩ := zad.get (i := i) (x := x) t (by simpa using e)
    exact ⟨u, by simpa using h1, h2⟩
theorem zad.set {x : V} {u : Value} (r : zae x u) : ∀ {xs : List V} {us : List Value} (i : Nat), zad xs us -> zad (xs.set i x) (us.set i u)
  | _, _, _, .nil => .nil
  | _, _, 0, .cons _ t => .cons r t
  | _, _, i + 1, .cons q t => .cons q (zad.set r i t)
theorem zad.append : ∀ {xs ys : List V} {us ws : List Value}, zad xs us -> zad ys ws -> zad (xs ++ ys) (us ++ ws)
  | _, _, _, _, .nil, s => s
  | _, _, _, _, .cons r t, s => .cons r (zad.append t s)
theorem zad.take : ∀ {xs : List V} {us : List Value} (n : Nat), zad xs us -> zad (xs.take n) (us.take n)
  | _, _, 0, _ => .nil
  | _, _, _ + 1, .nil => .nil
  | _, _, n + 1, .cons r t => .cons r (zad.take n t)
theorem zad.drop : ∀ {xs : List V} {us : List Value} (n : Nat), zad xs us -> zad (xs.drop n) (us.drop n)
  | _, _, 0, r => r
  | _, _, _ + 1, .nil => .nil
  | _, _, n + 1, .cons _ t => zad.drop n t
noncomputable def zdc : Option V -> Option Value -> Prop
  | some v, some u => zae v u
  | none, none => True
  | _, _ => False
noncomputable def KV {κ : Type} : List (κ × V) -> List (κ × Value) -> Prop := Paired fun (p : κ × V) (q : κ × Value) => p.1 = q.1 /\ zae p.2 q.2
noncomputable def kV : Key -> V
  | .inl i => .int i
  | .inr x => .str x
inductive HO where
  | lst (xs : List V)
  | tup (xs : List V)
  | dK (kvs : List (Key × V)) | dT (kvs : List (List Key × V))
  | set (S : Int -> Bool) (n : Nat)
  | ins (C dx : Addr) (fs : List (Str × V))
  | own (x : Addr)
  | xd (fs : List (Str × V))
  | met (f x : Addr)
  | rng (lo hi : Int)
  | frz (o : Obj) (u : HO)
  | tbl (ps : Array Value)
  | ext (φ : Heap -> Prop)
noncomputable abbrev Hp := Addr -> Option HO
noncomputable def upd (H : Hp) (a : Addr) (o : HO) : Hp := fun b => if b = a then some o else H b
theorem zau {H : Hp} {a : Addr} {o : HO} : upd H a o a = some o := by unfold upd; rw [if_pos rfl]
theorem zag {H : Hp} {a b : Addr} {o : HO} (h : b ≠ a) : upd H a o b = H b := by unfold upd; rw [if_neg h]
theorem zr0 {H : Hp} {a b : Addr} {o u : HO} (h : H a = some o) (h' : H b = some u) (d : o ≠ u) : a ≠ b := by
  intro e; subst e; rw [h] at h'; exact d (Option.some.inj h')
theorem zaz {H : Hp} {a b : Addr} {o : HO} (h : H a = some o) (h' : H b = none) : a ≠ b := by
  intro e; subst e; rw [h] at h'; cases h'
section
variable (P : Program) (w : World)
noncomputable def zay (H : Hp) (h : Heap) (a : Addr) : HO -> Prop
  | .lst xs => xs.length <= sizeLine /\ ∃ (its : List Value) (n : Nat), zad xs its /\ h.get? a = some { cls := .type "list", data := .seq its.toArray n }
  | .tup xs => xs.length <= sizeLine /\ ∃ its : List Value, zad xs its /\ IsTup h a its.toArray
  | .dK kvs => kvs.length <= sizeLine /\ (a == sysModules) = false /\ ∃ vs, KV kvs vs /\ h.DictOf (zic P w) a vs
  | .dT kvs => kvs.length <= sizeLine /\ (a == sysModules) = false /\ ∃ xs : List (List Key × Addr × Value),
      Paired (fun (p : List Key × V) (q : List Key × Addr × Value) => p.1 = q.1 /\ H q.2.1 = some (.tup (p.1.map kV)) /\ zae p.2 q.2.2) kvs xs /\
      ∃ o es ep, h.get? a = some o /\ o.ExactDict /\ o.data = .dict es ep /\ es.toList = xs.map (entryOfKey (tupleKind (zic P w))) /\ (xs.map (·.1)).Nodup
  | .set S n => h.SetOf (intKind P w) a S n
  | .ins C dx fs => H dx = some (.own a) /\ fs.length <= 1000 /\ dx ≠ a /\ h.get? a = some (PySem.W.instObj C dx) /\
      ∃ mA, h.Ns1 dx mA /\ (∀ f, zdc (fs.lookup f) (mA f)) /\ PySem.Within mA (fs.map (·.1))
  | .own _ => ∃ o, h.get? a = some o
  | .xd fs => ∃ mA, h.Ns1 a mA /\ ∀ f, zdc (fs.lookup f) (mA f)
  | .rng lo hi => ∃ t u v, h.get? a = some { cls := .type "range", data := .fields #[.int lo t, .int hi u, .int 1 v] }
  | .frz o u => h.get? a = some o /\ zay H h a u
  | .tbl ps => h.get? a = some { cls := .none, data := .fields ps }
  | .met f x => h.get? a = some (PySem.W.methodObj (.ref f) (.ref x))
  | .ext φ => φ h /\ (∃ o, h.get? a = some o) /\ ∀ h1 h2 : Heap, φ h1 -> (∀ o, h1.get? a = some o -> h2.get? a = some o) -> φ h2
noncomputable def HOk (H : Hp) (h : Heap) : Prop := ∀ a o, H a = some o -> zay P w H h a o
end
section
variable {P : Program} {w : World} {H H' : Hp} {h h' : Heap} {a : Addr} {o : HO}
theorem zay.lt (x : zay P w H h a o) : a < h.objs.size := by
  cases o with
  | lst xs => obtain ⟨_, _, _, _, e⟩ := x; exact Heap.lt_size e
  | tup xs => obtain ⟨_, _, _, p⟩ := x; exact p.lt
  | dK kvs => obtain ⟨_, _, _, _, o, _, _, e, _⟩ := x; exact Heap.lt_size e
  | dT kvs => obtain ⟨_, _, _, _, o, _, _, e, _⟩ := x; exact Heap.lt_size e
  | set S n => obtain ⟨o, _, _, _, e, _⟩ := x; exact Heap.lt_size e
  | ins C dx fs => obtain ⟨_, _, _, e, _⟩ := x; exact Heap.lt_size e
  | own y => obtain ⟨_, e⟩ := x; exact Heap.lt_size e
  | xd fs => obtain ⟨_, ⟨_, _, _, e, _⟩, _⟩ := x; exact Heap.lt_size e
  | rng lo hi => obtain ⟨_, _, _, e⟩ := x; exact Heap.lt_size e
  | frz ob u => obtain ⟨e, _⟩ := x; exact Heap.lt_size e
  | tbl ps => exact Heap.lt_size (show h.get? a = some _ from x)
  | met f y => exact Heap.lt_size (show h.get? a = some _ from x)
  | ext φ => obtain ⟨_, ⟨_, e⟩, _⟩ := x; exact Heap.lt_size e
theorem Paired.mapP {α β : Type} {F G : α -> β -> Prop} : ∀ {l₁ : List α} {l₂ : List β}, Paired F l₁ l₂ -> (∀ a b, F a b -> G a b) -> Paired G l₁ l₂
  | _, _, .nil, _ => .nil
  | _, _, .cons r t, f => .cons (f _ _ r) (Paired.mapP t f)
theorem zay.stay (x : zay P w H h a o) (k : ∀ b u, (b = a \/ H b = some (.own a)) -> h.get? b = some u -> h'.get? b = some u)
    (ho : ∀ b, H b = some (.own a) -> H' b = some (.own a)) (ht : ∀ b xs, H b = some (.tup xs) -> H' b = some (.tup xs)) : zay P w H' h' a o := by
  induction o with
  | lst xs => obtain ⟨z, its, n, r, e⟩ := x; exact ⟨z, its, n, r, k _ _ (.inl rfl) e⟩
  | tup xs => obtain ⟨z, its, r, ob, e, c⟩ := x; exact ⟨z, its, r, ob, k _ _ (.inl rfl) e, c⟩
  | dK kvs => obtain ⟨z, y, vs, r, ob, es, ep, e, c⟩ := x; exact ⟨z, y, vs, r, ob, es, ep, k _ _ (.inl rfl) e, c⟩
  | dT kvs =>
    obtain ⟨z, y, xs, r, ob, es, ep, e, c⟩ := x
    exact ⟨z, y, xs, Paired.mapP r fun p q z => ⟨z.1, ht _ _ z.2.1, z.2.2⟩, ob, es, ep, k _ _ (.inl rfl) e, c⟩
  | set S n => obtain ⟨ob, es, ep, t, e, c⟩ := x; exact ⟨ob, es, ep, t, k _ _ (.inl rfl) e, c⟩
  | ins C dx fs =>
    obtain ⟨d, z, ne, e, mA, ⟨od, es, ep, e2, c⟩, r⟩ := x
    exact ⟨ho _ d, z, ne, k _ _ (.inl rfl) e, mA, ⟨od, es, ep, k _ _ (.inr d) e2, c⟩, r⟩
  | own y => obtain ⟨ob, e⟩ := x; exact ⟨ob, k _ _ (.inl rfl) e⟩
  | xd fs => obtain ⟨mA, ⟨od, es, ep, e, c⟩, r⟩ := x; exact ⟨mA, ⟨od, es, ep, k _ _ (.inl rfl) e, c⟩, r⟩
  | rng lo hi => obtain ⟨t, u, v, e⟩ := x; exact ⟨t, u, v, k _ _ (.inl rfl) e⟩
  | frz ob u ih => obtain ⟨e, q⟩ := x; exact ⟨k _ _ (.inl rfl) e, ih q⟩
  | tbl ps =>
    have e : h.get? a = some { cls := .none, data := .fields ps } := x
    show h'.get? a = some { cls := .none, data := .fields ps }
    exact k a _ (.inl rfl) e
  | met f y =>
    have e : h.get? a = some (PySem.W.methodObj (.ref f) (.ref y)) := x
    show h'.get? a = some (PySem.W.methodObj (.ref f) (.ref y))
    exact k a _ (.inl rfl) e
  | ext φ => obtain ⟨p, ⟨o, e⟩, st⟩ := x; exact ⟨st _ _ p fun o q => k _ _ (.inl rfl) q, ⟨o, k _ _ (.inl rfl) e⟩, st⟩
theorem HOk.lt (x : HOk P w H h) (e : H a = some o) : a < h.objs.size := (x a o e).lt
theorem HOk.fresh (x : HOk P w H h) (e : h.objs.size <= a) : H a = none := by
  cases q : H a with
  | none => rfl
  | some u => exact absurd (Nat.lt_of_lt_of_le (x.lt q) e) (Nat.lt_irrefl _)
theorem HOk.kept (x : HOk P w H h) (k : ∀ b u, h.get? b = some u -> h'.get? b = some u) : HOk P w H h' := fun a o e =>
  (x a o e).stay (fun b u _ q => k b u q) (fun _ q => q) fun _ _ q => q
theorem HOk.laid (x : HOk P w H h) (k : ∀ b u, h.get? b = some u -> h'.get? b = some u) (hp : h.objs.size <= a) (new : zay P w (upd H a o) h' a o) : HOk P w (upd H a o) h' := fun b u e => by
  have hn := x.fresh hp
  by_cases hb : b = a
  · subst hb; rw [zau] at e; cases e; exact new
  · rw [zag hb] at e
    exact (x b u e).stay (fun c v _ q => k c v q) (fun c q => by rw [zag (zaz q hn)]; exact q) fun c xs q => by rw [zag (zaz q hn)]; exact q
end
noncomputable def Rd (H : Hp) (a : Addr) (u : HO) : Prop := H a = some u \/ ∃ o, H a = some (.frz o u)
theorem Rd.of {H : Hp} {a : Addr} {u : HO} (h : H a = some u) : Rd H a u := .inl h
theorem Rd.ok {P : Program} {w : World} {H : Hp} {h : Heap} {a : Addr} {u : HO} (r : Rd H a u) (x : HOk P w H h) : zay P w H h a u := by
  rcases r with r | ⟨o, r⟩
  · exact x a u r
  · obtain ⟨_, q⟩ := x a _ r
    exact q
noncomputable def Mut : Option HO -> Prop
  | some (.lst _) => True
  | some (.dK _) => True
  | some (.dT _) => True
  | some (.set _ _) => True
  | some (.ins _ _ _) => True
  | some (.ext _) => True
  | _ => False
section
variable {P : Program} {w : World} {H : Hp} {h h' : Heap} {x e : Addr} {o' : HO}
theorem HOk.write (ok : HOk P w H h) (mu : Mut (H x)) (he : e = x \/ H e = some (.own x)) (k : ∀ b u, b ≠ e -> h.get? b = some u -> h'.get? b = some u) (heo : ∃ u, h'.get? e = some u)
    (new : zay P w (upd H x o') h' x o') : HOk P w (upd H x o') h' := fun b u q => by
  have nown : ∀ c y, H c = some (.own y) -> c ≠ x := fun c y r z => by subst z; rw [r] at mu; exact mu
  have ntup : ∀ c xs, H c = some (.tup xs) -> c ≠ x := fun c xs r z => by subst z; rw [r] at mu; exact mu
  by_cases hb : b = x
  · subst hb; rw [zau] at q; cases q; exact new
  · rw [zag hb] at q
    by_cases hbe : b = e
    · have q' : H b = some (.own x) := by
        rcases he with z | z
        · exact absurd (hbe.trans z) hb
        · rw [hbe]; exact z
      rw [q] at q'; cases q'
      obtain ⟨v, hv⟩ := heo
      exact ⟨v, by rw [hbe]; exact hv⟩
    · refine (ok b u q).stay (fun c v hc r => k c v ?_ r) (fun c r => by rw [zag (nown c b r)]; exact r) fun c xs r => by rw [zag (ntup c xs r)]; exact r
      rcases hc with rfl | hc
      · exact hbe
      · rintro rfl
        rcases he with z | z
        · exact nown c b hc z
        · rw [hc] at z; cases z; exact hb rfl
end
structure Un (fs ex : List Addr) (H H' : Hp) (h h' : Heap) : Prop where
  keep : ∀ b o, h.get? b = some o -> H b = none -> b ∉ fs -> b ∉ ex -> h'.get? b = some o
  slot : ∀ b o, h.get? b = some o -> H b = none -> b ∈ fs -> b ∉ ex -> ∃ sl, h'.get? b = some { o with slots := sl }
  free : ∀ b o, h.get? b = some o -> H b = none -> b ∉ ex -> H' b = none
  there : ∀ b o, h.get? b = some o -> b ∉ ex -> ∃ o', h'.get? b = some o'
  tups : ∀ b xs, H b = some (.tup xs) -> H' b = some (.tup xs)
  frzs : ∀ b o u, H b = some (.frz o u) -> H' b = some (.frz o u)
  tbls : ∀ b ps, H b = some (.tbl ps) -> ∃ more, H' b = some (.tbl (ps ++ more))
section
variable {fs fs' ex ex' : List Addr} {H H1 H2 : Hp} {h h1 h2 h' : Heap} {a x e : Addr} {o : HO}
theorem Un.any (u : Un fs ex H H1 h h1) {b : Addr} {ob : Obj} (q : h.get? b = some ob) (n : H b = none) (hx : b ∉ ex) : ∃ sl, h1.get? b = some { ob with slots := sl } := by
  by_cases hb : b ∈ fs
  · exact u.slot b ob q n hb hx
  · exact ⟨ob.slots, u.keep b ob q n hb hx⟩
theorem Un.trans (a : Un fs ex H H1 h h1) (b : Un fs ex H1 H2 h1 h2) : Un fs ex H H2 h h2 where
  keep := fun c ob q n hc hx => b.keep c ob (a.keep c ob q n hc hx) (a.free c ob q n hx) hc hx
  slot := fun c ob q n hc hx => by
    obtain ⟨sl, e1⟩ := a.slot c ob q n hc hx
    obtain ⟨sl', e2⟩ := b.slot c _ e1 (a.free c ob q n hx) hc hx
    exact ⟨sl', e2⟩
  free := fun c ob q n hx => by
    obtain ⟨o', e1⟩ := a.there c ob q hx
    exact b.free c o' e1 (a.free c ob q n hx) hx
  there := fun c ob q hx => by
    obtain ⟨o', e1⟩ := a.there c ob q hx
    exact b.there c o' e1 hx
  tups := fun c xs q => b.tups c xs (a.tups c xs q)
  frzs := fun c ob xs q => b.frzs c ob xs (a.frzs c ob xs q)
  tbls := fun c ps q => by
    obtain ⟨m1, e1⟩ := a.tbls c ps q
    obtain ⟨m2, e2⟩ := b.tbls c _ e1
    exact ⟨m1 ++ m2, by rw [e2, Array.append_assoc]⟩
theorem Un.kept (k : ∀ b u, h.get? b = some u -> h'.get? b = some u) : Un fs ex H H h h' :=
  ⟨fun b ob q _ _ _ => k b ob q, fun b ob q _ _ _ => ⟨ob.slots, k b ob q⟩, fun _ _ _ n _ => n, fun b ob q _ => ⟨ob, k b ob q⟩, fun _ _ q => q, fun _ _ _ q => q, fun _ ps q => ⟨#[], by rw [q]; simp⟩⟩
theorem Un.refl : Un fs ex H H h h := Un.kept fun _ _ q => q
theorem Un.laid (k : ∀ b u, h.get? b = some u -> h'.get? b = some u) (hp : h.objs.size <= a) (hn : H a = none) : Un fs ex H (upd H a o) h h' where
  keep := fun b u q _ _ _ => k b u q
  slot := fun b u q _ _ _ => ⟨u.slots, k b u q⟩
  free := fun b u q n _ => by rw [zag (Nat.ne_of_lt (Nat.lt_of_lt_of_le (Heap.lt_size q) hp))]; exact n
  there := fun b u q _ => ⟨u, k b u q⟩
  tups := fun b xs q => by rw [zag (zaz q hn)]; exact q
  frzs := fun b u xs q => by rw [zag (zaz q hn)]; exact q
  tbls := fun b ps q => ⟨#[], by rw [zag (zaz q hn), q]; simp⟩
theorem Un.write (mu : Mut (H x)) (he : e = x \/ H e = some (.own x)) (k : ∀ b u, b ≠ e -> h.get? b = some u -> h'.get? b = some u) (heo : ∃ u, h'.get? e = some u) : Un fs ex H (upd H x o) h h' := by
  have hx : ∀ b, H b = none -> b ≠ x := fun b n z => by subst z; rw [n] at mu; exact mu
  have hb : ∀ b, H b = none -> b ≠ e := fun b n z => by
    subst z
    rcases he with r | r
    · exact hx b n r
    · rw [n] at r; cases r
  have hm : ∀ b u, H b = some u -> ¬ Mut (some u) -> b ≠ x := fun b u q nm z => by subst z; rw [q] at mu; exact nm mu
  refine ⟨fun b u q n _ _ => k b u (hb b n) q, fun b u q n _ _ => ⟨u.slots, k b u (hb b n) q⟩, fun b u q n _ => by rw [zag (hx b n)]; exact n, fun b u q _ => ?_,
    fun b xs q => by rw [zag (hm b _ q fun z => z)]; exact q, fun b u xs q => by rw [zag (hm b _ q fun z => z)]; exact q, fun b ps q => ⟨#[], by rw [zag (hm b _ q fun z => z), q]; simp⟩⟩
  by_cases hbe : b = e
  · subst hbe; exact heo
  · exact ⟨u, k b u hbe q⟩
theorem Un.mono (u : Un fs ex H H1 h h1) (hs : ∀ b ∈ fs, b ∈ fs') (hx : ∀ b ∈ ex, b ∈ ex') : Un fs' ex' H H1 h h1 :=
  ⟨fun b ob q n hb he => u.keep b ob q n (fun z => hb (hs b z)) fun z => he (hx b z), fun _ _ q n _ he => u.any q n fun z => he (hx _ z), fun b ob q n he => u.free b ob q n fun z => he (hx b z), fun b ob q he => u.there b ob q fun z => he (hx b z), u.tups, u.frzs, u.tbls⟩
end
noncomputable def trk (h : Heap) (H : Hp) : List Addr := (List.range h.objs.size).filter fun a => (H a).isSome
noncomputable def zcc (h : Heap) (H : Hp) : Heap := PySem.W.hideAll h (trk h H)
theorem zo4 (h : Heap) (H : Hp) : (zcc h H).objs.size = h.objs.size := PySem.W.hideAll_size _ _
theorem zs0 {h : Heap} {H : Hp} {b : Addr} {o : Obj} (e : h.get? b = some o) (n : H b = none) : (zcc h H).get? b = some o :=
  PySem.W.hideAll_get _ e fun hm => by
    have q : (H b).isSome = true := (List.mem_filter.mp hm).2
    rw [n] at q; simp at q
theorem zr8 {h : Heap} {H : Hp} {b : Addr} {o : Obj} (e : (zcc h H).get? b = some o) : h.get? b = some o /\ H b = none := by
  have e' : h.get? b = some o := PySem.W.of_hideAll (trk h H) e
  refine ⟨e', ?_⟩
  cases q : H b with
  | none => rfl
  | some x =>
    have hm : b ∈ trk h H := List.mem_filter.mpr ⟨List.mem_range.mpr (Heap.lt_size e'), by simp [q]⟩
    have z : (zcc h H).get? b = none := PySem.W.hideAll_none (trk h H) hm
    rw [z] at e; cases e
noncomputable def znm (g h : Heap) (L : Addr) : List (Addr × Obj) := (List.range h.objs.size).filterMap fun a => if a = L \/ (g.get? a).isSome = true then none else (h.get? a).map fun o => (a, o)
noncomputable def zal (g h : Heap) (L d : Addr) : List (Addr × Obj) := (znm g h L).filter fun p => decide (p.1 ≠ d)
end L2
namespace L2
open PySem PySem.Spec PyProof.Rows
structure Mod (K : PySem.W.Frag) (mg : Str -> Option Value) (base : Heap) : Prop where
  kin : K.In base
  glob : base.Ns mainGlobals mg
  blt : ∃ mb, base.Ns builtinsNs mb /\ ∀ x : Str, x ≠ "__name__" -> mb x = bootBuiltins x
  nolimit : base.NoLimit
set_option genInjectivity false in
structure Cx where
  prog : Program
  w : World
  K : PySem.W.Frag
  mg : Str -> Option Value
  base : Heap
  A : Around
  N : List Str
  s₀ : Shared
  H₀ : Hp
  env : Env
  outer : List Env
  stack : List Env
  ex : List Addr
  fn : Str -> Bool
  calm : Bool
  pn : List (Addr × Obj)
  xe : Value -> Shared -> Prop
noncomputable def frs (l : List Env) : List Addr := l.filterMap (·.frame)
noncomputable abbrev Cx.fs (X : Cx) : List Addr := frs X.outer
noncomputable def Vis (sc : Scope) (x : Str) : Prop := sc.names.lookup x = some .local \/ sc.names.lookup x = some .cell \/ sc.names.lookup x = some .free
noncomputable def Loc (sc : Scope) (x : Str) : Prop := sc.names.lookup x = some .local \/ sc.names.lookup x = some .cell
noncomputable def zrb (env : Env) (h : Heap) (m : Str -> Option Value) (x : Str) (u : Value) : Prop :=
  (env.kindOf x = some .local /\ m x = some u) \/ ((env.kindOf x = some .cell \/ env.kindOf x = some .free) /\ ∃ c, env.cells.lookup x = some c /\ h.IsCell c (some u))
structure Cx.Ok (X : Cx) : Prop where
  mod : Mod X.K X.mg X.base
  kind : X.env.scope.kind = .function
  glob : X.env.globals = mainGlobals
  blt : X.env.builtins = builtinsNs
  above : X.s₀.heap.objs.size <= X.env.locals
  inj : ∀ x y c, X.env.cells.lookup x = some c -> X.env.cells.lookup y = some c -> x = y
  has : ∀ x, (X.env.kindOf x = some .cell \/ X.env.kindOf x = some .free) -> ∃ c, X.env.cells.lookup x = some c
  cab : ∀ x c, X.fn x = true -> X.env.cells.lookup x = some c -> X.s₀.heap.objs.size <= c
  hd : X.calm = true -> X.A.handled = none
  frames : X.A.frames = some X.stack
  stk : X.stack = X.outer \/ (X.stack = X.env :: X.outer /\ X.env.frame = some X.env.locals)
  exf : ∀ b ∈ X.ex, b ≠ X.env.locals /\ ∀ x c, X.env.cells.lookup x = some c -> c ≠ b
  bs : ∀ b o, X.base.get? b = some o -> X.s₀.heap.get? b = some o /\ X.H₀ b = none
  bsz : X.base.objs.size <= X.s₀.heap.objs.size
  noex : ∀ b o, X.base.get? b = some o -> b ∉ X.ex
  exfs : ∀ b ∈ X.ex, b ∉ X.fs
  funs : X.s₀.heap.FunFrames X.base X.outer
  frf : ∀ b ∈ X.fs, X.H₀ b = none
structure Inv (X : Cx) (pins : List (Addr × Obj)) (σ : List (Option V)) (H : Hp) (s : Shared) : Prop where
  ok : X.Ok
  os : s.os = X.s₀.os
  bare : AllBare s.gens
  base : Un X.fs X.ex X.H₀ H X.s₀.heap s.heap
  loc : ∃ m, s.heap.Ns X.env.locals m /\ ∀ (i : Nat) (x : Str) (v : V), X.N[i]? = some x -> σ[i]? = some (some v) -> Vis X.env.scope x -> ∃ u, zae v u /\ zrb X.env s.heap m x u
  cell : ∀ x c, X.env.cells.lookup x = some c -> ∃ v, s.heap.IsCell c v
  free : H X.env.locals = none
  freeC : ∀ x c, X.env.cells.lookup x = some c -> H c = none
  pin : ∀ p ∈ X.pn ++ pins, s.heap.get? p.1 = some p.2 /\ H p.1 = none /\ p.1 ≠ X.env.locals /\ p.1 ∉ X.fs /\ ∀ v, p.2.data ≠ .cell v
  hok : HOk X.prog X.w H s.heap
  len : σ.length = X.N.length
section
variable {X : Cx} {pins : List (Addr × Obj)} {σ : List (Option V)} {H H' : Hp} {s : Shared} {h' : Heap}
theorem Cx.Ok.nofr (ok : X.Ok) {b : Addr} {o : Obj} (e : X.base.get? b = some o) : b ∉ X.fs := fun hb => by
  have := (ok.funs.mem hb).1
  rw [e] at this; cases this
theorem Inv.bs (I : Inv X pins σ H s) : ∀ b o, X.base.get? b = some o -> s.heap.get? b = some o /\ H b = none := fun b o e =>
  ⟨I.base.keep b o (I.ok.bs b o e).1 (I.ok.bs b o e).2 (I.ok.nofr e) (I.ok.noex b o e), I.base.free b o (I.ok.bs b o e).1 (I.ok.bs b o e).2 (I.ok.noex b o e)⟩
theorem Inv.bk (I : Inv X pins σ H s) : ∀ b o, X.base.get? b = some o -> s.heap.get? b = some o := fun b o e => (I.bs b o e).1
theorem Inv.mod (I : Inv X pins σ H s) : Mod X.K X.mg X.base := I.ok.mod
theorem Inv.kIn (I : Inv X pins σ H s) : X.K.In s.heap := I.ok.mod.kin.keeps I.bk
theorem Inv.nolimit (I : Inv X pins σ H s) : s.heap.NoLimit := I.ok.mod.nolimit.keeps I.bk
theorem Inv.fr (I : Inv X pins σ H s) : ∃ m, Fr X.base X.env.locals s.heap m :=
  let ⟨m, hn, _⟩ := I.loc
  ⟨m, hn, I.bk, Nat.le_trans I.ok.bsz I.ok.above⟩
theorem Inv.lt (I : Inv X pins σ H s) : X.env.locals < s.heap.objs.size := let ⟨_, hn, _⟩ := I.loc; hn.lt
theorem Inv.sz (I : Inv X pins σ H s) : X.s₀.heap.objs.size <= s.heap.objs.size := Nat.le_trans I.ok.above (Nat.le_of_lt I.lt)
theorem Inv.nofs (I : Inv X pins σ H s) {a : Addr} (h : s.heap.objs.size <= a) : a ∉ X.fs := fun hb => by
  obtain ⟨_, o, ho, _⟩ := I.ok.funs.mem hb
  exact absurd (Nat.lt_of_lt_of_le (Heap.lt_size ho) (Nat.le_trans I.sz h)) (Nat.lt_irrefl _)
theorem Inv.cne (I : Inv X pins σ H s) : ∀ x c, X.env.cells.lookup x = some c -> c ≠ X.env.locals := fun x c e z => by
  obtain ⟨v, o, ho, hd⟩ := I.cell x c e
  obtain ⟨m, ⟨o', es, ep, ho', hd', _⟩, _⟩ := I.loc
  rw [z, ho'] at ho; cases ho; rw [hd'] at hd; cases hd
theorem Inv.funs (I : Inv X pins σ H s) : s.heap.FunFrames X.base X.outer := by
  have all : ∀ (l : List Env), (∀ b ∈ frs l, b ∈ X.fs) -> X.s₀.heap.FunFrames X.base l -> s.heap.FunFrames X.base l := by
    intro l
    induction l with
    | nil => intro _ _; trivial
    | cons env r ih =>
      intro hs hl
      obtain ⟨hk, ⟨L, o, hf, hn, ho, hd⟩, hr⟩ := hl
      have hL : L ∈ X.fs := hs L (by unfold frs; rw [List.filterMap_cons, hf]; exact List.mem_cons_self)
      obtain ⟨sl, e⟩ := I.base.slot L o ho (I.ok.frf L hL) hL fun z => I.ok.exfs L z hL
      exact ⟨hk, ⟨L, _, hf, hn, e, hd⟩, ih (fun b hb => hs b (by unfold frs; rw [List.filterMap_cons, hf]; exact List.mem_cons_of_mem _ hb)) hr⟩
  exact all X.outer (fun _ hb => hb) I.ok.funs
theorem Inv.stack (I : Inv X pins σ H s) : s.heap.FunFrames X.base X.stack := by
  rcases I.ok.stk with e | ⟨e, hf⟩
  · rw [e]; exact I.funs
  · rw [e]
    obtain ⟨m, hn, _⟩ := I.loc
    refine .cons (by rw [I.ok.kind]; decide) hf hn ?_ I.funs
    exact Heap.get?_none_of_le (Nat.le_trans I.ok.bsz I.ok.above)
theorem Inv.stkSub (I : Inv X pins σ H s) : ∀ b ∈ frs X.stack, b ∈ X.env.locals :: X.fs := fun b hb => by
  rcases I.ok.stk with e | ⟨e, hf⟩
  · rw [e] at hb; exact List.mem_cons_of_mem _ hb
  · rw [e] at hb
    unfold frs at hb
    rw [List.filterMap_cons, hf] at hb
    exact hb
theorem Inv.stkFree (I : Inv X pins σ H s) : ∀ b ∈ frs X.stack, H b = none := fun b hb => by
  rcases List.mem_cons.mp (I.stkSub b hb) with e | hb
  · rw [e]; exact I.free
  · obtain ⟨_, o, ho, _⟩ := I.ok.funs.mem hb
    exact I.base.free b o ho (I.ok.frf b hb) fun z => I.ok.exfs b z hb
theorem Inv.step {g' : Array GenState} {t' : Nat} {d' : Drawn} {ch : List Addr} (I : Inv X pins σ H s)
    (hch : ∀ b ∈ ch, (b ∈ X.ex \/ X.s₀.heap.objs.size <= b) /\ b ≠ X.env.locals /\ (∀ x c, X.env.cells.lookup x = some c -> c ≠ b) /\ ∀ p ∈ X.pn ++ pins, p.1 ≠ b)
    (keep : ∀ b o, b ≠ X.env.locals -> b ∉ X.fs -> b ∉ ch -> s.heap.get? b = some o -> H b = none -> h'.get? b = some o)
    (slot : ∀ b o, b ≠ X.env.locals -> b ∈ X.fs -> b ∉ ch -> s.heap.get? b = some o -> H b = none -> ∃ sl, h'.get? b = some { o with slots := sl }) (free : ∀ b o, b ∉ ch -> s.heap.get? b = some o -> H b = none -> H' b = none)
    (there : ∀ b o, b ∉ ch -> s.heap.get? b = some o -> ∃ o', h'.get? b = some o')
    (tups : ∀ b xs, H b = some (.tup xs) -> H' b = some (.tup xs)) (frzs : ∀ b o u, H b = some (.frz o u) -> H' b = some (.frz o u)) (tbls : ∀ b ps, H b = some (.tbl ps) -> ∃ more, H' b = some (.tbl (ps ++ more)))
    (ns : ∀ m, s.heap.Ns X.env.locals m -> h'.Ns X.env.locals m) (hok : HOk X.prog X.w H' h') (hg : AllBare g') :
    Inv X pins σ H' { s with heap := h', gens := g', drawn := d', toks := t' } := by
  have neL : ∀ b o, X.s₀.heap.get? b = some o -> b ≠ X.env.locals := fun b o e => Nat.ne_of_lt (Nat.lt_of_lt_of_le (Heap.lt_size e) I.ok.above)
  have neC : ∀ b o, X.s₀.heap.get? b = some o -> b ∉ X.ex -> b ∉ ch := fun b o e hx hb => by
    rcases (hch b hb).1 with z | z
    · exact hx z
    · exact absurd (Nat.lt_of_lt_of_le (Heap.lt_size e) z) (Nat.lt_irrefl _)
  have cellK : ∀ x c, X.env.cells.lookup x = some c -> ∀ v, s.heap.IsCell c v -> h'.IsCell c v := fun x c e v ⟨o, ho, hd⟩ => by
    have nch : c ∉ ch := fun z => (hch c z).2.2.1 x c e rfl
    by_cases hc : c ∈ X.fs
    · obtain ⟨sl, q⟩ := slot c o (I.cne x c e) hc nch ho (I.freeC x c e)
      exact ⟨_, q, hd⟩
    · exact ⟨o, keep c o (I.cne x c e) hc nch ho (I.freeC x c e), hd⟩
  refine ⟨I.ok, I.os, hg, ⟨fun b o e n hb hx => ?_, fun b o e n hb hx => ?_, fun b o e n hx => ?_, fun b o e hx => ?_, fun b xs e => tups b xs (I.base.tups b xs e), fun b o xs e => frzs b o xs (I.base.frzs b o xs e), fun b ps e => ?_⟩, ?_, fun x c e => ?_, ?_, fun x c e => ?_, fun p hp => ?_, hok, I.len⟩
  · exact keep b o (neL b o e) hb (neC b o e hx) (I.base.keep b o e n hb hx) (I.base.free b o e n hx)
  · obtain ⟨sl, e1⟩ := I.base.slot b o e n hb hx
    obtain ⟨sl', e2⟩ := slot b _ (neL b o e) hb (neC b o e hx) e1 (I.base.free b o e n hx)
    exact ⟨sl', e2⟩
  · obtain ⟨o', e1⟩ := I.base.there b o e hx
    exact free b o' (neC b o e hx) e1 (I.base.free b o e n hx)
  · obtain ⟨o', e1⟩ := I.base.there b o e hx
    exact there b o' (neC b o e hx) e1
  · obtain ⟨m1, e1⟩ := I.base.tbls b ps e
    obtain ⟨m2, e2⟩ := tbls b _ e1
    exact ⟨m1 ++ m2, by rw [e2, Array.append_assoc]⟩
  · obtain ⟨m, hn, hl⟩ := I.loc
    refine ⟨m, ns m hn, fun i x v e1 e2 e3 => ?_⟩
    obtain ⟨u, r, l⟩ := hl i x v e1 e2 e3
    refine ⟨u, r, ?_⟩
    rcases l with l | ⟨k, c, e, z⟩
    · exact .inl l
    · exact .inr ⟨k, c, e, cellK x c e _ z⟩
  · obtain ⟨v, z⟩ := I.cell x c e
    exact ⟨v, cellK x c e v z⟩
  · obtain ⟨m, ⟨o, _, _, ho, _⟩, _⟩ := I.loc
    exact free _ o (fun z => (hch _ z).2.1 rfl) ho I.free
  · obtain ⟨v, o, ho, hd⟩ := I.cell x c e
    exact free c o (fun z => (hch c z).2.2.1 x c e rfl) ho (I.freeC x c e)
  · obtain ⟨e, n, ne, nf, d⟩ := I.pin p hp
    have nch : p.1 ∉ ch := fun z => (hch p.1 z).2.2.2 p hp rfl
    exact ⟨keep p.1 p.2 ne nf nch e n, free p.1 p.2 nch e n, ne, nf, d⟩
theorem Inv.un {t' : Nat} (I : Inv X pins σ H s) (u : Un X.fs [] H H' s.heap h') (hok : HOk X.prog X.w H' h') : Inv X pins σ H' { s with heap := h', toks := t' } := by
  obtain ⟨m, ⟨o, es, ep, ho, r⟩, _⟩ := id I.loc
  obtain ⟨sl, hL⟩ := u.any ho I.free (by simp)
  exact I.step (g' := s.gens) (d' := s.drawn) (ch := []) (fun _ z => nomatch z) (fun b o _ hb _ e n => u.keep b o e n hb (by simp)) (fun b o _ hb _ e n => u.slot b o e n hb (by simp)) (fun b o _ e n => u.free b o e n (by simp)) (fun b o _ e => u.there b o e (by simp)) u.tups u.frzs u.tbls (fun m' hm => by
    obtain ⟨o', es', ep', ho', r'⟩ := hm
    rw [ho] at ho'; cases ho'
    exact ⟨_, es', ep', hL, r'⟩) hok I.bare
theorem Inv.call {g' : Array GenState} {t' : Nat} {d' : Drawn} {ch : List Addr} (I : Inv X pins σ H s) (u : Un (frs X.stack) ch H H' s.heap h') (hok : HOk X.prog X.w H' h') (hg : AllBare g')
    (hch : ∀ b ∈ ch, (b ∈ X.ex \/ X.s₀.heap.objs.size <= b) /\ b ≠ X.env.locals /\ (∀ x c, X.env.cells.lookup x = some c -> c ≠ b) /\ ∀ p ∈ X.pn ++ pins, p.1 ≠ b) :
    Inv X pins σ H' { s with heap := h', gens := g', drawn := d', toks := t' } := by
  obtain ⟨m, ⟨o, es, ep, ho, r⟩, _⟩ := id I.loc
  obtain ⟨sl, hL⟩ := u.any ho I.free fun z => (hch _ z).2.1 rfl
  exact I.step (ch := ch) hch (fun b o hL hb hc e n => u.keep b o e n (fun z => (List.mem_cons.mp (I.stkSub b z)).elim hL hb) hc) (fun b o _ _ hc e n => u.any e n hc) (fun b o hc e n => u.free b o e n hc) (fun b o hc e => u.there b o e hc) u.tups u.frzs u.tbls (fun m' hm => by
    obtain ⟨o', es', ep', ho', r'⟩ := hm
    rw [ho] at ho'; cases ho'
    exact ⟨_, es', ep', hL, r'⟩) hok hg
theorem Inv.turned {t' : Nat} {it : Addr} (I : Inv X pins σ H s) (k : ∀ b o, b ≠ it -> s.heap.get? b = some o -> h'.get? b = some o) (hn : H it = none) (hL : it ≠ X.env.locals)
    (h1 : it ∈ X.ex \/ X.s₀.heap.objs.size <= it) (h2 : ∀ x c, X.env.cells.lookup x = some c -> c ≠ it) (h3 : ∀ p ∈ X.pn ++ pins, p.1 ≠ it) : Inv X pins σ H { s with heap := h', toks := t' } := by
  have nit : ∀ b u, H b = some u -> b ≠ it := fun b u e z => by rw [z, hn] at e; cases e
  refine I.step (g' := s.gens) (d' := s.drawn) (ch := [it]) (fun b hb => ?_) (fun b o _ _ hc e _ => k b o (fun z => hc (by simp [z])) e) (fun b o _ _ hc e _ => ⟨o.slots, k b o (fun z => hc (by simp [z])) e⟩) (fun _ _ _ _ n => n)
    (fun b o hc e => ⟨o, k b o (fun z => hc (by simp [z])) e⟩) (fun _ _ e => e) (fun _ _ _ e => e) (fun b ps e => ⟨#[], by rw [e]; simp⟩) (fun m hm => ?_) (fun b u e => ?_) I.bare
  · have e : b = it := by simpa using hb
    subst e
    exact ⟨h1, hL, h2, h3⟩
  · obtain ⟨o, es, ep, ho, r⟩ := hm
    exact ⟨o, es, ep, k _ o (Ne.symm hL) ho, r⟩
  · refine (I.hok b u e).stay (fun c v hc q => k c v ?_ q) (fun _ q => q) fun _ _ q => q
    rcases hc with z | z
    · rw [z]; exact nit b u e
    · exact nit c _ z
theorem Inv.tok (I : Inv X pins σ H s) (t : Nat) : Inv X pins σ H { s with toks := t } := I.un (h' := s.heap) (t' := t) Un.refl I.hok
theorem Inv.kept {t' : Nat} (I : Inv X pins σ H s) (k : ∀ b u, s.heap.get? b = some u -> h'.get? b = some u) : Inv X pins σ H { s with heap := h', toks := t' } := I.un (Un.kept k) (I.hok.kept k)
theorem Inv.laid {a : Addr} {o : HO} {t' : Nat} (I : Inv X pins σ H s) (k : ∀ b u, s.heap.get? b = some u -> h'.get? b = some u) (hp : s.heap.objs.size <= a) (new : zay X.prog X.w (upd H a o) h' a o) :
    Inv X pins σ (upd H a o) { s with heap := h', toks := t' } := I.un (Un.laid k hp (I.hok.fresh hp)) (I.hok.laid k hp new)
theorem Inv.write {x e : Addr} {o : HO} {t' : Nat} (I : Inv X pins σ H s) (mu : Mut (H x)) (he : e = x \/ H e = some (.own x)) (k : ∀ b u, b ≠ e -> s.heap.get? b = some u -> h'.get? b = some u) (heo : ∃ u, h'.get? e = some u)
    (new : zay X.prog X.w (upd H x o) h' x o) : Inv X pins σ (upd H x o) { s with heap := h', toks := t' } := I.un (Un.write mu he k heo) (I.hok.write mu he k heo new)
theorem Inv.weak {σ' : List (Option V)} (I : Inv X pins σ H s) (hl : σ'.length = σ.length) (w : ∀ (i : Nat) v, σ'[i]? = some (some v) -> σ[i]? = some (some v)) : Inv X pins σ' H s :=
  ⟨I.ok, I.os, I.bare, I.base, let ⟨m, hn, hl'⟩ := I.loc; ⟨m, hn, fun i x v e1 e2 e3 => hl' i x v e1 (w i v e2) e3⟩, I.cell, I.free, I.freeC, I.pin, I.hok, hl.trans I.len⟩
theorem Inv.pins_of {pins' : List (Addr × Obj)} (I : Inv X pins σ H s) (h : ∀ p ∈ pins', s.heap.get? p.1 = some p.2 /\ H p.1 = none /\ p.1 ≠ X.env.locals /\ p.1 ∉ X.fs /\ ∀ v, p.2.data ≠ .cell v) : Inv X pins' σ H s :=
  ⟨I.ok, I.os, I.bare, I.base, I.loc, I.cell, I.free, I.freeC, fun p hp => (List.mem_append.mp hp).elim (fun z => I.pin p (List.mem_append_left _ z)) (h p), I.hok, I.len⟩
theorem zif {N : List Str} (hN : N.Nodup) {i j : Nat} {x : Str} (a : N[i]? = some x) (b : N[j]? = some x) : i = j := by
  obtain ⟨h1, e1⟩ := List.getElem?_eq_some_iff.mp a
  obtain ⟨h2, e2⟩ := List.getElem?_eq_some_iff.mp b
  exact (List.getElem_inj hN).mp (e1.trans e2.symm)
theorem zq8 {M : Model} {A : Around} {E : Value -> Shared -> Prop} {i : Nat} {x : Str} {v : V} {u : Value} {Q : Unit -> Shared -> Prop} (I : Inv X pins σ H s) (hN : X.N.Nodup) (hi : X.N[i]? = some x) (hx : Loc X.env.scope x) (r : zae v u)
    (h : ∀ s', Inv X pins (σ.set i (some v)) H s' -> (∃ a, Heap.SameBut a s.heap s'.heap /\ (a = X.env.locals \/ X.env.cells.lookup x = some a)) -> Q () s') (hf : X.fn x = true \/ X.env.scope.names.lookup x = some .local := by first | exact .inl rfl | exact .inr rfl | assumption) : wpAny M A (storeName X.env x u) Q E s := by
  obtain ⟨m, hn, hl⟩ := id I.loc
  have hcls : (X.env.scope.kind == .class || (X.env.scope.kind == .module && X.env.locals != X.env.globals)) = false := by rw [I.ok.kind]; rfl
  have hiσ : i < σ.length := by rw [I.len]; exact (List.getElem?_eq_some_iff.mp hi).1
  have cne := I.cne
  have tracked : ∀ {a : Addr} {h' : Heap}, (∃ o, s.heap.get? a = some o /\ H a = none) -> Heap.SameBut a s.heap h' -> HOk X.prog X.w H h' := fun {a h'} ha hs b ob e => by
    obtain ⟨_, _, hfree⟩ := ha
    refine (I.hok b ob e).stay (fun c w' hc q => (hs.2 c ?_).trans q) (fun _ q => q) fun _ _ q => q
    rintro rfl
    rcases hc with rfl | hc
    · rw [hfree] at e; cases e
    · rw [hfree] at hc; cases hc
  rcases hx with hk | hk
  · refine wpAny_storeName_local hk hn (fun h' hn' hs => ?_) hcls
    obtain ⟨oL, _, _, hoL, _⟩ := id hn
    refine h _ ⟨I.ok, I.os, I.bare, ⟨fun b o e n hb hx => ?_, fun b o e n hb hx => ?_, I.base.free, fun b o e hx => ?_, I.base.tups, I.base.frzs, I.base.tbls⟩, ⟨_, hn', fun j y v' e1 e2 e3 => ?_⟩, fun y c e => ?_, I.free, I.freeC, fun p hp => ?_, tracked ⟨oL, hoL, I.free⟩ hs, by simpa using I.len⟩ ⟨_, hs, .inl rfl⟩
    · exact (hs.2 b (Nat.ne_of_lt (Nat.lt_of_lt_of_le (Heap.lt_size e) I.ok.above))).trans (I.base.keep b o e n hb hx)
    · obtain ⟨sl, e1⟩ := I.base.slot b o e n hb hx
      exact ⟨sl, (hs.2 b (Nat.ne_of_lt (Nat.lt_of_lt_of_le (Heap.lt_size e) I.ok.above))).trans e1⟩
    · obtain ⟨o', e1⟩ := I.base.there b o e hx
      exact ⟨o', (hs.2 b (Nat.ne_of_lt (Nat.lt_of_lt_of_le (Heap.lt_size e) I.ok.above))).trans e1⟩
    · by_cases hj : j = i
      · subst hj
        rw [hi] at e1; cases e1
        rw [List.getElem?_set_self hiσ] at e2
        cases e2
        exact ⟨u, r, .inl ⟨hk, by simp⟩⟩
      · rw [List.getElem?_set_ne (Ne.symm hj)] at e2
        obtain ⟨u', r', q⟩ := hl j y v' e1 e2 e3
        refine ⟨u', r', ?_⟩
        rcases q with ⟨k, e⟩ | ⟨k, c, e, z⟩
        · refine .inl ⟨k, ?_⟩
          have : y ≠ x := fun e => hj (zif hN e1 (e ▸ hi))
          simp [this, e]
        · exact .inr ⟨k, c, e, z.sameBut hs (cne y c e)⟩
    · obtain ⟨w', z⟩ := I.cell y c e
      exact ⟨w', z.sameBut hs (cne y c e)⟩
    · obtain ⟨e, n, ne, nf, d⟩ := I.pin p hp
      exact ⟨(hs.2 p.1 ne).trans e, n, ne, nf, d⟩
  · have hfn : X.fn x = true := by
      rcases hf with z | z
      · exact z
      · rw [z] at hk; cases hk
    obtain ⟨c, hc⟩ := I.ok.has x (.inl hk)
    obtain ⟨w', z⟩ := I.cell x c hc
    refine wpAny_storeName_cell I.ok.kind hk hc z (fun h' hc' hs => ?_)
    obtain ⟨oc, hoc, hocd⟩ := id z
    refine h { s with heap := h' } ⟨I.ok, I.os, I.bare, ⟨fun b o e n hb hx => ?_, fun b o e n hb hx => ?_, I.base.free, fun b o e hx => ?_, I.base.tups, I.base.frzs, I.base.tbls⟩, ⟨m, hn.sameBut hs (Ne.symm (cne x c hc)), fun j y v' e1 e2 e3 => ?_⟩, fun y c' e => ?_, I.free, I.freeC, fun p hp => ?_, tracked ⟨oc, hoc, I.freeC x c hc⟩ hs, by simpa using I.len⟩ ⟨c, hs, .inr hc⟩
    · exact (hs.2 b (Nat.ne_of_lt (Nat.lt_of_lt_of_le (Heap.lt_size e) (I.ok.cab x c hfn hc)))).trans (I.base.keep b o e n hb hx)
    · obtain ⟨sl, e1⟩ := I.base.slot b o e n hb hx
      exact ⟨sl, (hs.2 b (Nat.ne_of_lt (Nat.lt_of_lt_of_le (Heap.lt_size e) (I.ok.cab x c hfn hc)))).trans e1⟩
    · obtain ⟨o', e1⟩ := I.base.there b o e hx
      exact ⟨o', (hs.2 b (Nat.ne_of_lt (Nat.lt_of_lt_of_le (Heap.lt_size e) (I.ok.cab x c hfn hc)))).trans e1⟩
    · by_cases hj : j = i
      · subst hj
        rw [hi] at e1; cases e1
        rw [List.getElem?_set_self hiσ] at e2
        cases e2
        exact ⟨u, r, .inr ⟨.inl hk, c, hc, hc'⟩⟩
      · rw [List.getElem?_set_ne (Ne.symm hj)] at e2
        obtain ⟨u', r', q⟩ := hl j y v' e1 e2 e3
        refine ⟨u', r', ?_⟩
        rcases q with q | ⟨k, c', e, z'⟩
        · exact .inl q
        · refine .inr ⟨k, c', e, z'.sameBut hs ?_⟩
          rintro rfl
          exact hj (zif hN e1 (I.ok.inj _ _ _ e hc ▸ hi))
    · by_cases hcc : c' = c
      · subst hcc; exact ⟨_, hc'⟩
      · obtain ⟨w2, z2⟩ := I.cell y c' e
        exact ⟨w2, z2.sameBut hs hcc⟩
    · obtain ⟨e, n, ne, nf, d⟩ := I.pin p hp
      refine ⟨(hs.2 p.1 ?_).trans e, n, ne, nf, d⟩
      intro q
      rw [q, hoc] at e
      have q' : oc = p.2 := Option.some.inj e
      exact d w' (by rw [<- q']; exact hocd)
theorem zgt {M : Model} {A : Around} {E : Value -> Shared -> Prop} {i : Nat} {x : Str} {v : V} {u : Value} {Q : Unit -> Shared -> Prop} (I : Inv X pins σ H s) (hN : X.N.Nodup) (hi : X.N[i]? = some x) (hx : Loc X.env.scope x) (r : zae v u)
    (h : ∀ s', Inv X pins (σ.set i (some v)) H s' -> Q () s') (hf : X.fn x = true \/ X.env.scope.names.lookup x = some .local := by first | exact .inl rfl | exact .inr rfl | assumption) : wpAny M A (storeName X.env x u) Q E s :=
  zq8 I hN hi hx r (fun s' I' _ => h s' I') hf
theorem Inv.call' {s' : Shared} {ch : List Addr} (I : Inv X pins σ H s) (ho : s'.os = s.os) (u : Un (frs X.stack) ch H H' s.heap s'.heap) (hok : HOk X.prog X.w H' s'.heap) (hg : AllBare s'.gens)
    (hch : ∀ b ∈ ch, (b ∈ X.ex \/ X.s₀.heap.objs.size <= b) /\ b ≠ X.env.locals /\ (∀ x c, X.env.cells.lookup x = some c -> c ≠ b) /\ ∀ p ∈ X.pn ++ pins, p.1 ≠ b) : Inv X pins σ H' s' := by
  obtain ⟨h', g', d', t', o'⟩ := s'
  have e : o' = s.os := ho
  subst e
  exact I.call (g' := g') (t' := t') (d' := d') u hok hg hch
end
noncomputable abbrev XK := Value -> Option Addr -> Hp -> Prop
noncomputable abbrev St := List (Option V)
noncomputable abbrev VK := V -> Hp -> Prop
noncomputable abbrev TE := St -> Hp -> VK -> Prop
noncomputable abbrev TT := St -> Hp -> (Bool -> Hp -> Prop) -> Prop
noncomputable abbrev TA := St -> Hp -> (List V -> Hp -> Prop) -> Prop
structure zcg where
  nx : St -> Hp -> Prop
  rt : VK
  bk : St -> Hp -> Prop := fun _ _ => False
  ct : St -> Hp -> Prop := fun _ _ => False
noncomputable abbrev TS := zcg -> St -> Hp -> Prop
noncomputable def EP (X : Cx) (pins : List (Addr × Obj)) (σ : St) (Q : VK) (u : Value) (s' : Shared) : Prop := ∃ v H', Inv X pins σ H' s' /\ zae v u /\ Q v H'
noncomputable def TP (X : Cx) (pins : List (Addr × Obj)) (σ : St) (Q : Bool -> Hp -> Prop) (b : Bool) (s' : Shared) : Prop := ∃ H', Inv X pins σ H' s' /\ Q b H'
noncomputable def AP (X : Cx) (pins : List (Addr × Obj)) (σ : St) (Q : List V -> Hp -> Prop) (us : List Value) (s' : Shared) : Prop := ∃ vs H', Inv X pins σ H' s' /\ zad vs us /\ Q vs H'
noncomputable def SP (X : Cx) (pins : List (Addr × Obj)) (D : zcg) (f : Flow) (s' : Shared) : Prop :=
  match f with
  | .next => ∃ σ' H', Inv X pins σ' H' s' /\ D.nx σ' H'
  | .brk => ∃ σ' H', Inv X pins σ' H' s' /\ D.bk σ' H'
  | .cont => ∃ σ' H', Inv X pins σ' H' s' /\ D.ct σ' H'
  | .ret u => ∃ v σ' H', Inv X pins σ' H' s' /\ zae v u /\ D.rt v H'
noncomputable def PE (X : Cx) (e : Expr) (t : TE) : Prop :=
  ∀ (pins : List (Addr × Obj)) (s : Shared) (σ : St) (H : Hp) (Q : VK), Inv X pins σ H s -> t σ H Q -> wpAny (model X.prog X.w) X.A (eval e X.env) (EP X pins σ Q) X.xe s
noncomputable def PT (X : Cx) (e : Expr) (t : TT) : Prop :=
  ∀ (pins : List (Addr × Obj)) (s : Shared) (σ : St) (H : Hp) (Q : Bool -> Hp -> Prop), Inv X pins σ H s -> t σ H Q -> wpAny (model X.prog X.w) X.A (isTrue e X.env (eval e X.env)) (TP X pins σ Q) X.xe s
noncomputable def PW (X : Cx) (e : Expr) (t : TT) : Prop :=
  ∀ (whole : Sem Value) (pins : List (Addr × Obj)) (s : Shared) (σ : St) (H : Hp) (Q : Bool -> Hp -> Prop), Inv X pins σ H s -> t σ H Q -> wpAny (model X.prog X.w) X.A (isTrue e X.env whole) (TP X pins σ Q) X.xe s
theorem PW.pt {X : Cx} {e : Expr} {t : TT} (h : PW X e t) : PT X e t := h _
noncomputable def PA (X : Cx) (es : List Expr) (t : TA) : Prop :=
  ∀ (pos : Pos) (pins : List (Addr × Obj)) (s : Shared) (σ : St) (H : Hp) (Q : List V -> Hp -> Prop), Inv X pins σ H s -> t σ H Q -> wpAny (model X.prog X.w) X.A (spliced (backTo pos (starEach es X.env))) (AP X pins σ Q) X.xe s
noncomputable def PS (X : Cx) (st : Stmt) (t : TS) : Prop :=
  ∀ (pins : List (Addr × Obj)) (s : Shared) (σ : St) (H : Hp) (D : zcg), Inv X pins σ H s -> t D σ H -> wpAny (model X.prog X.w) X.A (exec st X.env) (SP X pins D) X.xe s
noncomputable def PSs (X : Cx) (st : List Stmt) (t : TS) : Prop :=
  ∀ (pins : List (Addr × Obj)) (s : Shared) (σ : St) (H : Hp) (D : zcg), Inv X pins σ H s -> t D σ H -> wpAny (model X.prog X.w) X.A (execs st X.env) (SP X pins D) X.xe s
theorem thn {α : Type} {t : Sem α} {Q Q' : α -> Shared -> Prop} {M : Model} {A : Around} {E : Value -> Shared -> Prop} {s : Shared} (h : wpAny M A t Q E s) (hQ : ∀ a s, Q a s -> Q' a s) : wpAny M A t Q' E s := wpAny_mono h hQ fun _ _ x => x
end L2
namespace L2
open PySem PySem.Spec PyProof.Rows
section
variable {X : Cx}
noncomputable def zbz (i : Nat) : TE := fun σ H Q => ∃ v, σ[i]? = some (some v) /\ Q v H
noncomputable def tC (v : V) : TE := fun _ H Q => Q v H
theorem zc1 {i : Nat} {x : Str} {pos : Pos} (hN : X.N[i]? = some x) (hv : Vis X.env.scope x) (hd : (x == ("__debug__" : Str)) = false := by decide) (hcd : (x == ("__classdict__" : Str)) = false := by decide) : PE X (.Name x pos) (zbz i) := by
  intro pins s σ H Q I h
  obtain ⟨v, e, h⟩ := h
  obtain ⟨m, hn, hl⟩ := I.loc
  obtain ⟨u, r, l⟩ := hl i x v hN e hv
  have fin : EP X pins σ Q u s := ⟨v, H, I, r, h⟩
  rcases l with ⟨hk, hm⟩ | ⟨hk, c, hc, hcell⟩
  · exact wpAny_Name (wpAny_loadName_local I.ok.kind hk hn hm fin) hd
  · rcases hk with hk | hk
    · exact wpAny_Name (wpAny_loadName_cell I.ok.kind hk hc hcell fin) hd
    · exact wpAny_Name (wpAny_loadName_free I.ok.kind hk hc hcell fin hcd) hd
theorem znp {i j pos} : PE X (.Constant (.int i) j pos) (tC (.int i)) := fun _ _ _ H _ I h => wpAny_Constant_int ⟨.int i, H, I.tok _, ⟨_, rfl⟩, h⟩
theorem zsx {b j pos} : PE X (.Constant (.bool b) j pos) (tC (.bl b)) := fun _ _ _ H _ I h => Constant_bool ⟨.bl b, H, I, rfl, h⟩
theorem zsf {x j pos} : PE X (.Constant (.str x) j pos) (tC (.str x)) := fun _ _ _ H _ I h => Calls.Constant_str ⟨.str x, H, I.tok _, ⟨_, rfl⟩, h⟩
noncomputable def Gl (X : Cx) (x : Str) : Prop := X.env.kindOf x = some .globalImplicit
theorem zky {E : Value -> Shared -> Prop} {pins : List (Addr × Obj)} {s : Shared} {σ : St} {H : Hp} {x : Str} {u : Value} {pos : Pos} {Q : Value -> Shared -> Prop} (I : Inv X pins σ H s) (hg : Gl X x) (hm : X.mg x = some u) (h : Q u s)
    (hd : (x == ("__debug__" : Str)) = false := by decide) : wpAny (model X.prog X.w) X.A (eval (.Name x pos) X.env) Q E s :=
  Calls.Name_function_global I.ok.kind hg (Calls.loadGlobal_global (by rw [I.ok.glob]; exact I.mod.glob.keeps I.bk) hm h) hd
theorem zfm {E : Value -> Shared -> Prop} {pins : List (Addr × Obj)} {s : Shared} {σ : St} {H : Hp} {x : Str} {u : Value} {pos : Pos} {Q : Value -> Shared -> Prop} (I : Inv X pins σ H s) (hg : Gl X x) (hm : X.mg x = none) (hv : bootBuiltins x = some u) (h : Q u s)
    (hn : x ≠ "__name__" := by decide) (hd : (x == ("__debug__" : Str)) = false := by decide) : wpAny (model X.prog X.w) X.A (eval (.Name x pos) X.env) Q E s := by
  obtain ⟨mb, h1, h2⟩ := I.mod.blt
  exact Calls.Name_function_global I.ok.kind hg (Calls.loadGlobal_builtin (by rw [I.ok.glob]; exact I.mod.glob.keeps I.bk) hm (by rw [I.ok.blt]; exact h1.keeps I.bk) ((h2 x hn).trans hv) h) hd
theorem zr1 {x : Str} {v : V} {u : Value} {pos : Pos} (hg : Gl X x) (hm : X.mg x = none) (hv : bootBuiltins x = some u) (r : zae v u) (hn : x ≠ "__name__" := by decide) (hd : (x == ("__debug__" : Str)) = false := by decide) : PE X (.Name x pos) (tC v) :=
  fun _ _ _ H _ I h => zfm I hg hm hv ⟨v, H, I, r, h⟩ hn hd
variable {a b : Expr} {ta tb : TE} {pos : Pos}
variable {tA tB' : TT} {zal : List Expr}
noncomputable def zm5 (t u : TT) : TT := fun σ H Q => t σ H fun c H1 => if c = true then u σ H1 Q else Q false H1
noncomputable def tOr (t u : TT) : TT := fun σ H Q => t σ H fun c H1 => if c = true then Q true H1 else u σ H1 Q
noncomputable def zo2 (t : TT) : TT := fun σ H Q => t σ H fun c H1 => Q (!c) H1
theorem zrm (ha : PT X a tA) : PW X (.BoolOp .And [a] pos) tA := by
  intro wh pins s σ H Q I h
  refine isTrue_and (thn (ha pins s σ H Q I h) fun c s1 e => ?_)
  cases c with
  | true => exact isTrue_and_nil e
  | false => exact e
theorem zr2 (ha : PT X a tA) : PW X (.BoolOp .Or [a] pos) tA := by
  intro wh pins s σ H Q I h
  refine isTrue_or (thn (ha pins s σ H Q I h) fun c s1 e => ?_)
  cases c with
  | false => exact isTrue_or_nil e
  | true => exact e
theorem zp2 (ha : PT X a tA) (hb : PW X (.BoolOp .And (b :: zal) pos) tB') : PW X (.BoolOp .And (a :: b :: zal) pos) (zm5 tA tB') := by
  intro wh pins s σ H Q I h
  refine isTrue_and (thn (ha pins s σ H _ I h) fun c s1 ⟨H1, I1, q1⟩ => ?_)
  cases c with
  | true => exact hb wh pins s1 σ H1 Q I1 q1
  | false => exact ⟨H1, I1, q1⟩
theorem zrp (ha : PT X a tA) (hb : PW X (.BoolOp .Or (b :: zal) pos) tB') : PW X (.BoolOp .Or (a :: b :: zal) pos) (tOr tA tB') := by
  intro wh pins s σ H Q I h
  refine isTrue_or (thn (ha pins s σ H _ I h) fun c s1 ⟨H1, I1, q1⟩ => ?_)
  cases c with
  | true => exact ⟨H1, I1, q1⟩
  | false => exact hb wh pins s1 σ H1 Q I1 q1
theorem zqm (ha : PT X a tA) : PT X (.UnaryOp .Not a pos) (zo2 tA) := by
  intro pins s σ H Q I h
  exact isTrue_not (ha pins s σ H (fun c H1 => Q (!c) H1) I h)
noncomputable def zna (ta tb : TE) : TE := fun σ H Q => ta σ H fun x H1 => ∃ c, x = .bl c /\ if c = true then tb σ H1 Q else Q (.bl false) H1
theorem zoa {op} {t : TE} (h : PE X a t) : PE X (.BoolOp op [a] pos) t := fun pins s σ H Q I hw => BoolOp_one (h pins s σ H Q I hw)
theorem zq3 (ha : PE X a ta) (hb : PE X (.BoolOp .And (b :: zal) pos) tb) : PE X (.BoolOp .And (a :: b :: zal) pos) (zna ta tb) := by
  intro pins s σ H Q I h
  refine BoolOp_and (thn (ha pins s σ H _ I h) fun v s1 ⟨x, H1, I1, r1, q1⟩ => ?_)
  obtain ⟨c, rfl, q1⟩ := q1
  cases r1
  refine wpAny_truthy_bool ?_
  cases c with
  | true => exact hb pins s1 σ H1 Q I1 q1
  | false => exact ⟨.bl false, H1, I1, rfl, q1⟩
end
end L2
namespace L2
open PySem PySem.Spec PyProof.Rows
noncomputable def SqL (K : PySem.W.Frag) (H : Hp) (a : Addr) (xs : List V) : Prop :=
  Rd H a (.lst xs) \/
    ∃ (o : Obj) (its : Array Value) (n : Nat), K.lookup a = some o /\ o.cls = .type "list" /\ o.dict = none /\ o.data = .seq its n /\ its.size <= sizeLine /\ zad xs its.toList
noncomputable def SqT (K : PySem.W.Frag) (H : Hp) (a : Addr) (xs : List V) : Prop :=
  Rd H a (.tup xs) \/
    ∃ (o : Obj) (its : Array Value) (n : Nat), K.lookup a = some o /\ o.cls = .type "tuple" /\ o.data = .seq its n /\ its.size <= sizeLine /\ zad xs its.toList
noncomputable def zm3 : Value -> Option V
  | .none => some .non
  | .bool b => some (.bl b)
  | .int i _ => some (.int i)
  | .str x _ => some (.str x)
  | .bytes b _ => some (.byt b)
  | .float b _ => some (.flt b)
  | .ref a => some (.ref a)
  | .type n => some (.ty n)
  | _ => none
theorem zae.abs {x : V} {u : Value} (r : zae x u) : zm3 u = some x := by
  cases x with
  | non => cases r; rfl
  | bl _ => cases r; rfl
  | int _ => obtain ⟨t, rfl⟩ := r; rfl
  | str _ => obtain ⟨t, rfl⟩ := r; rfl
  | byt _ => obtain ⟨t, rfl⟩ := r; rfl
  | flt _ => obtain ⟨t, rfl⟩ := r; rfl
  | ref _ => cases r; rfl
  | ty _ => cases r; rfl
theorem zae.inj {x y : V} {u : Value} (r : zae x u) (q : zae y u) : x = y := Option.some.inj (r.abs.symm.trans q.abs)
theorem zad.inj : ∀ {xs ys : List V} {us : List Value}, zad xs us -> zad ys us -> xs = ys
  | _, _, _, .nil, .nil => rfl
  | _, _, _, .cons r t, .cons r' t' => by rw [r.inj r', zad.inj t t']
section
variable {X : Cx} {pins : List (Addr × Obj)} {σ : St} {H : Hp} {s : Shared} {a : Addr} {xs ys : List V}
theorem SqL.of {K : PySem.W.Frag} (h : H a = some (.lst xs)) : SqL K H a xs := .inl (.inl h)
theorem SqT.of {K : PySem.W.Frag} (h : H a = some (.tup xs)) : SqT K H a xs := .inl (.inl h)
theorem Inv.list (I : Inv X pins σ H s) (h : SqL X.K H a xs) : ∃ its : List Value, zad xs its /\ PlainL s.heap a its.toArray /\ xs.length <= sizeLine := by
  rcases h with h | ⟨o, its, n, hk, hc, hd, hs, hz, r⟩
  · obtain ⟨z, its, n, r, e⟩ := h.ok I.hok
    exact ⟨its, r, ⟨_, n, e, rfl, rfl, rfl⟩, z⟩
  · refine ⟨its.toList, r, ⟨o, n, I.kIn a o hk, hc, hd, by simpa using hs⟩, ?_⟩
    have e := r.length
    simp only [Array.length_toList] at e
    omega
theorem Inv.tuple (I : Inv X pins σ H s) (h : SqT X.K H a xs) : ∃ its : List Value, zad xs its /\ IsTup s.heap a its.toArray /\ xs.length <= sizeLine := by
  rcases h with h | ⟨o, its, n, hk, hc, hs, hz, r⟩
  · obtain ⟨z, its, r, p⟩ := h.ok I.hok
    exact ⟨its, r, p, z⟩
  · refine ⟨its.toList, r, ⟨o, I.kIn a o hk, hc, n, by simpa using hs⟩, ?_⟩
    have e := r.length
    simp only [Array.length_toList] at e
    omega
theorem Inv.list_inj (I : Inv X pins σ H s) (h : SqL X.K H a xs) (h' : SqL X.K H a ys) : xs = ys := by
  obtain ⟨its, r, ⟨o, n, e, _, _, d⟩, _⟩ := I.list h
  obtain ⟨its', r', ⟨o', n', e', _, _, d'⟩, _⟩ := I.list h'
  rw [e] at e'; cases e'
  rw [d] at d'
  injection d' with d1 _
  have : its = its' := by simpa using congrArg Array.toList d1
  subst this
  exact r.inj r'
theorem Inv.tuple_inj (I : Inv X pins σ H s) (h : SqT X.K H a xs) (h' : SqT X.K H a ys) : xs = ys := by
  obtain ⟨its, r, ⟨o, e, _, n, d⟩, _⟩ := I.tuple h
  obtain ⟨its', r', ⟨o', e', _, n', d'⟩, _⟩ := I.tuple h'
  rw [e] at e'; cases e'
  rw [d] at d'
  injection d' with d1 _
  have : its = its' := by simpa using congrArg Array.toList d1
  subst this
  exact r.inj r'
end
noncomputable abbrev Cx.wish (X : Cx) (E : Value -> Shared -> Prop) : Cx := { X with xe := E }
noncomputable abbrev Cx.nox (X : Cx) : Cx := X.wish fun _ _ => False
theorem Cx.Ok.wish {X : Cx} (ok : X.Ok) (E : Value -> Shared -> Prop) : (X.wish E).Ok :=
  ⟨ok.mod, ok.kind, ok.glob, ok.blt, ok.above, ok.inj, ok.has, ok.cab, ok.hd, ok.frames, ok.stk, ok.exf, ok.bs, ok.bsz, ok.noex, ok.exfs, ok.funs, ok.frf⟩
theorem Cx.Ok.unwish {X : Cx} {E : Value -> Shared -> Prop} (ok : (X.wish E).Ok) : X.Ok :=
  ⟨ok.mod, ok.kind, ok.glob, ok.blt, ok.above, ok.inj, ok.has, ok.cab, ok.hd, ok.frames, ok.stk, ok.exf, ok.bs, ok.bsz, ok.noex, ok.exfs, ok.funs, ok.frf⟩
section
variable {X : Cx} {pins : List (Addr × Obj)} {σ : St} {H : Hp} {s : Shared} {E : Value -> Shared -> Prop}
theorem Inv.wish (I : Inv X pins σ H s) (E : Value -> Shared -> Prop) : Inv (X.wish E) pins σ H s := ⟨I.ok.wish E, I.os, I.bare, I.base, I.loc, I.cell, I.free, I.freeC, I.pin, I.hok, I.len⟩
theorem Inv.unwish (I : Inv (X.wish E) pins σ H s) : Inv X pins σ H s := ⟨I.ok.unwish, I.os, I.bare, I.base, I.loc, I.cell, I.free, I.freeC, I.pin, I.hok, I.len⟩
theorem SP.unwish {D : zcg} {f : Flow} {s' : Shared} (h : SP (X.wish E) pins D f s') : SP X pins D f s' := by
  cases f with
  | next => obtain ⟨σ', H', I, q⟩ := h; exact ⟨σ', H', I.unwish, q⟩
  | brk => obtain ⟨σ', H', I, q⟩ := h; exact ⟨σ', H', I.unwish, q⟩
  | cont => obtain ⟨σ', H', I, q⟩ := h; exact ⟨σ', H', I.unwish, q⟩
  | ret u => obtain ⟨v, σ', H', I, r, q⟩ := h; exact ⟨v, σ', H', I.unwish, r, q⟩
theorem PE.nox {e : Expr} {t : TE} (h : PE X.nox e t) : PE X e t := fun pins s σ H Q I hw =>
  wpAny_mono (h pins s σ H Q (I.wish _) hw) (fun _ _ ⟨v, H', I', r, q⟩ => ⟨v, H', I'.unwish, r, q⟩) fun _ _ z => False.elim z
theorem PT.nox {e : Expr} {t : TT} (h : PT X.nox e t) : PT X e t := fun pins s σ H Q I hw =>
  wpAny_mono (h pins s σ H Q (I.wish _) hw) (fun _ _ ⟨H', I', q⟩ => ⟨H', I'.unwish, q⟩) fun _ _ z => False.elim z
theorem PSs.nox {st : List Stmt} {t : TS} (h : PSs X.nox st t) : PSs X st t := fun pins s σ H D I hw =>
  wpAny_mono (h pins s σ H D (I.wish _) hw) (fun _ _ q => q.unwish) fun _ _ z => False.elim z
end
section
variable {X : Cx} {st : Stmt} {zal : List Stmt} {t u : TS} {e : Expr} {te : TE} {pos : Pos}
noncomputable def zqb : TS := fun D σ H => D.nx σ H
noncomputable def zsd (t u : TS) : TS := fun D σ H => t { D with nx := u D } σ H
theorem znv : PSs X [] zqb := fun _ _ σ H _ I h => wpAny_execs_nil ⟨σ, H, I, h⟩
theorem zsb (h1 : PS X st t) (h2 : PSs X zal u) : PSs X (st :: zal) (zsd t u) := by
  intro pins s σ H D I h
  refine wpAny_execs_cons (thn (h1 pins s σ H { D with nx := u D } I h) fun f s1 q => ?_)
  cases f with
  | next =>
    obtain ⟨σ', H', I', q⟩ := q
    exact h2 pins s1 σ' H' D I' q
  | ret v => exact q
  | brk => exact q
  | cont => exact q
theorem zsn (h1 : PS X st t) : PSs X [st] t := by
  intro pins s σ H D I h
  refine wpAny_execs_cons (thn (h1 pins s σ H D I h) fun f s1 q => ?_)
  cases f with
  | next => exact wpAny_execs_nil q
  | ret v => exact q
  | brk => exact q
  | cont => exact q
theorem Inv.quiet {pins : List (Addr × Obj)} {σ : St} {H : Hp} {s : Shared} (I : Inv X pins σ H s) : interactive X.env = false := by simp [interactive, I.ok.kind]
noncomputable def zjt (te : TE) : TS := fun D σ H => te σ H fun _ H1 => D.nx σ H1
theorem zjg (he : PE X e te) (hs : swapsWith e none pos.line X.env = pure false := by rfl) : PS X (.Expr e pos) (zjt te) := by
  intro pins s σ H D I h
  exact wpAny_Expr_any (thn (he pins s σ H _ I h) fun v s1 ⟨x, H1, I1, r1, q1⟩ => ⟨σ, H1, I1, q1⟩) I.quiet hs
noncomputable def zni (te : TE) : TS := fun D σ H => te σ H D.rt
theorem zgj (he : PE X e te) : PS X (.Return (some e) pos) (zni te) := by
  intro pins s σ H D I h
  exact wpAny_Return_some (thn (he pins s σ H _ I h) fun v s1 ⟨x, H1, I1, r1, q1⟩ => ⟨x, σ, H1, I1, r1, q1⟩)
noncomputable def znf (c : TT) (t u : TS) : TS := fun D σ H => c σ H fun b H1 => if b = true then t D σ H1 else u D σ H1
theorem zti {c : Expr} {a b : List Stmt} {tc : TT} (hc : PT X c tc) (ha : PSs X a t) (hb : PSs X b u) : PS X (.If c a b pos) (znf tc t u) := by
  intro pins s σ H D I h
  refine wpAny_If (thn (hc pins s σ H _ I h) fun d s1 ⟨H1, I1, q1⟩ => ?_)
  cases d with
  | true => exact ha pins s1 σ H1 D I1 q1
  | false => exact hb pins s1 σ H1 D I1 q1
end
noncomputable abbrev TG := V -> St -> Hp -> (St -> Hp -> Prop) -> Prop
noncomputable abbrev TGs := List V -> St -> Hp -> (St -> Hp -> Prop) -> Prop
noncomputable def PG (X : Cx) (target : Expr) (t : TG) : Prop :=
  ∀ (pins : List (Addr × Obj)) (s : Shared) (σ : St) (H : Hp) (v : V) (u : Value) (Q : St -> Hp -> Prop), Inv X pins σ H s -> zae v u -> t v σ H Q ->
    wpAny (model X.prog X.w) X.A (assign target X.env u) (fun _ s' => ∃ σ' H', Inv X pins σ' H' s' /\ Q σ' H') X.xe s
noncomputable def PGs (X : Cx) (ts : List Expr) (t : TGs) : Prop :=
  ∀ (pins : List (Addr × Obj)) (s : Shared) (σ : St) (H : Hp) (vs : List V) (us : List Value) (Q : St -> Hp -> Prop), Inv X pins σ H s -> zad vs us -> t vs σ H Q ->
    wpAny (model X.prog X.w) X.A (assignInOrder ((assignEach ts X.env).map (·.2)) us) (fun _ s' => ∃ σ' H', Inv X pins σ' H' s' /\ Q σ' H') X.xe s
noncomputable abbrev ziq := V -> V -> V -> Hp -> (Hp -> Prop) -> Prop
noncomputable def zi1 (X : Cx) (t : ziq) : Prop :=
  ∀ (pins : List (Addr × Obj)) (s : Shared) (σ : St) (H : Hp) (o i v : V) (ov iv u : Value) (Q : Hp -> Prop), Inv X pins σ H s -> zae o ov -> zae i iv -> zae v u -> t o i v H Q ->
    wpAny (model X.prog X.w) X.A (setItem ov iv u) (fun _ s' => ∃ H', Inv X pins σ H' s' /\ Q H') X.xe s
noncomputable abbrev TIp := V -> V -> Hp -> VK -> Prop
noncomputable def PIp (X : Cx) (op : Operator) (t : TIp) : Prop :=
  ∀ (pins : List (Addr × Obj)) (s : Shared) (σ : St) (H : Hp) (x y : V) (v u : Value) (Q : VK), Inv X pins σ H s -> zae x v -> zae y u -> t x y H Q ->
    wpAny (model X.prog X.w) X.A (inplaceOp op v u) (EP X pins σ Q) X.xe s
section
variable {X : Cx} {pos : Pos}
noncomputable def zdi (i : Nat) : TG := fun v σ H Q => Q (σ.set i (some v)) H
theorem zju {i : Nat} {x : Str} (hN : X.N.Nodup) (hi : X.N[i]? = some x) (hx : Loc X.env.scope x) (hf : X.fn x = true \/ X.env.scope.names.lookup x = some .local := by first | exact .inl rfl | exact .inr rfl | assumption) : PG X (.Name x pos) (zdi i) := by
  intro pins s σ H v u Q I r h
  exact wpAny_assign_Name (zgt I hN hi hx r (fun s' I' => ⟨_, H, I', h⟩) hf)
noncomputable def zmt : TGs := fun vs σ H Q => vs = [] /\ Q σ H
noncomputable def zqp (t : TG) (u : TGs) : TGs := fun vs σ H Q => ∃ v r, vs = v :: r /\ t v σ H fun σ' H' => u r σ' H' Q
theorem zow : PGs X [] zmt := by
  intro pins s σ H vs us Q I r h
  obtain ⟨e, h⟩ := h
  subst e
  cases r
  exact assignInOrder_nil ⟨σ, H, I, h⟩
theorem zqw {e : Expr} {es : List Expr} {t : TG} {u : TGs} (h1 : PG X e t) (h2 : PGs X es u)
    (hs : (assignEach (e :: es) X.env).map (·.2) = assign e X.env :: (assignEach es X.env).map (·.2) := by rfl) : PGs X (e :: es) (zqp t u) := by
  intro pins s σ H vs us Q I r h
  obtain ⟨v, vr, e1, h⟩ := h
  subst e1
  cases r with
  | cons r rr =>
    rw [hs]
    refine assignInOrder_cons (thn (h1 pins s σ H _ _ _ I r h) fun _ s1 ⟨σ1, H1, I1, q1⟩ => ?_)
    exact h2 pins s1 σ1 H1 _ _ Q I1 rr q1
noncomputable def zra (K : PySem.W.Frag) (n : Nat) (t : TGs) : TG := fun v σ H Q => ∃ a xs, v = .ref a /\ SqT K H a xs /\ xs.length = n /\ t xs σ H Q
theorem zsm {es : List Expr} {k : Nat} {t : TGs} {n : Nat} (hc : X.calm = true) (h : PGs X es t)
    (hn : (assignEach es X.env).length = n := by rfl) (hst : (assignEach es X.env).findIdx? (·.1) = none := by rfl) : PG X (.Tuple es k pos) (zra X.K n t) := by
  intro pins s σ H v u Q I r hw
  obtain ⟨a, xs, e1, hq, hl, hw⟩ := hw
  subst e1
  cases r
  obtain ⟨its, rv, ht, hz⟩ := I.tuple hq
  refine assign_Tuple_tuple (I.ok.hd hc) ht (by simp [hn, <- hl, rv.length]) hst fun h' hx => ?_
  have I1 : Inv X pins σ H { s with heap := h' } := I.kept (t' := s.toks) fun b o e => hx b o (Nat.ne_of_lt (Heap.lt_size e)) e
  exact h pins _ σ H xs _ Q I1 (by simpa using rv) hw
noncomputable def zij (to ti : TE) (t : ziq) : TG := fun v σ H Q => to σ H fun o H1 => ti σ H1 fun i H2 => t o i v H2 fun H3 => Q σ H3
theorem zlp {o i : Expr} {to ti : TE} {t : ziq} (ho : PE X o to) (hi : PE X i ti) (hs : zi1 X t)
    (ha : ∀ v, assign (.Subscript o i pos) X.env v = (do
      let ov <- holding [v] (eval o X.env)
      let iv <- holding [v, ov] (eval i X.env)
      standAt pos
      holding [v, ov, iv] (setItem ov iv v)
      release [v, ov, iv] []) := by intro _; rfl) : PG X (.Subscript o i pos) (zij to ti t) := by
  intro pins s σ H v u Q I r h
  rw [ha]
  refine wpAny_bind (wpAny_holding (thn (ho pins s σ H _ I h) fun ov s1 ⟨x, H1, I1, r1, q1⟩ => ?_))
  refine wpAny_bind (wpAny_holding (thn (hi pins s1 σ H1 _ I1 q1) fun iv s2 ⟨y, H2, I2, r2, q2⟩ => ?_))
  refine wpAny_bind (wpAny_standAt (wpAny_bind (wpAny_holding (thn (hs pins s2 σ H2 x y v ov iv u _ I2 r1 r2 r q2) fun _ s3 ⟨H3, I3, q3⟩ => ?_))))
  exact wpAny_release ⟨σ, H3, I3, q3⟩
noncomputable def zdw (te : TE) (g : TG) : TS := fun D σ H => te σ H fun x H1 => g x σ H1 D.nx
theorem zi4 {tg e : Expr} {te : TE} {g : TG} (he : PE X e te) (hg : PG X tg g) (hs : swapsWithSole [tg] e pos.line X.env = pure false := by rfl) (hw : swappedStores [tg] e X.env = pure none := by rfl)
    (h1 : (assignEach [tg] X.env).map (·.2) = [assign tg X.env] := by rfl) : PS X (.Assign [tg] e pos) (zdw te g) := by
  intro pins s σ H D I h
  refine wpAny_Assign_stores (thn (he pins s σ H _ I h) fun v s1 ⟨x, H1, I1, r1, q1⟩ => ?_) hs hw
  rw [h1]
  exact thn (hg pins s1 σ H1 x v _ I1 r1 q1) fun _ s2 q => q
theorem zg1 {i : Nat} {x : Str} {e : Expr} {te : TE} {pos' : Pos} (hN : X.N.Nodup) (hi : X.N[i]? = some x) (hx : Loc X.env.scope x) (he : PE X e te) (hs : swapsWith e (some (.Name x pos')) pos.line X.env = pure false := by rfl) (hf : X.fn x = true \/ X.env.scope.names.lookup x = some .local := by first | exact .inl rfl | exact .inr rfl | assumption) :
    PS X (.Assign [.Name x pos'] e pos) (zdw te (zdi i)) := by
  intro pins s σ H D I h
  refine wpAny_Assign_Name (thn (he pins s σ H _ I h) fun v s1 ⟨y, H1, I1, r1, q1⟩ => ?_) hs
  exact zgt I1 hN hi hx r1 (fun s2 I2 => ⟨_, H1, I2, q1⟩) hf
noncomputable def zob (i : Nat) (te : TE) (ti : TIp) : TS := fun D σ H => ∃ x, σ[i]? = some (some x) /\ te σ H fun y H1 => ti x y H1 fun z H2 => D.nx (σ.set i (some z)) H2
theorem zpv {i : Nat} {x : Str} {e : Expr} {te : TE} {op : Operator} {ti : TIp} {pos' : Pos} (hN : X.N.Nodup) (hi : X.N[i]? = some x) (hx : Loc X.env.scope x) (he : PE X e te) (ho : PIp X op ti) (hf : X.fn x = true \/ X.env.scope.names.lookup x = some .local := by first | exact .inl rfl | exact .inr rfl | assumption) :
    PS X (.AugAssign (.Name x pos') op e pos) (zob i te ti) := by
  intro pins s σ H D I h
  obtain ⟨v, e1, h⟩ := h
  obtain ⟨m, hn, hl⟩ := I.loc
  have vis : Vis X.env.scope x := by rcases hx with k | k; exact .inl k; exact .inr (.inl k)
  obtain ⟨u, r, l⟩ := hl i x v hi e1 vis
  refine wpAny_AugAssign_Name ?_
  have go : wpAny (model X.prog X.w) X.A (eval e X.env) (fun w s₂ => wpAny (model X.prog X.w) X.A (inplaceOp op u w) (fun r s₃ => wpAny (model X.prog X.w) X.A (storeName X.env x r) (fun _ => SP X pins D .next) X.xe s₃) X.xe s₂) X.xe s := by
    refine thn (he pins s σ H _ I h) fun w s1 ⟨y, H1, I1, r1, q1⟩ => ?_
    refine thn (ho pins s1 σ H1 v y u w _ I1 r r1 q1) fun z s2 ⟨zv, H2, I2, r2, q2⟩ => ?_
    exact zgt I2 hN hi hx r2 (fun s3 I3 => ⟨_, H2, I3, q2⟩) hf
  rcases l with ⟨hk, hm⟩ | ⟨hk, c, hc, hcell⟩
  · exact wpAny_loadName_local I.ok.kind hk hn hm go
  · rcases hk with hk | hk
    · exact wpAny_loadName_cell I.ok.kind hk hc hcell go
    · rcases hx with k | k
      · have : X.env.scope.names.lookup x = some .free := hk
        rw [k] at this; cases this
      · have : X.env.scope.names.lookup x = some .free := hk
        rw [k] at this; cases this
noncomputable def ipI (f : Int -> Int -> Int) : TIp := fun x y H Q => ∃ i j, x = .int i /\ y = .int j /\ Q (.int (f i j)) H
theorem ztg : PIp X .Add (ipI fun i j => i + j) := by
  intro pins s σ H x y v u Q I r1 r2 h
  obtain ⟨i, j, e1, e2, q⟩ := h
  subst e1; subst e2
  obtain ⟨t, rfl⟩ := r1
  obtain ⟨t', rfl⟩ := r2
  exact iadd_int ⟨.int _, H, I.tok _, ⟨_, rfl⟩, q⟩
end
section
variable {X : Cx} {pos : Pos}
end
structure It where
  go : Nat -> Hp -> Prop
  yld : Nat -> Hp -> V -> Hp -> Prop
  stop : Nat -> Hp -> Prop
noncomputable def zbp (X : Cx) (pins : List (Addr × Obj)) (H : Hp) (b : Addr) : Prop :=
  H b = none /\ b ≠ X.env.locals /\ b ∉ X.fs /\ (b ∈ X.ex \/ X.s₀.heap.objs.size <= b) /\ (∀ x c, X.env.cells.lookup x = some c -> c ≠ b) /\ ∀ p ∈ X.pn ++ pins, p.1 ≠ b
theorem Inv.fpOk {X : Cx} {pins : List (Addr × Obj)} {σ : St} {H H' : Hp} {s : Shared} {b : Addr} (I : Inv X pins σ H s) (hb : s.heap.objs.size <= b) (hn : H' b = none) : zbp X pins H' b := by
  refine ⟨hn, Nat.ne_of_gt (Nat.lt_of_lt_of_le I.lt hb), I.nofs hb, .inr (Nat.le_trans I.sz hb), fun x c e z => ?_, fun p hp z => ?_⟩
  · obtain ⟨v, q⟩ := I.cell x c e
    exact absurd (Nat.lt_of_lt_of_le q.lt (by rw [z]; exact hb)) (Nat.lt_irrefl _)
  · exact absurd (Nat.lt_of_lt_of_le (Heap.lt_size (I.pin p hp).1) (by rw [z]; exact hb)) (Nat.lt_irrefl _)
structure zdt (P : Program) (w : World) (K : PySem.W.Frag) (tg : Expr) (J : It) (fp : List Addr) (it : Addr) (tn : Nat -> Heap -> Prop) : Prop where
  mem : it ∈ fp
  obj : ∀ i h, tn i h -> ∀ b ∈ fp, ∃ o, h.get? b = some o /\ ∀ v, o.data ≠ .cell v
  keep : ∀ i h h', tn i h -> (∀ b ∈ fp, ∀ o, h.get? b = some o -> h'.get? b = some o) -> tn i h'
  item : ∀ (X : Cx), X.prog = P -> X.w = w -> X.K = K -> X.calm = true -> ∀ (i : Nat) (pins : List (Addr × Obj)) (s : Shared) (σ : St) (H : Hp) (E : Value -> Shared -> Prop), Inv X pins σ H s -> (∀ b ∈ fp, zbp X pins H b) -> tn i s.heap -> J.go i H ->
    wpAny (model P w) X.A (pyNext (.ref it)) (fun r s1 => ∃ u, r = some u /\
      wpAny (model P w) X.A (letOwnedTupleGo tg (.ref it) u) (fun _ s2 => ∃ x H', Inv X pins σ H' s2 /\ zae x u /\ J.yld i H x H' /\ tn (i + 1) s2.heap /\ ∀ b ∈ fp, H' b = none) E s1) E s
  done : ∀ (X : Cx), X.prog = P -> X.w = w -> X.K = K -> X.calm = true -> ∀ (i : Nat) (pins : List (Addr × Obj)) (s : Shared) (σ : St) (H : Hp) (E : Value -> Shared -> Prop), Inv X pins σ H s -> (∀ b ∈ fp, zbp X pins H b) -> tn i s.heap -> J.stop i H ->
    wpAny (model P w) X.A (pyNext (.ref it)) (fun r s1 => r = none /\ Inv X pins σ H s1) E s
  self : ∀ (A : Around) (i : Nat) (s : Shared) (Q : Value -> Shared -> Prop) (E : Value -> Shared -> Prop), tn i s.heap -> Q (.ref it) s -> wpAny (model P w) A (pyIter (.ref it)) Q E s
noncomputable abbrev TI := St -> Hp -> (It -> Hp -> Prop) -> Prop
noncomputable def PIE (X : Cx) (pins : List (Addr × Obj)) (σ : St) (tg : Expr) (R : It -> Hp -> Prop) (itv : Value) (s2 : Shared) : Prop :=
  ∃ (it : Addr) (fp : List Addr) (tn : Nat -> Heap -> Prop) (J : It) (H' : Hp), itv = .ref it /\ Inv X pins σ H' s2 /\ zdt X.prog X.w X.K tg J fp it tn /\ tn 0 s2.heap /\ (∀ b ∈ fp, zbp X pins H' b) /\ R J H'
noncomputable def PI (X : Cx) (tg iter : Expr) (wi : TI) : Prop :=
  ∀ (pins : List (Addr × Obj)) (s : Shared) (σ : St) (H : Hp) (R : It -> Hp -> Prop), Inv X pins σ H s -> wi σ H R ->
    wpAny (model X.prog X.w) X.A (eval iter X.env) (fun v s1 => wpAny (model X.prog X.w) X.A (pyIter v) (PIE X pins σ tg R) X.xe s1) X.xe s
theorem zfo {M : Model} {A : Around} {E : Value -> Shared -> Prop} {s : Shared} {tg : Expr} {it : Addr} {u : Value} {o : Obj} {n : String} {vs : Array Value} {Q : Unit -> Shared -> Prop} (ho : s.heap.get? it = some o) (hc : o.cls = .type n) (hd : o.data = .fields vs)
    (hn : ["enumerate", "zip", "dict_itemiterator", "dict_reverseitemiterator", "odict_iterator", "itertools.zip_longest", "itertools.pairwise"].contains n = false) (hQ : Q () s) : wpAny M A (letOwnedTupleGo tg (.ref it) u) Q E s := by
  unfold letOwnedTupleGo
  cases tg <;> first
    | exact wpAny_pure hQ
    | (cases u <;> first
        | exact wpAny_pure hQ
        | (refine wpAny_bind (wpAny_load ho ?_)
           rw [hc, hd]
           show wpAny M A (if (["enumerate", "zip", "dict_itemiterator", "dict_reverseitemiterator", "odict_iterator", "itertools.zip_longest", "itertools.pairwise"].contains n && vs[0]? == some (rawInt _)) = true then _ else _) Q E s
           rw [if_neg (by intro h; rw [hn, Bool.false_and] at h; cases h)]
           exact wpAny_pure hQ))
noncomputable def Itl (K : PySem.W.Frag) (a : Addr) : It :=
  ⟨fun i H => ∃ xs x, SqL K H a xs /\ xs[i]? = some x, fun i H x H' => H' = H /\ ∀ xs, SqL K H a xs -> xs[i]? = some x, fun i H => ∃ xs, SqL K H a xs /\ xs.length <= i⟩
noncomputable def Itt (K : PySem.W.Frag) (a : Addr) : It :=
  ⟨fun i H => ∃ xs x, SqT K H a xs /\ xs[i]? = some x, fun i H x H' => H' = H /\ ∀ xs, SqT K H a xs -> xs[i]? = some x, fun i H => ∃ xs, SqT K H a xs /\ xs.length <= i⟩
noncomputable def Itr (lo : Int) (n : Nat) : It := ⟨fun i _ => i < n, fun i H x H' => H' = H /\ x = .int (lo + i), fun i _ => n <= i⟩
theorem zqq {P : Program} {w : World} {K : PySem.W.Frag} {tg : Expr} (a it : Addr) : zdt P w K tg (Itl K a) [it] it (fun i h => h.IsListIter it a i) where
  mem := by simp
  obj := fun i h st b hb => by
    have e : b = it := by simpa using hb
    subst e
    obtain ⟨o, e, c, d⟩ := st
    exact ⟨o, e, fun v z => by rw [d] at z; cases z⟩
  keep := fun i h h' st k => st.at fun o e => k it (by simp) o e
  item := by
    intro X hP hw hK hc i pins s σ H E I hf st hg
    subst hP hw hK
    obtain ⟨xs, x, hq, hx⟩ := hg
    obtain ⟨its, rv, p, hz⟩ := I.list hq
    obtain ⟨u, hu, ru⟩ := rv.get hx
    obtain ⟨f0, f1, f2, f3, f4, f5⟩ := hf it (by simp)
    refine wpAny_pyNext_list_item st p.isList (x := u) (by simpa using hu) fun h' st' sb => ?_
    have I1 : Inv X pins σ H { s with heap := h' } := I.turned (t' := s.toks) (fun b o hb e => (sb.2 b hb).trans e) f0 f1 f3 f4 f5
    obtain ⟨o, e, c, d⟩ := id st'
    exact ⟨u, rfl, zfo (s := { s with heap := h' }) e c d (by decide) ⟨x, H, I1, ru, ⟨rfl, fun ys hy => by rw [I.list_inj hy hq]; exact hx⟩, st', fun b hb => (hf b hb).1⟩⟩
  done := by
    intro X hP hw hK hc i pins s σ H E I hf st hg
    subst hP hw hK
    obtain ⟨xs, hq, hx⟩ := hg
    obtain ⟨its, rv, p, hz⟩ := I.list hq
    obtain ⟨f0, f1, f2, f3, f4, f5⟩ := hf it (by simp)
    have hl := rv.length
    exact wpAny_pyNext_list_end (I.ok.hd hc) st p.isList (by simp; omega) fun h' eb => ⟨rfl, I.turned (t' := s.toks) (fun b o hb e => eb b o hb e) f0 f1 f3 f4 f5⟩
  self := fun _ _ _ _ _ st h => wpAny_pyIter_listiter st h
theorem zqy {P : Program} {w : World} {K : PySem.W.Frag} {tg : Expr} (a it : Addr) : zdt P w K tg (Itt K a) [it] it (fun i h => h.IsTupleIter it a i) where
  mem := by simp
  obj := fun i h st b hb => by
    have e : b = it := by simpa using hb
    subst e
    obtain ⟨o, e, c, d⟩ := st
    exact ⟨o, e, fun v z => by rw [d] at z; cases z⟩
  keep := fun i h h' st k => st.at fun o e => k it (by simp) o e
  item := by
    intro X hP hw hK hc i pins s σ H E I hf st hg
    subst hP hw hK
    obtain ⟨xs, x, hq, hx⟩ := hg
    obtain ⟨its, rv, p, hz⟩ := I.tuple hq
    obtain ⟨u, hu, ru⟩ := rv.get hx
    obtain ⟨f0, f1, f2, f3, f4, f5⟩ := hf it (by simp)
    refine wpAny_pyNext_tuple_item st (show s.heap.IsTuple a its.toArray from p) (x := u) (by simpa using hu) fun h' st' sb => ?_
    have I1 : Inv X pins σ H { s with heap := h' } := I.turned (t' := s.toks) (fun b o hb e => (sb.2 b hb).trans e) f0 f1 f3 f4 f5
    obtain ⟨o, e, c, d⟩ := id st'
    exact ⟨u, rfl, zfo (s := { s with heap := h' }) e c d (by decide) ⟨x, H, I1, ru, ⟨rfl, fun ys hy => by rw [I.tuple_inj hy hq]; exact hx⟩, st', fun b hb => (hf b hb).1⟩⟩
  done := by
    intro X hP hw hK hc i pins s σ H E I hf st hg
    subst hP hw hK
    obtain ⟨xs, hq, hx⟩ := hg
    obtain ⟨its, rv, p, hz⟩ := I.tuple hq
    obtain ⟨f0, f1, f2, f3, f4, f5⟩ := hf it (by simp)
    have hl := rv.length
    exact wpAny_pyNext_tuple_end (I.ok.hd hc) st (show s.heap.IsTuple a its.toArray from p) (by simp; omega) fun h' eb => ⟨rfl, I.turned (t' := s.toks) (fun b o hb e => eb b o hb e) f0 f1 f3 f4 f5⟩
  self := fun _ _ _ _ _ st h => wpAny_pyIter_tupleiter st h
theorem zp0 {P : Program} {w : World} {K : PySem.W.Frag} {tg : Expr} (it : Addr) (lo : Int) (n : Nat) : zdt P w K tg (Itr lo n) [it] it (fun i h => IsRangeIter h it (lo + (i : Nat) * 1) ((n : Int) - (i : Nat)) 1) where
  mem := by simp
  obj := fun i h st b hb => by
    have e : b = it := by simpa using hb
    subst e
    exact ⟨_, st, fun v z => by
      have z' : Data.fields _ = Data.cell v := z
      cases z'⟩
  keep := fun i h h' st k => k it (by simp) _ st
  item := by
    intro X hP hw hK hc i pins s σ H E I hf st hg
    subst hP hw hK
    obtain ⟨f0, f1, f2, f3, f4, f5⟩ := hf it (by simp)
    have W := Walks.range (prog := X.prog) (w := X.w) (I.ok.hd hc) it lo 1 n
    refine W.item i s _ _ hg st fun v h' tk hv st' kk => ?_
    obtain ⟨t, rfl⟩ := hv
    have I1 : Inv X pins σ H { s with heap := h', toks := tk } := I.turned (fun b o hb e => kk b o (by simpa using hb) e) f0 f1 f3 f4 f5
    refine ⟨_, rfl, zfo (s := { s with heap := h', toks := tk }) (n := "range_iterator") st' rfl rfl (by decide) ⟨.int (lo + i), H, I1, ⟨t, ?_⟩, ⟨rfl, rfl⟩, st', fun b hb => (hf b hb).1⟩⟩
    rw [Int.mul_one]
  done := by
    intro X hP hw hK hc i pins s σ H E I hf st hg
    subst hP hw hK
    obtain ⟨f0, f1, f2, f3, f4, f5⟩ := hf it (by simp)
    exact wpAny_pyNext_range_end (I.ok.hd hc) st (by have : n <= i := hg; omega) fun h' eb => ⟨rfl, I.turned (t' := s.toks) (fun b o hb e => eb b o hb e) f0 f1 f3 f4 f5⟩
  self := fun _ _ _ _ _ st h => wpAny_pyIter_rangeiter st h
end L2
namespace L2
open PySem PySem.Spec PyProof.Rows
section
variable {X : Cx} {tg : Expr}
noncomputable def zoc (K : PySem.W.Frag) (tl : TE) : TI := fun σ H R => tl σ H fun x H1 => ∃ a, x = .ref a /\ (∃ xs, SqL K H1 a xs) /\ R (Itl K a) H1
noncomputable def zq9 (K : PySem.W.Frag) (tl : TE) : TI := fun σ H R => tl σ H fun x H1 => ∃ a, x = .ref a /\ (∃ xs, SqT K H1 a xs) /\ R (Itt K a) H1
theorem zre {l : Expr} {tl : TE} (hl : PE X l tl) : PI X tg l (zoc X.K tl) := by
  intro pins s σ H R I h
  refine thn (hl pins s σ H _ I h) fun v s1 ⟨x, H1, I1, r1, q1⟩ => ?_
  obtain ⟨a, e, ⟨xs, hq⟩, q⟩ := q1
  subst e
  cases r1
  obtain ⟨its, rv, p, hz⟩ := I1.list hq
  refine wpAny_pyIter_list p.isList ?_
  refine ⟨s1.heap.objs.size, [s1.heap.objs.size], _, _, H1, rfl, I1.kept (t' := s1.toks) fun b o e => Heap.get?_push_of_some _ e, zqq a _, ⟨_, Heap.get?_push_size _ rfl, rfl, rfl⟩, fun b hb => ?_, q⟩
  have e : b = s1.heap.objs.size := by simpa using hb
  subst e
  exact I1.fpOk (Nat.le_refl _) (I1.hok.fresh (Nat.le_refl _))
theorem zs1 {l : Expr} {tl : TE} (hl : PE X l tl) : PI X tg l (zq9 X.K tl) := by
  intro pins s σ H R I h
  refine thn (hl pins s σ H _ I h) fun v s1 ⟨x, H1, I1, r1, q1⟩ => ?_
  obtain ⟨a, e, ⟨xs, hq⟩, q⟩ := q1
  subst e
  cases r1
  obtain ⟨its, rv, p, hz⟩ := I1.tuple hq
  refine wpAny_pyIter_tuple (show s1.heap.IsTuple a its.toArray from p) ?_
  refine ⟨s1.heap.objs.size, [s1.heap.objs.size], _, _, H1, rfl, I1.kept (t' := s1.toks) fun b o e => Heap.get?_push_of_some _ e, zqy a _, ⟨_, Heap.get?_push_size _ rfl, rfl, rfl⟩, fun b hb => ?_, q⟩
  have e : b = s1.heap.objs.size := by simpa using hb
  subst e
  exact I1.fpOk (Nat.le_refl _) (I1.hok.fresh (Nat.le_refl _))
theorem zpi {pins : List (Addr × Obj)} {σ : St} {H : Hp} {s : Shared} {R : It -> Hp -> Prop} {E : Value -> Shared -> Prop} {lo hi : Int} {t u v : Tok} {tk : Nat} (I : Inv X pins σ H s) (h1 : -(2 ^ 62) <= lo) (h2 : lo < 2 ^ 62) (h3 : -(2 ^ 62) <= hi) (h4 : hi < 2 ^ 62)
    (q : R (Itr lo (hi - lo).toNat) H) : wpAny (model X.prog X.w) X.A (pyIter (.ref s.heap.objs.size)) (PIE X pins σ tg R) E { s with heap := s.heap.push { cls := .type "range", data := .fields #[.int lo t, .int hi u, .int 1 v] }, toks := tk } := by
  refine wpAny_pyIter_range (IsRange.new ..) (small_one h1 h2 h3 h4) ?_
  have I1 : Inv X pins σ H { s with heap := s.heap.push { cls := .type "range", data := .fields #[.int lo t, .int hi u, .int 1 v] }, toks := tk } := I.kept fun b o e => Heap.get?_push_of_some _ e
  refine ⟨(s.heap.push { cls := .type "range", data := .fields #[.int lo t, .int hi u, .int 1 v] }).objs.size, [(s.heap.push { cls := .type "range", data := .fields #[.int lo t, .int hi u, .int 1 v] }).objs.size], _, _, H, rfl,
    I1.kept (t' := tk) fun b o e => Heap.get?_push_of_some _ e, zp0 _ lo (hi - lo).toNat, ?_, fun b hb => ?_, q⟩
  · have e1 : lo + ((0 : Nat) : Int) * 1 = lo := by simp
    have e2 : (((hi - lo).toNat : Nat) : Int) - ((0 : Nat) : Int) = Builtin.Range.rangeSize lo hi 1 := by rw [rangeSize_one]; split <;> omega
    show IsRangeIter _ _ (lo + ((0 : Nat) : Int) * 1) ((((hi - lo).toNat : Nat) : Int) - ((0 : Nat) : Int)) 1
    rw [e1, e2]
    exact Heap.get?_push_size _ rfl
  · have e : b = (s.heap.push { cls := .type "range", data := .fields #[.int lo t, .int hi u, .int 1 v] }).objs.size := by simpa using hb
    subst e
    exact I1.fpOk (Nat.le_refl _) (I1.hok.fresh (Nat.le_refl _))
noncomputable def zrf (ta : TA) : TI := fun σ H R => ta σ H fun vs H1 => ∃ j : Int, vs = [.int j] /\ -(2 ^ 62) <= j /\ j < 2 ^ 62 /\ R (Itr 0 j.toNat) H1
theorem zsv {a : Expr} {ta : TA} {p pos : Pos} (hg : Gl X "range") (hm : X.mg "range" = none) (ha : PA X [a] ta) (hs : starEach [a] X.env = [(false, eval a X.env)] := by rfl) : PI X tg (.Call (.Name "range" p) [a] [] pos) (zrf ta) := by
  intro pins s σ H R I h
  refine Call_ (zfm I hg hm boot_range (PyProof.Rows.callWith_type1 (thn (ha pos pins s σ H _ I h) fun us s1 ⟨vs, H1, I1, r1, q1⟩ => ?_) hs rfl))
  obtain ⟨j, e, q1, q2, q⟩ := q1
  subst e
  cases r1 with
  | cons r rr =>
    cases rr
    obtain ⟨t, rfl⟩ := r
    exact call_range_1 (zpi I1 (by omega) (by omega) q1 q2 (by simpa using q))
noncomputable def zmu (wi : TI) (g : TG) (tb : TS) : TS := fun D σ H => wi σ H fun J H1 => ∃ W : Nat -> Nat -> St -> Hp -> Prop, (∃ m, W 0 m σ H1) /\ ∀ i m σ H, W i m σ H ->
  (J.stop i H /\ D.nx σ H) \/ (J.go i H /\ ∃ N : St -> Hp -> Prop, (∀ σ' H', N σ' H' -> ∃ m', m' < m /\ W (i + 1) m' σ' H') /\ ∀ x H', J.yld i H x H' -> g x σ H' fun σ2 H2 => tb { D with nx := N, ct := N, bk := D.nx } σ2 H2)
noncomputable def zeu (fp : List Addr) (h : Heap) : List (Addr × Obj) := fp.filterMap fun b => (h.get? b).map fun o => (b, o)
theorem zek {fp : List Addr} {h : Heap} {b : Addr} {o : Obj} (hb : b ∈ fp) (e : h.get? b = some o) : (b, o) ∈ zeu fp h := List.mem_filterMap.mpr ⟨b, hb, by rw [e]; rfl⟩
theorem zmm {fp : List Addr} {h : Heap} {p : Addr × Obj} (hp : p ∈ zeu fp h) : p.1 ∈ fp /\ h.get? p.1 = some p.2 := by
  obtain ⟨b, hb, e⟩ := List.mem_filterMap.mp hp
  cases q : h.get? b with
  | none => rw [q] at e; cases e
  | some o =>
    rw [q] at e
    have e' : (b, o) = p := Option.some.inj e
    subst e'
    exact ⟨hb, q⟩
theorem Inv.pinned {pins : List (Addr × Obj)} {σ : St} {H : Hp} {s : Shared} {fp : List Addr} (I : Inv X pins σ H s) (hf : ∀ b ∈ fp, zbp X pins H b) (ho : ∀ b ∈ fp, ∃ o, s.heap.get? b = some o /\ ∀ v, o.data ≠ .cell v) : Inv X (pins ++ zeu fp s.heap) σ H s :=
  I.pins_of fun p hp => (List.mem_append.mp hp).elim (fun z => I.pin p (List.mem_append_right _ z)) fun z => by
    obtain ⟨hb, e⟩ := zmm z
    obtain ⟨f0, f1, f2, _⟩ := hf p.1 hb
    obtain ⟨o, e', d⟩ := ho p.1 hb
    rw [e] at e'; cases e'
    exact ⟨e, f0, f1, f2, d⟩
theorem Inv.unpinned {pins pl : List (Addr × Obj)} {σ : St} {H : Hp} {s : Shared} (I : Inv X (pins ++ pl) σ H s) : Inv X pins σ H s := I.pins_of fun p hp => I.pin p (List.mem_append_right _ (List.mem_append_left _ hp))
theorem zix {iter : Expr} {body : List Stmt} {wi : TI} {g : TG} {tb : TS} {pos : Pos} (hp : PassesOwn (model X.prog X.w) X.A X.env X.xe) (hc : X.calm = true) (hi : PI X tg iter wi) (hg : PG X tg g) (hb : PSs X body tb)
    (hs : ∀ x, foldedSetIterable iter X.env x = pure x := by intro _; rfl) : PS X (.For tg iter body [] pos) (zmu wi g tb) := by
  intro pins s σ H D I h
  refine wpAny_For (thn (hi pins s σ H _ I h) fun v s1 h1 => thn h1 fun itv s2 h2 => ?_) hs
  obtain ⟨it, fp, tn, J, H2, e, I2, T, st2, f2, W, ⟨m0, w0⟩, turn⟩ := h2
  subst e
  have stat : ∀ {H' : Hp}, (∀ b ∈ fp, H' b = none) -> ∀ b ∈ fp, zbp X pins H' b := fun hn b hb => ⟨hn b hb, (f2 b hb).2⟩
  refine codeAny_forLoop_any (fun n s' => ∃ i σ' H', Inv X pins σ' H' s' /\ tn i s'.heap /\ (∀ b ∈ fp, H' b = none) /\ W i n σ' H') ?_ m0 ⟨0, σ, H2, I2, st2, fun b hb => (f2 b hb).1, w0⟩
  rintro n s3 ⟨i, σ3, H3, I3, st3, fr3, w3⟩
  rcases turn i n σ3 H3 w3 with ⟨stop, qn⟩ | ⟨go, N, hN, step⟩
  · refine wpAny_passesOwn hp (thn (T.done X rfl rfl rfl hc i pins s3 σ3 H3 X.xe I3 (stat fr3) st3 stop) fun r s4 ⟨hr, I4⟩ => ?_)
    subst hr
    exact wpAny_execs_nil ⟨σ3, H3, I4, qn⟩
  · refine wpAny_passesOwn hp (thn (T.item X rfl rfl rfl hc i pins s3 σ3 H3 X.xe I3 (stat fr3) st3 go) fun r s4 ⟨u, hr, h4⟩ => ?_)
    subst hr
    refine wpAny_passesOwn hp (thn h4 fun _ s5 ⟨x, H5, I5, r5, y5, st5, fr5⟩ => ?_)
    have I5' := I5.pinned (stat fr5) (T.obj _ _ st5)
    refine wpAny_passesOwn hp (thn (hg _ s5 σ3 H5 x u _ I5' r5 (step x H5 y5)) fun _ s6 ⟨σ6, H6, I6, q6⟩ => ?_)
    refine wpAny_passesOwn hp (thn (hb _ s6 σ6 H6 _ I6 q6) fun f s7 q7 => ?_)
    have again : ∀ {σ7 : St} {H7 : Hp}, Inv X (pins ++ zeu fp s5.heap) σ7 H7 s7 -> N σ7 H7 -> ∃ m, m < n /\ ∃ i σ' H', Inv X pins σ' H' s7 /\ tn i s7.heap /\ (∀ b ∈ fp, H' b = none) /\ W i m σ' H' := fun {σ7 H7} I7 n7 => by
      obtain ⟨m', hm, w7⟩ := hN σ7 H7 n7
      refine ⟨m', hm, i + 1, σ7, H7, I7.unpinned, T.keep _ _ _ st5 fun b hb o e => (I7.pin (b, o) (List.mem_append_right _ (List.mem_append_right _ (zek hb e)))).1, fun b hb => ?_, w7⟩
      obtain ⟨o, e, d⟩ := T.obj _ _ st5 b hb
      exact (I7.pin (b, o) (List.mem_append_right _ (List.mem_append_right _ (zek hb e)))).2.1
    cases f with
    | next => obtain ⟨σ7, H7, I7, n7⟩ := q7; exact again I7 n7
    | cont => obtain ⟨σ7, H7, I7, n7⟩ := q7; exact again I7 n7
    | brk => obtain ⟨σ7, H7, I7, q7⟩ := q7; exact ⟨σ7, H7, I7.unpinned, q7⟩
    | ret v => obtain ⟨x7, σ7, H7, I7, r7, q7⟩ := q7; exact ⟨x7, σ7, H7, I7.unpinned, r7, q7⟩
end
end L2
namespace L2
open PySem PySem.Spec PyProof.Rows
noncomputable abbrev R2 := V -> V -> Hp -> VK -> Prop
noncomputable def OpR (X : Cx) (f : Value -> Value -> Sem Value) (r : R2) : Prop :=
  ∀ (pins : List (Addr × Obj)) (s : Shared) (σ : St) (H : Hp) (x y : V) (v u : Value) (Q : VK), Inv X pins σ H s -> zae x v -> zae y u -> r x y H Q ->
    wpAny (model X.prog X.w) X.A (f v u) (EP X pins σ Q) X.xe s
noncomputable def UnR (X : Cx) (f : Value -> Sem Value) (r : V -> Hp -> VK -> Prop) : Prop :=
  ∀ (pins : List (Addr × Obj)) (s : Shared) (σ : St) (H : Hp) (x : V) (v : Value) (Q : VK), Inv X pins σ H s -> zae x v -> r x H Q ->
    wpAny (model X.prog X.w) X.A (f v) (EP X pins σ Q) X.xe s
noncomputable def zbk (X : Cx) (f : Value) (r : List V -> Hp -> VK -> Prop) : Prop :=
  ∀ (pins : List (Addr × Obj)) (s : Shared) (σ : St) (H : Hp) (xs : List V) (us : List Value) (Q : VK), Inv X pins σ H s -> zad xs us -> r xs H Q ->
    wpAny (model X.prog X.w) X.A (call f us) (EP X pins σ Q) X.xe s
noncomputable def zr9 (X : Cx) (r : V -> Hp -> (Bool -> Hp -> Prop) -> Prop) : Prop :=
  ∀ (pins : List (Addr × Obj)) (s : Shared) (σ : St) (H : Hp) (x : V) (v : Value) (Q : Bool -> Hp -> Prop), Inv X pins σ H s -> zae x v -> r x H Q ->
    wpAny (model X.prog X.w) X.A (truthy v) (TP X pins σ Q) X.xe s
noncomputable def tOp (r : R2) (ta tb : TE) : TE := fun σ H Q => ta σ H fun x H1 => tb σ H1 fun y H2 => r x y H2 Q
noncomputable def tUn (r : V -> Hp -> VK -> Prop) (ta : TE) : TE := fun σ H Q => ta σ H fun x H1 => r x H1 Q
noncomputable def rI (C : Int -> Int -> Prop) (g : Int -> Int -> V) : R2 := fun x y H Q => ∃ i j, x = .int i /\ y = .int j /\ C i j /\ Q (g i j) H
noncomputable def rI0 (g : Int -> Int -> V) : R2 := fun x y H Q => ∃ i j, x = .int i /\ y = .int j /\ Q (g i j) H
noncomputable def rU (g : Int -> V) : V -> Hp -> VK -> Prop := fun x H Q => ∃ i, x = .int i /\ Q (g i) H
section
variable {X : Cx} {a b c : Expr} {ta tb tc : TE} {pos : Pos}
theorem zgh (ha : PE X a ta) (hb : PE X b tb) {pins : List (Addr × Obj)} {s : Shared} {σ : St} {H : Hp} {R : V -> V -> Hp -> Prop} (I : Inv X pins σ H s)
    (h : ta σ H fun x H1 => tb σ H1 fun y H2 => R x y H2) {Q : Value -> Shared -> Prop} {f : Value -> Value -> Sem Value}
    (hf : ∀ v u s2 x y H2, Inv X pins σ H2 s2 -> zae x v -> zae y u -> R x y H2 -> wpAny (model X.prog X.w) X.A (f v u) Q X.xe s2) :
    wpAny (model X.prog X.w) X.A (eval a X.env) (fun v s₁ => wpAny (model X.prog X.w) X.A (eval b X.env) (fun u s₂ => wpAny (model X.prog X.w) X.A (f v u) Q X.xe s₂) X.xe s₁) X.xe s := by
  refine thn (ha pins s σ H _ I h) fun v s1 ⟨x, H1, I1, r1, q1⟩ => ?_
  refine thn (hb pins s1 σ H1 _ I1 q1) fun u s2 ⟨y, H2, I2, r2, q2⟩ => ?_
  exact hf v u s2 x y H2 I2 r1 r2 q2
theorem zkq {op : Operator} {r : R2} (ho : OpR X (binaryOp op) r) (ha : PE X a ta) (hb : PE X b tb) : PE X (.BinOp a op b pos) (tOp r ta tb) := by
  intro pins s σ H Q I h
  exact wpAny_BinOp (zgh ha hb I h fun v u s2 x y H2 I2 rx ry q => ho pins s2 σ H2 x y v u Q I2 rx ry q)
theorem zo8 {op : UnaryOp} {r : V -> Hp -> VK -> Prop} (ho : UnR X (unaryOp op) r) (ha : PE X a ta) : PE X (.UnaryOp op a pos) (tUn r ta) := by
  intro pins s σ H Q I h
  exact UnaryOp_ (thn (ha pins s σ H _ I h) fun v s1 ⟨x, H1, I1, r1, q1⟩ => ho pins s1 σ H1 x v Q I1 r1 q1)
theorem opI {f : Value -> Value -> Sem Value} {C : Int -> Int -> Prop} {g : Int -> Int -> Int}
    (rule : ∀ (i j : Int) (t u : Tok) (s : Shared) (Q : Value -> Shared -> Prop) (E : Value -> Shared -> Prop), C i j -> Q (.int (g i j) s.toks) { s with toks := s.toks + 1 } -> wpAny (model X.prog X.w) X.A (f (.int i t) (.int j u)) Q E s) :
    OpR X f (rI C fun i j => .int (g i j)) := by
  intro pins s σ H x y v u Q I rx ry h
  obtain ⟨i, j, rfl, rfl, hc, q⟩ := h
  obtain ⟨t, rfl⟩ := rx
  obtain ⟨t', rfl⟩ := ry
  exact rule i j t t' s _ _ hc ⟨.int (g i j), H, I.tok _, ⟨_, rfl⟩, q⟩
theorem zmc {f : Value -> Value -> Sem Value} {g : Int -> Int -> Int}
    (rule : ∀ (i j : Int) (t u : Tok) (s : Shared) (Q : Value -> Shared -> Prop) (E : Value -> Shared -> Prop), Q (.int (g i j) s.toks) { s with toks := s.toks + 1 } -> wpAny (model X.prog X.w) X.A (f (.int i t) (.int j u)) Q E s) :
    OpR X f (rI0 fun i j => .int (g i j)) := by
  intro pins s σ H x y v u Q I rx ry h
  obtain ⟨i, j, rfl, rfl, q⟩ := h
  obtain ⟨t, rfl⟩ := rx
  obtain ⟨t', rfl⟩ := ry
  exact rule i j t t' s _ _ ⟨.int (g i j), H, I.tok _, ⟨_, rfl⟩, q⟩
theorem znt {f : Value -> Value -> Sem Value} {g : Int -> Int -> Bool}
    (rule : ∀ (i j : Int) (t u : Tok) (s : Shared) (Q : Value -> Shared -> Prop) (E : Value -> Shared -> Prop), Q (.bool (g i j)) s -> wpAny (model X.prog X.w) X.A (f (.int i t) (.int j u)) Q E s) :
    OpR X f (rI0 fun i j => .bl (g i j)) := by
  intro pins s σ H x y v u Q I rx ry h
  obtain ⟨i, j, rfl, rfl, q⟩ := h
  obtain ⟨t, rfl⟩ := rx
  obtain ⟨t', rfl⟩ := ry
  exact rule i j t t' s _ _ ⟨.bl (g i j), H, I, rfl, q⟩
noncomputable def zej (i j : Int) : Prop := 0 < j /\ j < 1073741824
noncomputable def zem (i j : Int) : Prop := 0 <= j /\ j <= 1000000 /\ i.natAbs < 2 ^ 64
noncomputable def zcx (i j : Int) : Prop := (-(2 ^ 64) < i /\ i < 2 ^ 64) \/ (-(2 ^ 64) < j /\ j < 2 ^ 64)
theorem zcx.ok {i j : Int} (h : zcx i j) : IntMulOk i j := by
  rcases h with ⟨h1, h2⟩ | ⟨h1, h2⟩
  · exact .of_left (intBits_le_64 h1 h2)
  · exact .of_right (intBits_le_64 h1 h2)
theorem zn3 : OpR X (binaryOp .Add) (rI0 fun i j => .int (i + j)) := zmc fun _ _ _ _ _ _ _ q => add_int q
theorem zo5 : OpR X (binaryOp .Sub) (rI0 fun i j => .int (i - j)) := zmc fun _ _ _ _ _ _ _ q => sub_int q
theorem zqx : OpR X (binaryOp .FloorDiv) (rI zej fun i j => .int (i / j)) := opI fun i j _ _ _ _ _ hc q => by
  have h1 : (0 : Int) < j := hc.1
  have h2 : j < 1073741824 := hc.2
  exact floordiv_int (by omega) (by rw [Int.fdiv_eq_ediv_of_nonneg i (by omega)]; exact q) (.inl (PyProof.noPylong_small (by omega)))
theorem zqs : OpR X (binaryOp .Mod) (rI (fun _ j => 0 < j) fun i j => .int (i % j)) := opI fun i j _ _ _ _ _ hc q => by
  have h1 : (0 : Int) < j := hc
  exact mod_int' (by omega) (by rw [Int.fmod_eq_emod_of_nonneg i (by omega)]; exact q)
theorem zro : OpR X (binaryOp .Pow) (rI zem fun i j => .int (i ^ j.toNat)) := opI fun _ _ _ _ _ _ _ hc q => pow_int_small hc.1 hc.2.1 hc.2.2 q
theorem unI {f : Value -> Sem Value} {g : Int -> Int}
    (rule : ∀ (i : Int) (t : Tok) (s : Shared) (Q : Value -> Shared -> Prop) (E : Value -> Shared -> Prop), Q (.int (g i) s.toks) { s with toks := s.toks + 1 } -> wpAny (model X.prog X.w) X.A (f (.int i t)) Q E s) :
    UnR X f (rU fun i => .int (g i)) := by
  intro pins s σ H x v Q I rx h
  obtain ⟨i, rfl, q⟩ := h
  obtain ⟨t, rfl⟩ := rx
  exact rule i t s _ _ ⟨.int (g i), H, I.tok _, ⟨_, rfl⟩, q⟩
theorem zos : UnR X (unaryOp .USub) (rU fun i => .int (-i)) := unI fun _ _ _ _ _ q => neg_int q
end
noncomputable def zh3 : V -> V -> Bool
  | .non, .non => true | .non, .int _ => true | .int _, .non => true | .non, .bl _ => true | .bl _, .non => true | .non, .str _ => true | .str _, .non => true
  | .int _, .int _ => true | .bl _, .bl _ => true | .str _, .str _ => true | .byt _, .byt _ => true
  | .int _, .str _ => true | .str _, .int _ => true | .bl _, .str _ => true | .str _, .bl _ => true
  | _, _ => false
noncomputable def rEq : R2 := fun x y H Q => zh3 x y = true /\ Q (.bl (decide (x = y))) H
noncomputable def rNe : R2 := fun x y H Q => zh3 x y = true /\ Q (.bl (!decide (x = y))) H
theorem zii {i j : Int} : decide (V.int i = V.int j) = (i == j) := by
  rw [Bool.eq_iff_iff]
  simp
theorem zio {i j : Bool} : decide (V.bl i = V.bl j) = (i == j) := by
  rw [Bool.eq_iff_iff]
  simp
theorem zin {i j : Str} : decide (V.str i = V.str j) = (i == j) := by
  rw [Bool.eq_iff_iff]
  simp
theorem zmf {i j : Array UInt8} : decide (V.byt i = V.byt j) = (i.toList == j.toList) := by
  rw [Bool.eq_iff_iff]
  cases i
  cases j
  simp
section
variable {X : Cx} {a b c : Expr} {ta tb tc : TE} {pos : Pos}
theorem zaj {pins : List (Addr × Obj)} {σ : St} {H : Hp} {s : Shared} {Q : VK} {k k' : Bool} (I : Inv X pins σ H s) (q : Q (.bl k) H) (e : k = k') : EP X pins σ Q (.bool k') s := by
  subst e
  exact ⟨.bl k, H, I, rfl, q⟩
theorem zor : OpR X (compareOp .Eq) rEq := by
  intro pins s σ H x y v u Q I rx ry h
  obtain ⟨hs, q⟩ := h
  cases x with
  | non =>
    cases rx
    cases y with
    | non => cases ry; exact PySem.EqNone.eq_none_none (zaj I q (by simp))
    | bl j => cases ry; exact PySem.EqNone.eq_none_bool (zaj I q (by simp))
    | int j => obtain ⟨t', rfl⟩ := ry; exact PySem.EqNone.eq_none_int (zaj I q (by simp))
    | str j => obtain ⟨t', rfl⟩ := ry; exact PySem.EqNone.eq_none_str (zaj I q (by simp))
    | _ => exact absurd (show false = true from hs) Bool.false_ne_true
  | bl i =>
    cases rx
    cases y with
    | non => cases ry; exact PySem.EqNone.eq_bool_none (zaj I q (by simp))
    | bl j => cases ry; exact eq_bool (zaj I q zio)
    | str j => obtain ⟨t', rfl⟩ := ry; exact PySem.EqMixed.eq_bool_str (zaj I q (by simp))
    | _ => exact absurd (show false = true from hs) Bool.false_ne_true
  | int i =>
    obtain ⟨t, rfl⟩ := rx
    cases y with
    | non => cases ry; exact PySem.EqNone.eq_int_none (zaj I q (by simp))
    | int j => obtain ⟨t', rfl⟩ := ry; exact eq_int (zaj I q zii)
    | str j => obtain ⟨t', rfl⟩ := ry; exact PySem.EqMixed.eq_int_str (zaj I q (by simp))
    | _ => exact absurd (show false = true from hs) Bool.false_ne_true
  | str i =>
    obtain ⟨t, rfl⟩ := rx
    cases y with
    | non => cases ry; exact PySem.EqNone.eq_str_none (zaj I q (by simp))
    | bl j => cases ry; exact PySem.EqMixed.eq_str_bool (zaj I q (by simp))
    | int j => obtain ⟨t', rfl⟩ := ry; exact PySem.EqMixed.eq_str_int (zaj I q (by simp))
    | str j => obtain ⟨t', rfl⟩ := ry; exact eq_str (zaj I q zin)
    | _ => exact absurd (show false = true from hs) Bool.false_ne_true
  | byt i =>
    obtain ⟨t, rfl⟩ := rx
    cases y with
    | byt j => obtain ⟨t', rfl⟩ := ry; exact PySem.W.eq_bytes (zaj I q zmf)
    | _ => exact absurd (show false = true from hs) Bool.false_ne_true
  | _ => cases y <;> exact absurd (show false = true from hs) Bool.false_ne_true
theorem zqk : OpR X (compareOp .NotEq) rNe := by
  intro pins s σ H x y v u Q I rx ry h
  obtain ⟨hs, q⟩ := h
  cases x with
  | non =>
    cases rx
    cases y with
    | non => cases ry; exact PySem.EqNone.ne_none_none (zaj I q (by simp))
    | bl j => cases ry; exact PySem.EqNone.ne_none_bool (zaj I q (by simp))
    | int j => obtain ⟨t', rfl⟩ := ry; exact PySem.EqNone.ne_none_int (zaj I q (by simp))
    | str j => obtain ⟨t', rfl⟩ := ry; exact PySem.EqNone.ne_none_str (zaj I q (by simp))
    | _ => exact absurd (show false = true from hs) Bool.false_ne_true
  | bl i =>
    cases rx
    cases y with
    | non => cases ry; exact PySem.EqNone.ne_bool_none (zaj I q (by simp))
    | bl j => cases ry; exact ne_bool (zaj I q (congrArg not zio))
    | str j => obtain ⟨t', rfl⟩ := ry; exact PySem.EqMixed.ne_bool_str (zaj I q (by simp))
    | _ => exact absurd (show false = true from hs) Bool.false_ne_true
  | int i =>
    obtain ⟨t, rfl⟩ := rx
    cases y with
    | non => cases ry; exact PySem.EqNone.ne_int_none (zaj I q (by simp))
    | int j => obtain ⟨t', rfl⟩ := ry; exact ne_int (zaj I q (congrArg not zii))
    | str j => obtain ⟨t', rfl⟩ := ry; exact PySem.EqMixed.ne_int_str (zaj I q (by simp))
    | _ => exact absurd (show false = true from hs) Bool.false_ne_true
  | str i =>
    obtain ⟨t, rfl⟩ := rx
    cases y with
    | non => cases ry; exact PySem.EqNone.ne_str_none (zaj I q (by simp))
    | bl j => cases ry; exact PySem.EqMixed.ne_str_bool (zaj I q (by simp))
    | int j => obtain ⟨t', rfl⟩ := ry; exact PySem.EqMixed.ne_str_int (zaj I q (by simp))
    | str j => obtain ⟨t', rfl⟩ := ry; exact ne_str (zaj I q (congrArg not zin))
    | _ => exact absurd (show false = true from hs) Bool.false_ne_true
  | byt i =>
    obtain ⟨t, rfl⟩ := rx
    cases y with
    | byt j => obtain ⟨t', rfl⟩ := ry; exact PySem.W.ne_bytes (zaj I q (congrArg not zmf))
    | _ => exact absurd (show false = true from hs) Bool.false_ne_true
  | _ => cases y <;> exact absurd (show false = true from hs) Bool.false_ne_true
theorem zny : OpR X (compareOp .Lt) (rI0 fun i j => .bl (decide (i < j))) := znt fun _ _ _ _ _ _ _ q => lt_int q
theorem OpR.or {f : Value -> Value -> Sem Value} {r r' : R2} (h : OpR X f r) (h' : OpR X f r') : OpR X f (fun x y H Q => r x y H Q \/ r' x y H Q) := by
  intro pins s σ H x y v u Q I rx ry q
  rcases q with q | q
  · exact h pins s σ H x y v u Q I rx ry q
  · exact h' pins s σ H x y v u Q I rx ry q
theorem zj8 (b : Expr) {op : CmpOp} (h : op ≠ .In := by decide) (h2 : op ≠ .NotIn := by decide) : behindInMarks op b = false := by
  have e1 : (op == CmpOp.In) = false := by cases op <;> first | rfl | exact absurd rfl h
  have e2 : (op == CmpOp.NotIn) = false := by cases op <;> first | rfl | exact absurd rfl h2
  cases b <;> simp [behindInMarks, e1, e2]
theorem zsc {op : CmpOp} {r : R2} (ho : OpR X (compareOp op) r) (ha : PE X a ta) (hb : PE X b tb) (hm : behindInMarks op b = false) : PE X (.Compare a [op] [b] pos) (tOp r ta tb) := by
  intro pins s σ H Q I h
  exact wpAny_Compare1 (zgh ha hb I h fun v u s2 x y H2 I2 rx ry q => ho pins s2 σ H2 x y v u Q I2 rx ry q) hm
noncomputable def zte (t : TE) : TT := fun σ H Q => t σ H fun x H' => ∃ k, x = .bl k /\ Q k H'
theorem zsa {op : CmpOp} {r : R2} (ho : OpR X (compareOp op) r) (ha : PE X a ta) (hb : PE X b tb) (hm : behindInMarks op b = false) : PT X (.Compare a [op] [b] pos) (zte (tOp r ta tb)) := by
  intro pins s σ H Q I h
  refine wpAny_isTrue_Compare1 (thn (ha pins s σ H _ I h) fun v s1 ⟨x, H1, I1, r1, q1⟩ => thn (hb pins s1 σ H1 _ I1 q1) fun u s2 ⟨y, H2, I2, r2, q2⟩ =>
    thn (ho pins s2 σ H2 x y v u _ I2 r1 r2 q2) fun c s3 ⟨z, H3, I3, r3, k, e, q3⟩ => ?_) hm
  subst e
  cases r3
  exact wpAny_truthy_bool ⟨H3, I3, q3⟩
noncomputable def zh1 (K : PySem.W.Frag) (x : V) (H : Hp) (k : Bool) : Prop :=
  match x with
  | .non => k = false
  | .bl b => k = b
  | .int i => k = (i != 0)
  | .str y => y.length <= sizeLine /\ k = ((y.length : Int) != 0)
  | .byt y => y.size <= sizeLine /\ k = ((y.size : Int) != 0)
  | .ref p => (∃ xs, SqL K H p xs /\ k = !xs.isEmpty) \/ (∃ xs, SqT K H p xs /\ k = !xs.isEmpty) \/ ∃ kvs, H p = some (.dK kvs) /\ k = !kvs.isEmpty
  | _ => False
theorem zrd {κ : Type} {kvs : List (κ × V)} {vs : List (κ × Value)} (r : KV kvs vs) : (!vs.isEmpty) = !kvs.isEmpty := by
  cases r <;> rfl
theorem zk2 {xs : List V} {its : List Value} (r : zad xs its) : (!its.toArray.isEmpty) = !xs.isEmpty := by
  cases r <;> simp
theorem zd2 : (sizeLine : Nat) < 2 ^ 63 := by rw [sizeLine_eq]; decide
theorem zqa : zr9 X (fun x H Q => ∃ k, zh1 X.K x H k /\ Q k H) := by
  intro pins s σ H x v Q I rx h
  obtain ⟨k, e, q⟩ := h
  have hl := zd2
  have hs : sizeLine = 16777216 := sizeLine_eq
  cases x with
  | non =>
    cases rx
    have e' : k = false := e
    subst e'
    exact truthy_none ⟨H, I, q⟩
  | bl b =>
    cases rx
    have e' : k = b := e
    subst e'
    exact wpAny_truthy_bool ⟨H, I, q⟩
  | int i =>
    obtain ⟨t, rfl⟩ := rx
    have e' : k = (i != 0) := e
    subst e'
    exact PySem.P.truthy_int ⟨H, I, q⟩
  | str y =>
    obtain ⟨t, rfl⟩ := rx
    obtain ⟨hy, e'⟩ : y.length <= sizeLine /\ k = ((y.length : Int) != 0) := e
    subst e'
    exact PySem.P.truthy_str (by omega) ⟨H, I.tok _, q⟩
  | byt y =>
    obtain ⟨t, rfl⟩ := rx
    obtain ⟨hy, e'⟩ : y.size <= sizeLine /\ k = ((y.size : Int) != 0) := e
    subst e'
    exact PySem.W.truthy_bytes (by omega) ⟨H, I.tok _, q⟩
  | ref p =>
    cases rx
    have e' : (∃ xs, SqL X.K H p xs /\ k = !xs.isEmpty) \/ (∃ xs, SqT X.K H p xs /\ k = !xs.isEmpty) \/ ∃ kvs, H p = some (.dK kvs) /\ k = !kvs.isEmpty := e
    rcases e' with ⟨xs, hx, e'⟩ | ⟨xs, hx, e'⟩ | ⟨kvs, hx, e'⟩
    · subst e'
      obtain ⟨its, r, pl, hz⟩ := I.list hx
      have hlen := r.length
      exact wpAny_truthy_list pl.isList (by simp only [List.size_toArray]; omega) ⟨H, I.tok _, by rw [zk2 r]; exact q⟩
    · subst e'
      obtain ⟨its, r, pl, hz⟩ := I.tuple hx
      have hlen := r.length
      exact truthy_tuple pl (by simp only [List.size_toArray]; omega) ⟨H, I.tok _, by rw [zk2 r]; exact q⟩
    · subst e'
      obtain ⟨hz, hS, vs, r, m⟩ : kvs.length <= sizeLine /\ (p == sysModules) = false /\ ∃ vs, KV kvs vs /\ s.heap.DictOf (zic X.prog X.w) p vs := I.hok p _ hx
      have hlen : kvs.length = vs.length := Paired.length r
      exact wpAny_truthy_dict hS m (by omega) ⟨H, I.tok _, by rw [zrd r]; exact q⟩
  | _ => exact (show False from e).elim
theorem zo6 (ha : PE X a ta) (he : ∀ whole, isTrue a X.env whole = (do let v <- whole; standAt a.pos; holding [v] (truthy v))) :
    PT X a (fun σ H Q => ta σ H fun x H' => ∃ k, zh1 X.K x H' k /\ Q k H') := by
  intro pins s σ H Q I h
  exact isTrue_plain (thn (ha pins s σ H _ I h) fun v s1 ⟨x, H1, I1, r1, q1⟩ => zqa pins s1 σ H1 x v Q I1 r1 q1) (he _)
theorem znb : OpR X (binaryOp .Add) (fun x y H Q => ∃ i j, x = .str i /\ y = .str j /\ i.length + j.length <= sizeLine /\ Q (.str (i ++ j)) H) := by
  intro pins s σ H x y v u Q I rx ry h
  obtain ⟨i, j, rfl, rfl, hz, q⟩ := h
  obtain ⟨t, rfl⟩ := rx
  obtain ⟨t', rfl⟩ := ry
  exact add_str (fun t' tk => ⟨.str (i ++ j), H, I.tok _, ⟨_, rfl⟩, q⟩) hz
theorem zsl : OpR X (inplaceOp .Add) (fun x y H Q => ∃ i j, x = .str i /\ y = .str j /\ i.length + j.length <= sizeLine /\ Q (.str (i ++ j)) H) := by
  intro pins s σ H x y v u Q I rx ry h
  obtain ⟨i, j, rfl, rfl, hz, q⟩ := h
  obtain ⟨t, rfl⟩ := rx
  obtain ⟨t', rfl⟩ := ry
  exact iadd_str (fun t' tk => ⟨.str (i ++ j), H, I.tok _, ⟨_, rfl⟩, q⟩) hz
noncomputable def zg8 (b : Expr) : Prop := ∀ o i, subscripted b false o i = operate [o, i] (getItem o i)
theorem zjz (ha : PE X a ta) (hb : PE X b tb) (hs : zg8 b) :
    PE X (.Subscript a b pos) (tOp (fun x y H Q => ∃ z i c, x = .str z /\ y = .int i /\ 0 <= i /\ i < 2 ^ 63 /\ i < z.length /\ z.cps[i.toNat]? = some c /\ Q (.str ⟨#[c]⟩) H) ta tb) := by
  intro pins s σ H Q I h
  refine Subscript_ (zgh ha hb I h fun v u s2 x y H2 I2 rx ry q => ?_)
  obtain ⟨z, i, c, rfl, rfl, h0, h63, h1, hc, q⟩ := q
  obtain ⟨t, rfl⟩ := rx
  obtain ⟨t', rfl⟩ := ry
  have e : seqIndex? i z.length = some i.toNat := PySem.StrLaws.seqIndex_nonneg h0 h1
  exact tail_any (typeIs_str s2 z t) slot_str_getitem.lookup (getItem_str (c := c) (by
    have e1 : decide (i < -(2 ^ 63 : Int)) = false := decide_eq_false (by omega)
    have e2 : decide (i ≥ 2 ^ 63) = false := decide_eq_false (by omega)
    rw [e1, e2] <;> rfl) (by rw [e]; exact hc) ⟨.str ⟨#[c]⟩, H2, I2.tok _, ⟨_, rfl⟩, q⟩) (hs _ _)
theorem zi9 {x : V} {us : List Value} (r : zad [x] us) : ∃ u, us = [u] /\ zae x u := by
  cases r with
  | cons r1 r2 => cases r2; exact ⟨_, rfl, r1⟩
theorem zlm {x y : V} {us : List Value} (r : zad [x, y] us) : ∃ u w', us = [u, w'] /\ zae x u /\ zae y w' := by
  cases r with
  | cons r1 r2 =>
    cases r2 with
    | cons r3 r4 => cases r4; exact ⟨_, _, rfl, r1, r3⟩
end
end L2
namespace L2
open PySem PySem.Spec PyProof.Rows
structure zhn (h : Heap) (x dx C : Addr) (mA : Str -> Option Value) : Prop where
  obj : h.get? x = some (PySem.W.instObj C dx)
  ns : h.Ns1 dx mA
  ne : dx ≠ x
theorem zn6 {h : Heap} {dx : Addr} {mA : Str -> Option Value} (n : h.Ns1 dx mA) : ∃ od, h.get? dx = some od /\ ∀ name, PySem.W.lookIn name od = some (mA name) := by
  obtain ⟨o, es, ep, ho, hd, hk, _, hm⟩ := n
  refine ⟨o, ho, fun name => ?_⟩
  have e := hm name
  unfold nsFind findBy at e
  rw [<- Array.find?_toList] at e
  unfold PySem.W.lookIn
  rw [hd]
  dsimp only
  split
  · rename_i y q
    rw [q] at e
    exact congrArg some e
  · rename_i q
    rw [q] at e
    have a : es.toList.any (·.refKey) = false := by
      rw [List.any_eq_false]
      intro y hy
      obtain ⟨z, t, hkey⟩ := hk y (Array.mem_toList_iff.mp hy)
      simp [DictEntry.refKey, hkey]
    have a' : ¬ es.toList.any (·.refKey) = true := by rw [a]; exact Bool.false_ne_true
    rw [if_neg a']
    exact congrArg some e
theorem zhn.look {h : Heap} {x dx C : Addr} {mA : Str -> Option Value} (I : zhn h x dx C mA) : ∃ od, PySem.W.InstAt h x (PySem.W.instObj C dx) C (some od) /\ ∀ name, PySem.W.lookIn name od = some (mA name) :=
  let ⟨od, ho, hl⟩ := zn6 I.ns
  ⟨od, ⟨I.obj, rfl, rfl, ho⟩, hl⟩
section
variable {prog : Program} {w : World} {A : Around} {E : Value -> Shared -> Prop} {s : Shared} {K : PySem.W.Frag} {x dx C f : Addr} {mA : Str -> Option Value} {name : Str} {v : Value}
end
section
variable {P : Program} {w : World} {H H' : Hp} {h h' : Heap} {a C dx : Addr} {fs fs' : List (Str × V)}
theorem zr6 (hok : HOk P w H h) (e : H a = some (.ins C dx fs)) : ∃ mA, zhn h a dx C mA /\ (∀ f, zdc (fs.lookup f) (mA f)) /\ PySem.Within mA (fs.map (·.1)) /\ fs.length <= 1000 /\ H dx = some (.own a) := by
  obtain ⟨d, z, ne, ob, mA, n, r, q⟩ := (show zay P w H h a (.ins C dx fs) from hok a _ e)
  exact ⟨mA, ⟨ob, n, ne⟩, r, q, z, d⟩
end
structure Cls (K : PySem.W.Frag) (C : Addr) : Prop where
  pg : PySem.W.plainGet K C Str.empty = true
  hd : PySem.W.hasDictIn K C = true
  po : PySem.W.plainOver K C = true
  sa : PySem.W.findIn K (.ref C) "__setattr__" = some (some (.builtin "object.__setattr__"))
theorem Cls.get {K : PySem.W.Frag} {C : Addr} (c : Cls K C) (f : Str) : PySem.W.plainGet K C f = true := c.pg
section
variable {X : Cx} {pins : List (Addr × Obj)} {σ : St} {H : Hp} {s : Shared} {a C dx : Addr} {fs : List (Str × V)} {f : Str} {v : V} {A : Around} {E : Value -> Shared -> Prop}
end
section
variable {X : Cx} {o e value : Expr} {f : Str} {pos pos' tpos : Pos} {ta tv : TE}
end
section
variable {X : Cx} {pins : List (Addr × Obj)} {σ : St} {H : Hp} {s : Shared} {A : Around} {E : Value -> Shared -> Prop} {Q : Value -> Shared -> Prop} {c : Value} {b : Bool}
inductive zbd (K : PySem.W.Frag) (H : Hp) : V -> Value -> Prop where
  | non : zbd K H .non (.type "NoneType")
  | bl (x : Bool) : zbd K H (.bl x) (.type "bool")
  | int (i : Int) : zbd K H (.int i) (.type "int")
  | str (x : Str) : zbd K H (.str x) (.type "str")
  | flt (x : UInt64) : zbd K H (.flt x) (.type "float")
  | lst {a : Addr} {xs : List V} (e : H a = some (.lst xs)) : zbd K H (.ref a) (.type "list")
  | frz {a : Addr} {o : Obj} {xs : List V} (e : H a = some (.frz o (.lst xs))) : zbd K H (.ref a) (.type "list")
  | tup {a : Addr} {xs : List V} (e : H a = some (.tup xs)) : zbd K H (.ref a) (.type "tuple")
  | dK {a : Addr} {kvs : List (Key × V)} (e : H a = some (.dK kvs)) : zbd K H (.ref a) (.type "dict")
  | dT {a : Addr} {kvs : List (List Key × V)} (e : H a = some (.dT kvs)) : zbd K H (.ref a) (.type "dict")
  | ins {a C dx : Addr} {fs : List (Str × V)} (e : H a = some (.ins C dx fs)) (cl : Cls K C) (ha : PySem.W.findIn K (.ref C) "__class__" = some (some (.builtin "object.__class__")))
      (hn : PySem.W.specialIn K (.builtin "object.__class__") "__get__" = some (some (.builtin "getset_descriptor.__get__"))) (htk : PySem.W.takesIn K (.builtin "object.__class__") = some true)
      (hm : PySem.W.mroIn K C (.type "object") = some true) : zbd K H (.ref a) (.ref C)
theorem zou {x : V} {u t : Value} (I : Inv X pins σ H s) (rx : zae x u) (ty : zbd X.K H x t) (e : PySem.W.kitOne X.K t c = some b) (h : ∀ tk, Q (.bool b) { s with toks := tk }) :
    wpAny (model X.prog X.w) A (call (.builtin "isinstance") [u, c]) Q E s := by
  cases ty with
  | non => cases (show u = Value.none from rx); exact PySem.W.kia_one PySem.W.kitx_none I.kIn True.intro e (fun z => nomatch z) h
  | bl y => cases (show u = Value.bool y from rx); exact PySem.W.kia_one PySem.W.kitx_bool I.kIn True.intro e (fun z => nomatch z) h
  | int i => obtain ⟨t, q⟩ := (show ∃ t, u = Value.int i t from rx); cases q; exact PySem.W.kia_one PySem.W.kitx_int I.kIn True.intro e (fun z => nomatch z) h
  | str y => obtain ⟨t, q⟩ := (show ∃ t, u = Value.str y t from rx); cases q; exact PySem.W.kia_one PySem.W.kitx_str I.kIn True.intro e (fun z => nomatch z) h
  | flt y => obtain ⟨t, q⟩ := (show ∃ t, u = Value.float y t from rx); cases q; exact PySem.W.kia_one PySem.W.kitx_float I.kIn True.intro e (fun z => nomatch z) h
  | @lst a xs ea =>
    cases (show u = Value.ref a from rx)
    obtain ⟨_, _, n, _, h1⟩ := (show zay X.prog X.w H s.heap a (.lst xs) from I.hok a _ ea)
    exact PySem.W.kia_one PySem.W.kitx_list I.kIn ⟨_, h1, rfl⟩ e (fun z => nomatch z) h
  | @frz a ob xs ea =>
    cases (show u = Value.ref a from rx)
    obtain ⟨_, _, _, n, _, h1⟩ := (show zay X.prog X.w H s.heap a (.frz ob (.lst xs)) from I.hok a _ ea)
    exact PySem.W.kia_one PySem.W.kitx_list I.kIn ⟨_, h1, rfl⟩ e (fun z => nomatch z) h
  | @tup a xs ea =>
    cases (show u = Value.ref a from rx)
    obtain ⟨_, _, _, p⟩ := (show zay X.prog X.w H s.heap a (.tup xs) from I.hok a _ ea)
    obtain ⟨o, h1, h2, _⟩ := p
    exact PySem.W.kia_one PySem.W.kitx_tuple I.kIn ⟨o, h1, h2⟩ e (fun z => nomatch z) h
  | @dK a kvs ea =>
    cases (show u = Value.ref a from rx)
    obtain ⟨_, _, vs, _, p⟩ := (show zay X.prog X.w H s.heap a (.dK kvs) from I.hok a _ ea)
    obtain ⟨o, es, ep, h1, h2, _⟩ := p
    exact PySem.W.kia_one PySem.W.kitx_dict I.kIn ⟨o, h1, h2.1⟩ e (fun z => nomatch z) h
  | @dT a kvs ea =>
    cases (show u = Value.ref a from rx)
    obtain ⟨_, _, xs, _, o, es, ep, h1, h2, _⟩ := (show zay X.prog X.w H s.heap a (.dT kvs) from I.hok a _ ea)
    exact PySem.W.kia_one PySem.W.kitx_dict I.kIn ⟨o, h1, h2.1⟩ e (fun z => nomatch z) h
  | @ins a C dx fs ea cl ha hn htk hm =>
    cases (show u = Value.ref a from rx)
    obtain ⟨mA, O, _⟩ := zr6 I.hok ea
    obtain ⟨od, J, _⟩ := O.look
    exact PySem.W.kia_one (PySem.W.kitx_own (cl.get _) cl.hd ha hn htk hm) I.kIn J e (fun z => nomatch z) h
end
end L2
namespace L2
open PySem PySem.Spec PyProof.Rows
structure zai (k : Nat) (A : Around) : Prop where
  hd : A.handled = none
  dp : A.depth + 3 * k + 5 < recursionLimit
  un : A.units + 16 * k + 200 < cLine
theorem zai.mono {j k : Nat} {A : Around} (r : zai k A) (h : j <= k) : zai j A := ⟨r.hd, by have := r.dp; omega, by have := r.un; omega⟩
theorem zai.deeper {k : Nat} {A : Around} (r : zai (k + 1) A) (env : Env) : zai k (A.deeper env) :=
  ⟨r.hd, by have := r.dp; show A.depth + 1 + 3 * k + 5 < _; omega, by have := r.un; show A.units + 3 + 16 * k + 200 < _; omega⟩
theorem zai.in1 {k : Nat} {A : Around} (r : zai (k + 1) A) : zai k A.in1 :=
  ⟨r.hd, by have := r.dp; show A.depth + 3 * k + 5 < _; omega, by have := r.un; show A.units + 1 + 16 * k + 200 < _; omega⟩
theorem zng {A : Around} {C : Addr} {us : List Value} {kw : List (Str × Value)} : (A.under (.builtin "type.__call__" ⟨.ref C :: us, kw⟩)).depth = A.depth + 1 := by
  first | rfl | simp [Around.under, Code.weight, Code.isCreation, Code.isGuard, Code.isCaller, Code.frames, Code.isFrame, guardIds]
theorem zrz {A : Around} {C : Addr} {us : List Value} {kw : List (Str × Value)} : (A.under (.builtin "type.__call__" ⟨.ref C :: us, kw⟩)).units = A.units + 1 := by
  first | rfl | simp [Around.under, Code.cUnits, Code.frames, Code.isFrame]
theorem zai.make {k : Nat} {A : Around} (r : zai (k + 1) A) (C : Addr) (us : List Value) (kw : List (Str × Value)) : zai k (A.under (.builtin "type.__call__" ⟨.ref C :: us, kw⟩)) :=
  ⟨r.hd, by have := r.dp; rw [zng]; omega, by have := r.un; rw [zrz]; omega⟩
theorem zai.depth {k : Nat} {A : Around} (r : zai k A) : A.depth < recursionLimit := by have := r.dp; omega
theorem zai.units {k : Nat} {A : Around} (r : zai k A) : A.units + 64 < cLine := by have := r.un; omega
noncomputable def zhg : TA := fun _ H Q => Q [] H
noncomputable def zih (ta : TE) (tr : TA) : TA := fun σ H Q => ta σ H fun x H1 => tr σ H1 fun xs H2 => Q (x :: xs) H2
section
variable {X : Cx} {e : Expr} {es : List Expr} {te : TE} {t : TA} {pos : Pos}
theorem zcs : PA X [] zhg := fun _ _ _ _ H Q I h => Calls.spliced_nil ⟨[], H, I, .nil, h⟩
theorem zb7 (ha : PE X e te) (hr : PA X es t) (hs : starEach (e :: es) X.env = (false, eval e X.env) :: starEach es X.env := by rfl) : PA X (e :: es) (zih te t) := by
  intro pos pins s σ H Q I h
  rw [hs]
  show wpAny _ _ (spliced ((false, eval e X.env) :: backTo pos (starEach es X.env))) _ _ s
  refine Calls.spliced_cons (thn (ha pins s σ H _ I h) fun u s1 ⟨x, H1, I1, r1, q1⟩ => ?_)
  exact thn (hr pos pins s1 σ H1 _ I1 q1) fun us s2 ⟨xs, H2, I2, r2, q2⟩ => ⟨x :: xs, H2, I2, .cons r1 r2, q2⟩
noncomputable def zo9 (t : TA) : TE := fun σ H Q => t σ H fun xs H1 => xs.length <= sizeLine /\ ∀ p, H1 p = none -> Q (.ref p) (upd H1 p (.lst xs))
theorem ztc (h : PA X es t) : PE X (.List es pos) (zo9 t) := by
  intro pins s σ H Q I hq
  refine wpAny_List_spliced (thn (h pos pins s σ H _ I hq) fun us s1 ⟨xs, H1, I1, r, z, q⟩ => ⟨by rw [<- r.length]; exact z, ?_⟩)
  have hf : H1 s1.heap.objs.size = none := I1.hok.fresh (Nat.le_refl _)
  refine ⟨.ref s1.heap.objs.size, upd H1 s1.heap.objs.size (.lst xs), I1.laid (t' := s1.toks) (fun b u e => Heap.get?_push_of_some _ e) (Nat.le_refl _) ?_, rfl, q _ hf⟩
  exact ⟨z, us, 0, r, Heap.get?_push_size _ rfl⟩
end
noncomputable abbrev Sp := List V -> Hp -> VK -> XK -> Prop
noncomputable abbrev CXT := List Env -> Hp -> Shared -> XK -> Value -> Shared -> Prop
structure zb4 (P : Program) (w : World) (K : PySem.W.Frag) (mg : Str -> Option Value) (base : Heap) (A : Around) (outer : List Env) (s : Shared) (H : Hp) : Prop where
  frames : A.frames = some outer
  mod : Mod K mg base
  bs : ∀ b o, base.get? b = some o -> s.heap.get? b = some o /\ H b = none
  bsz : base.objs.size <= s.heap.objs.size
  funs : s.heap.FunFrames base outer
  frf : ∀ b ∈ frs outer, H b = none
  hok : HOk P w H s.heap
  bare : AllBare s.gens
noncomputable def CE (outer : List Env) (P : Program) (w : World) (H : Hp) (s : Shared) (Q : VK) (u : Value) (s' : Shared) : Prop :=
  ∃ v H', s'.os = s.os /\ AllBare s'.gens /\ Un (frs outer) [] H H' s.heap s'.heap /\ HOk P w H' s'.heap /\ zae v u /\ Q v H'
noncomputable def CR (CX : CXT) (outer : List Env) (P : Program) (w : World) (H : Hp) (s : Shared) (Q : VK) (E : XK) (r : Result) (s' : Shared) : Prop :=
  match r with
  | .ok (.ret u) => CE outer P w H s Q u s'
  | .ok _ => False
  | .error e => CX outer H s E e s'
structure zak (P : Program) (w : World) (K : PySem.W.Frag) (mg : Str -> Option Value) (base : Heap) (CX : CXT) (k : Nat) (f : Addr) (fd : FuncData) (ps : List Str) (sp : Sp) : Prop where
  len : ∀ vs H Q E, sp vs H Q E -> vs.length = ps.length
  run : ∀ (A : Around) (outer : List Env) (s : Shared) (H : Hp) (args : Args) (us : List Value) (vs : List V) (Q : VK) (E : XK), zai k A -> zb4 P w K mg base A outer s H -> BindsTo s fd args (ps.zip us) -> zad vs us -> sp vs H Q E ->
    codeAny (model P w) A (.call (.ref f) args) (CR CX outer P w H s Q E) s
theorem zak.mono {P : Program} {w : World} {K : PySem.W.Frag} {mg : Str -> Option Value} {base : Heap} {CX : CXT} {j k : Nat} {f : Addr} {fd : FuncData} {ps : List Str} {sp : Sp} (F : zak P w K mg base CX j f fd ps sp) (h : j <= k) :
    zak P w K mg base CX k f fd ps sp := ⟨F.len, fun A outer s H args us vs Q E hr => F.run A outer s H args us vs Q E (hr.mono h)⟩
theorem zak.imp {P : Program} {w : World} {K : PySem.W.Frag} {mg : Str -> Option Value} {base : Heap} {CX : CXT} {k : Nat} {f : Addr} {fd : FuncData} {ps : List Str} {sp sp' : Sp} (F : zak P w K mg base CX k f fd ps sp)
    (h : ∀ vs H Q E, sp' vs H Q E -> sp vs H Q E) : zak P w K mg base CX k f fd ps sp' :=
  ⟨fun vs H Q E q => F.len vs H Q E (h _ _ _ _ q), fun A outer s H args us vs Q E hr he hb hv hs => F.run A outer s H args us vs Q E hr he hb hv (h _ _ _ _ hs)⟩
theorem zb4.make {P : Program} {w : World} {K : PySem.W.Frag} {mg : Str -> Option Value} {base : Heap} {A : Around} {outer : List Env} {s : Shared} {H : Hp} (e : zb4 P w K mg base A outer s H) (C : Addr) (us : List Value) (kw : List (Str × Value)) :
    zb4 P w K mg base (A.under (.builtin "type.__call__" ⟨.ref C :: us, kw⟩)) outer s H := ⟨by first | exact e.frames | (simpa [Around.under, Code.envs, Code.isFrame, pushEnvs] using e.frames), e.mod, e.bs, e.bsz, e.funs, e.frf, e.hok, e.bare⟩
theorem zb4.in1 {P : Program} {w : World} {K : PySem.W.Frag} {mg : Str -> Option Value} {base : Heap} {A : Around} {outer : List Env} {s : Shared} {H : Hp} (e : zb4 P w K mg base A outer s H) :
    zb4 P w K mg base A.in1 outer s H := ⟨e.frames, e.mod, e.bs, e.bsz, e.funs, e.frf, e.hok, e.bare⟩
section
variable {X : Cx} {pins : List (Addr × Obj)} {σ : St} {H : Hp} {s s' : Shared}
theorem Inv.env0 (I : Inv X pins σ H s) : zb4 X.prog X.w X.K X.mg X.base X.A X.stack s H :=
  ⟨I.ok.frames, I.ok.mod, I.bs, Nat.le_trans I.ok.bsz I.sz, I.stack, I.stkFree, I.hok, I.bare⟩
theorem Inv.after {Q : VK} {u : Value} (I : Inv X pins σ H s) (h : CE X.stack X.prog X.w H s Q u s') : EP X pins σ Q u s' := by
  obtain ⟨v, H', os, bare, un, hok, r, q⟩ := h
  obtain ⟨hh, g, d, t, os'⟩ := s'
  obtain rfl : os' = s.os := os
  exact ⟨v, H', I.call (h' := hh) (g' := g) (d' := d) (t' := t) (ch := []) un hok bare (fun b z => absurd z (by simp)), r, q⟩
end
noncomputable def zrc (sp : Sp) (dvs : List V) (E : XK) (t : TA) : TE := fun σ H Q => t σ H fun vs H1 => sp (vs ++ dvs) H1 Q E
noncomputable def za3 (K : PySem.W.Frag) (fd : FuncData) (ps : List Str) (ds : List Value) : Prop :=
  ∀ (s : Shared) (us : List Value), K.In s.heap -> (us ++ ds).length = ps.length -> BindsTo s fd ⟨us, []⟩ (ps.zip (us ++ ds))
theorem za3.all {K : PySem.W.Frag} {fd : FuncData} {ps : List Str} (h : ∀ us : List Value, us.length = ps.length -> bindArgs fd ⟨us, []⟩ = pure (ps.zip us)) : za3 K fd ps [] := fun s us _ hl => by
  rw [List.append_nil] at hl ⊢
  exact .of_eq (h us hl)
noncomputable def zhj (CX : CXT) (X : Cx) (E : XK) : Prop := ∀ (pins : List (Addr × Obj)) (σ : St) (H : Hp) (s : Shared) (e : Value) (s' : Shared), Inv X pins σ H s -> CX X.stack H s E e s' -> X.xe e s'
section
variable {X : Cx} {CX : CXT} {k : Nat} {f C : Addr} {fd : FuncData} {ps : List Str} {sp : Sp} {dvs : List V} {ds : List Value} {E : XK} {x m : Str} {p pos apos : Pos} {e o : Expr} {es : List Expr} {ta : TE} {t : TA}
theorem zrg {pins : List (Addr × Obj)} {σ : St} {H : Hp} {s : Shared} {Q : VK} {us : List Value} {vs : List V} (F : zak X.prog X.w X.K X.mg X.base CX k f fd ps sp) (hr : zai k X.A) (hb : za3 X.K fd ps ds) (hd : zad dvs ds) (hx : zhj CX X E)
    (I : Inv X pins σ H s) (r : zad vs us) (h : sp (vs ++ dvs) H Q E) : wpAny (model X.prog X.w) X.A (call (.ref f) us) (EP X pins σ Q) X.xe s := by
  have r2 : zad (vs ++ dvs) (us ++ ds) := r.append hd
  have hl : (us ++ ds).length = ps.length := by rw [<- r2.length]; exact F.len _ _ _ _ h
  refine wpAny_call (codeAny_mono (F.run X.A X.stack s H ⟨us, []⟩ (us ++ ds) (vs ++ dvs) Q E hr I.env0 (hb s us I.kIn hl) r2 h) fun r s' hq => ?_)
  cases r with
  | error e => exact hx pins σ H s e s' I hq
  | ok fl =>
    cases fl with
    | ret u => exact I.after hq
    | next => exact False.elim hq
    | brk => exact False.elim hq
    | cont => exact False.elim hq
theorem zes (F : zak X.prog X.w X.K X.mg X.base CX k f fd ps sp) (hr : zai k X.A) (hg : Gl X x) (hm : X.mg x = some (.ref f)) (hk : PySem.W.keepIn X.K (.ref f) = true) (hb : za3 X.K fd ps ds) (hd : zad dvs ds) (hx : zhj CX X E)
    (ha : PA X (e :: es) t) (hdb : (x == ("__debug__" : Str)) = false := by decide) (he : starEach (e :: es) X.env = (false, eval e X.env) :: starEach es X.env := by rfl) (hpl : (backTo pos (starEach es X.env)).any (·.1) = false := by rfl) :
    PE X (.Call (.Name x p) (e :: es) [] pos) (zrc sp dvs E t) := by
  intro pins s σ H Q I h
  refine wpAny_Call_Name_kw (zky I hg hm ?_ hdb)
  refine PySem.W.callWith_K (h₀ := X.base) I.ok.mod.kin hk (thn (ha pos pins s σ H _ I h) fun us s1 ⟨vs, H1, I1, r, q⟩ => ⟨I1.kIn, ?_⟩) he hpl
  exact zrg F hr hb hd hx I1 r q
end
section
variable {X : Cx} {CX : CXT} {k : Nat} {f C : Addr} {fd : FuncData} {ps ks : List Str} {sp : Sp} {E : XK} {x m : Str} {p pos apos kpos : Pos} {e o : Expr} {es : List Expr} {kws : List Keyword} {te ta : TE} {t tk : TA} {nm : Option Str}
variable {g : List Value -> List Value -> List Value} {gV : List V -> List V -> List V}
end
structure zbm (N P : List Str) (sc : Scope) : Prop where
  kind : sc.kind = .function
  co : sc.isCoroutine = false
  gen : sc.isGenerator = false
  nd : N.Nodup
  pre : N.take P.length = P
  par : ∀ x ∈ P, sc.names.lookup x = some .local \/ sc.names.lookup x = some .cell
  nofree : ∀ y ∈ sc.names, y.2 ≠ .free
theorem zkd {kindOf : Str -> Option NameKind} {x : Str} : ∀ {binds : List (Str × Value)} {m : Str -> Option Value}, (∀ v, (x, v) ∉ binds) -> bindL kindOf binds m x = m x
  | [], _, _ => rfl
  | (n, v) :: r, m, h => by
    unfold bindL
    rw [zkd fun w hw => h w (List.mem_cons_of_mem _ hw)]
    split
    · have : x ≠ n := by rintro rfl; exact h v List.mem_cons_self
      simp [this]
    · rfl
theorem zlt {kindOf : Str -> Option NameKind} {x : Str} : ∀ {binds : List (Str × Value)} {m : Str -> Option Value}, (∀ v, (x, v) ∉ binds) -> bindC kindOf binds m x = m x
  | [], _, _ => rfl
  | (n, v) :: r, m, h => by
    unfold bindC
    rw [zlt fun w hw => h w (List.mem_cons_of_mem _ hw)]
    split
    · rfl
    · have : x ≠ n := by rintro rfl; exact h v List.mem_cons_self
      simp [this]
theorem zl9 {kindOf : Str -> Option NameKind} {x : Str} {v : Value} : ∀ {P : List Str} {vs : List Value} {i : Nat} {m : Str -> Option Value}, P.Nodup -> P[i]? = some x -> vs[i]? = some v -> kindOf x = some .local ->
    bindL kindOf (P.zip vs) m x = some v
  | [], _, _, _, _, h, _, _ => by simp at h
  | _ :: _, [], _, _, _, _, h, _ => by simp at h
  | p :: P, w :: vs, 0, m, nd, h1, h2, hk => by
    simp at h1 h2; subst h1; subst h2
    show bindL kindOf ((p, w) :: P.zip vs) m p = _
    unfold bindL
    rw [zkd fun v hv => (List.nodup_cons.mp nd).1 (List.of_mem_zip hv).1, if_pos hk]
    simp
  | p :: P, w :: vs, i + 1, m, nd, h1, h2, hk => by
    show bindL kindOf ((p, w) :: P.zip vs) m x = _
    unfold bindL
    exact zl9 (i := i) (List.nodup_cons.mp nd).2 (by simpa using h1) (by simpa using h2) hk
theorem zkm {kindOf : Str -> Option NameKind} {x : Str} {v : Value} : ∀ {P : List Str} {vs : List Value} {i : Nat} {m : Str -> Option Value}, P.Nodup -> P[i]? = some x -> vs[i]? = some v -> kindOf x ≠ some .local ->
    bindC kindOf (P.zip vs) m x = some v
  | [], _, _, _, _, h, _, _ => by simp at h
  | _ :: _, [], _, _, _, _, h, _ => by simp at h
  | p :: P, w :: vs, 0, m, nd, h1, h2, hk => by
    simp at h1 h2; subst h1; subst h2
    show bindC kindOf ((p, w) :: P.zip vs) m p = _
    unfold bindC
    rw [zlt fun v hv => (List.nodup_cons.mp nd).1 (List.of_mem_zip hv).1, if_neg hk]
    simp
  | p :: P, w :: vs, i + 1, m, nd, h1, h2, hk => by
    show bindC kindOf ((p, w) :: P.zip vs) m x = _
    unfold bindC
    exact zkm (i := i) (List.nodup_cons.mp nd).2 (by simpa using h1) (by simpa using h2) hk
noncomputable def start (N : List Str) (vs : List V) : St := vs.map some ++ List.replicate (N.length - vs.length) none
noncomputable def zcb (CX : CXT) (P : Program) (w : World) (K : PySem.W.Frag) (mg : Str -> Option Value) (base : Heap) (N : List Str) (qual : Str) (scope : Scope) (f : Addr) (cd : Value) (A : Around) (outer : List Env) (s : Shared) (H : Hp) (E : XK) : Cx where
  prog := P
  w := w
  K := K
  mg := mg
  base := base
  A := A.deeper (envOfC qual scope s.heap.objs.size f cd)
  N := N
  s₀ := s
  H₀ := H
  env := envOfC qual scope s.heap.objs.size f cd
  outer := outer
  stack := envOfC qual scope s.heap.objs.size f cd :: outer
  ex := []
  calm := true
  fn := fun _ => true
  pn := []
  xe := fun e s' => wpAny (model P w) (A.deeper (envOfC qual scope s.heap.objs.size f cd)) (leaving (envOfC qual scope s.heap.objs.size f cd) e) (fun _ s'' => CX outer H s E e s'') (fun e' s'' => CX outer H s E e' s'') s'
theorem zj1 {sc : Scope} {n : Nat} {x : Str} (h : sc.names.lookup x = some .cell) : ∃ c, (cellsFrom n sc.names []).lookup x = some c := by
  have q := PySem.W.cellsFrom_some sc.names n [] (.inl h)
  exact Option.isSome_iff_exists.mp q
theorem zm1 {CX : CXT} {P : Program} {w : World} {K : PySem.W.Frag} {mg : Str -> Option Value} {base : Heap} {N ps : List Str} {qual : Str} {scope : Scope} {f : Addr} {cd : Value} {A : Around} {outer : List Env} {s s1 : Shared} {H : Hp} {E : XK} {us : List Value} {vs : List V}
    (S : zbm N ps scope) (hd : A.handled = none) (e0 : zb4 P w K mg base A outer s H) (hl : vs.length = ps.length) (r : zad vs us)
    (x : InCallC s s.heap.objs.size (bindL (envOfC qual scope s.heap.objs.size f cd).kindOf (ps.zip us) fun _ => none) (cellsFrom (s.heap.objs.size + 1) scope.names []) (bindC (envOfC qual scope s.heap.objs.size f cd).kindOf (ps.zip us) fun _ => none) s1) :
    Inv (zcb CX P w K mg base N qual scope f cd A outer s H E) [] (start N vs) H s1 := by
  have hpl : ps.length <= N.length := by have := congrArg List.length S.pre; rw [List.length_take] at this; omega
  obtain ⟨h1, tk, rfl, hk⟩ := x.done
  have noA : ∀ b : Addr, b ∉ (zcb CX P w K mg base N qual scope f cd A outer s H E).ex := fun b z => absurd (show b ∈ ([] : List Addr) from z) (by simp)
  refine ⟨⟨e0.mod, S.kind, rfl, rfl, Nat.le_refl _, fun y z c h1 h2 => ?_, fun y hy => ?_, fun y c _ h => ?_, fun _ => hd, Around.frames_deeper e0.frames, .inr ⟨rfl, rfl⟩, fun b z => absurd z (noA b), e0.bs, e0.bsz, fun b _ _ => noA b, fun b z => absurd z (noA b), e0.funs, e0.frf⟩,
    rfl, e0.bare, Un.kept hk, ⟨_, x.toInCall.ns, fun i y v h1 h2 h3 => ?_⟩, fun y c h => ⟨_, x.cell y c h⟩, e0.hok.fresh (Nat.le_refl _), fun y c h => ?_, fun p hp => absurd (show p ∈ ([] : List (Addr × Obj)) from hp) (by simp), e0.hok.kept hk, ?_⟩
  · exact name_of_addr x.apart (PySem.mem_of_lookup h1) (PySem.mem_of_lookup h2)
  · have hy : scope.names.lookup y = some .cell \/ scope.names.lookup y = some .free := hy
    rcases hy with hy | hy
    · exact zj1 hy
    · exact absurd rfl (S.nofree _ (PySem.mem_of_lookup hy))
  · exact Nat.le_of_lt (x.above y c (PySem.mem_of_lookup h))
  · have hi : i < vs.length := by
      unfold start at h2
      by_cases hi : i < vs.length
      · exact hi
      · rw [List.getElem?_append_right (by simpa using hi)] at h2
        rw [List.getElem?_replicate] at h2
        split at h2 <;> cases h2
    have ha : vs[i]? = some v := by
      unfold start at h2
      rw [List.getElem?_append_left (by simpa using hi), List.getElem?_map] at h2
      cases e : vs[i]? with
      | none => rw [e] at h2; cases h2
      | some a => rw [e] at h2; cases h2; rfl
    obtain ⟨u, hu, rv⟩ := r.get ha
    have hp : ps[i]? = some y := by
      rw [<- S.pre, List.getElem?_take_of_lt (by omega)]; exact h1
    have ndP : ps.Nodup := by rw [<- S.pre]; exact S.nd.sublist (List.take_sublist _ _)
    refine ⟨u, rv, ?_⟩
    rcases S.par y (List.mem_of_getElem? hp) with k | k
    · exact .inl ⟨k, zl9 ndP hp hu k⟩
    · obtain ⟨c, e⟩ := zj1 (n := s.heap.objs.size + 1) k
      refine .inr ⟨.inl k, c, e, ?_⟩
      have q := x.cell y c e
      rw [zkm ndP hp hu (by show scope.names.lookup y ≠ _; rw [k]; decide)] at q
      exact q
  · exact e0.hok.fresh (Nat.le_of_lt (x.above y c (PySem.mem_of_lookup h)))
  · unfold start
    show _ = N.length
    rw [List.length_append, List.length_map, List.length_replicate]
    omega
theorem zq6 {CX : CXT} {P : Program} {w : World} {K : PySem.W.Frag} {mg : Str -> Option Value} {base : Heap} {k : Nat} {f : Addr} {name qual : Str} {params : Arguments} {body : List Stmt} {scope : Scope} {dV kV doc pm cdv ct oc : Value} {an od : Option Addr}
    {osl : Array (Option Value)} {N ps : List Str} {sp : Sp} (lk : K.lookup f = some ⟨oc, od, .func (PySem.W.fnOf name qual params body scope dV kV doc pm an cdv ct), osl⟩) (hcd : PySem.W.codeIn K cdv qual = true) (S : zbm N ps scope)
    (len : ∀ vs H Q E, sp vs H Q E -> vs.length = ps.length)
    (hbody : ∀ (A : Around) (outer : List Env) (s : Shared) (H : Hp) (vs : List V) (Q : VK) (E : XK), zai k (A.deeper (envOfC qual scope s.heap.objs.size f cdv)) -> sp vs H Q E ->
      ∃ t, PSs (zcb CX P w K mg base N qual scope f cdv A outer s H E) body t /\ t { nx := fun _ H' => Q .non H', rt := Q } (start N vs) H) :
    zak P w K mg base CX (k + 1) f (PySem.W.fnOf name qual params body scope dV kV doc pm an cdv ct) ps sp := by
  refine ⟨len, fun A outer s H args us vs Q E hr e0 hb r hsp => ?_⟩
  have hl := len _ _ _ _ hsp
  have KX : K.In s.heap := e0.mod.kin.keeps fun b o e => (e0.bs b o e).1
  have lim : s.heap.NoLimit := e0.mod.nolimit.keeps fun b o e => (e0.bs b o e).1
  have hkind : ∀ y ∈ ps.zip us, scope.names.lookup y.1 = some .local \/ (scope.names.lookup y.1 = some .cell /\ ((cellsFrom (s.heap.objs.size + 1) scope.names []).lookup y.1).isSome = true) := fun ⟨n, v⟩ hy => by
    rcases S.par n (List.of_mem_zip hy).1 with q | q
    · exact .inl q
    · exact .inr ⟨q, PySem.W.cellsFrom_some _ _ _ (.inl q)⟩
  refine codeAny_call_function hr.depth (KX _ _ lk) rfl S.co S.gen rfl (PySem.W.codeRec_of KX hcd) (hb _ _ _ _ ?_)
  refine wpAny_newFunctionEnv_cells S.kind hkind fun env he s1 x => ?_
  subst he
  refine ⟨lim.keeps x.toInCall.keep, codeAny_func ?_⟩
  obtain ⟨t, ht, hq⟩ := hbody A outer s H vs Q E (hr.deeper _) hsp
  have I : Inv (zcb CX P w K mg base N qual scope f cdv A outer s H E) [] (start N vs) H s1 := zm1 S hr.hd e0 hl r x
  refine wpAny_mono (ht [] s1 (start N vs) H _ I hq) (fun fl s' hs => ?_) fun e s' hs => hs
  have fin : ∀ {σ' : St} {H' : Hp} {v : V} {u : Value}, Inv (zcb CX P w K mg base N qual scope f cdv A outer s H E) [] σ' H' s' -> zae v u -> Q v H' -> CE outer P w H s Q u s' :=
    fun {σ' H' v u} J rv q => ⟨v, H', J.os, J.bare, J.base, J.hok, rv, q⟩
  cases fl with
  | ret u =>
    obtain ⟨v, σ', H', J, rv, q⟩ := hs
    exact fin J rv q
  | next =>
    obtain ⟨σ', H', J, q⟩ := hs
    exact fin (v := V.non) (u := Value.none) J rfl q
  | brk =>
    obtain ⟨_, _, _, q⟩ := hs
    exact False.elim q
  | cont =>
    obtain ⟨_, _, _, q⟩ := hs
    exact False.elim q
end L2
namespace L2
open PySem PySem.Spec PyProof.Rows
section
variable {X : Cx} {x : Str} {p pos : Pos} {e : Expr} {es : List Expr} {t : TA} {id T : String} {r : List V -> Hp -> VK -> Prop}
noncomputable def tCB (r : List V -> Hp -> VK -> Prop) (t : TA) : TE := fun σ H Q => t σ H fun vs H1 => r vs H1 Q
theorem zja (hc : zbk X (.builtin id) r) (hg : Gl X x) (hm : X.mg x = none) (hv : bootBuiltins x = some (.builtin id)) (ha : PA X (e :: es) t) (hn : x ≠ "__name__" := by decide) (hdb : (x == ("__debug__" : Str)) = false := by decide)
    (he : starEach (e :: es) X.env = (false, eval e X.env) :: starEach es X.env := by rfl) (hpl : (backTo pos (starEach es X.env)).any (·.1) = false := by rfl) : PE X (.Call (.Name x p) (e :: es) [] pos) (tCB r t) := by
  intro pins s σ H Q I h
  refine wpAny_Call_Name_kw (zfm I hg hm hv ?_ hn hdb)
  exact PyProof.Rows.callWith_builtin1 (thn (ha pos pins s σ H _ I h) fun us s1 ⟨vs, H1, I1, r1, q1⟩ => hc pins s1 σ H1 vs us Q I1 r1 q1) he hpl
end
end L2
namespace HT
open PySem PyProof.Rows
section
open PySem.SeqAt
open PySem.AutoSeq1 (wpAny_loadPart')
open PySem.MeetsSeq PySem.MeetsSeq2 PySem.MeetsSeq3
end
section
variable {prog : Program} {w : World} {A : Around} {E : Value -> Shared -> Prop} {s : Shared}
noncomputable def sIx (n d : Nat) : Option Int -> Nat
  | none => d
  | some v => if v < 0 then (v + (n : Int)).toNat else min v.toNat n
end
end HT
namespace L2
open PySem PySem.Spec PyProof.Rows
noncomputable abbrev TO := St -> Hp -> (Option Int -> Hp -> Prop) -> Prop
noncomputable def PO (X : Cx) (e : Option Expr) (t : TO) : Prop :=
  ∀ (pins : List (Addr × Obj)) (s : Shared) (σ : St) (H : Hp) (Q : Option Int -> Hp -> Prop), Inv X pins σ H s -> t σ H Q ->
    wpAny (model X.prog X.w) X.A (evalPart e X.env) (fun u s' => ∃ o H', Inv X pins σ H' s' /\ IsPart u o /\ Q o H') X.xe s
noncomputable def zmq : TO := fun _ H Q => Q none H
noncomputable def zot (t : TE) : TO := fun σ H Q => t σ H fun x H1 => ∃ i, x = .int i /\ Q (some i) H1
section
variable {X : Cx} {e : Expr} {te : TE} {lo hi : Option Expr} {tl th : TO} {pos p2 : Pos}
theorem zqr : PO X none zmq := by
  intro pins s σ H Q I h
  rw [evalPart_none]
  exact wpAny_pure ⟨none, H, I, .none, h⟩
theorem zpl (h : PE X e te) : PO X (some e) (zot te) := by
  intro pins s σ H Q I hw
  rw [evalPart_some]
  refine thn (h pins s σ H _ I hw) fun u s1 ⟨x, H1, I1, r1, q1⟩ => ?_
  obtain ⟨i, rfl, q⟩ := q1
  obtain ⟨t, rfl⟩ := r1
  exact ⟨some i, H1, I1, .int i t, q⟩
noncomputable def SlR (X : Cx) (r : V -> Option Int -> Option Int -> Hp -> VK -> Prop) : Prop :=
  ∀ (pins : List (Addr × Obj)) (s : Shared) (σ : St) (H : Hp) (x : V) (v vl vu : Value) (lo hi : Option Int) (sl : Addr) (Q : VK), Inv X pins σ H s -> zae x v -> s.heap.IsSliceOf sl vl vu .none -> IsPart vl lo -> IsPart vu hi -> r x lo hi H Q ->
    ∃ T id, typeLookup (.type T) "__getitem__" = pure (some (.builtin id)) /\ s.TypeIs v T /\ wpAny (model X.prog X.w) X.A (getItem v (.ref sl)) (EP X pins σ Q) X.xe s
theorem SlR.or {r r' : V -> Option Int -> Option Int -> Hp -> VK -> Prop} (h : SlR X r) (h' : SlR X r') : SlR X (fun x lo hi H Q => r x lo hi H Q \/ r' x lo hi H Q) := by
  intro pins s σ H x v vl vu lo hi sl Q I rx hs pl pu q
  rcases q with q | q
  · exact h pins s σ H x v vl vu lo hi sl Q I rx hs pl pu q
  · exact h' pins s σ H x v vl vu lo hi sl Q I rx hs pl pu q
noncomputable def tSl (r : V -> Option Int -> Option Int -> Hp -> VK -> Prop) (te : TE) (tl th : TO) : TE := fun σ H Q => te σ H fun x H1 => tl σ H1 fun l H2 => th σ H2 fun u H3 => r x l u H3 Q
theorem zqz {r : V -> Option Int -> Option Int -> Hp -> VK -> Prop} (hr : SlR X r) (he : PE X e te) (hl : PO X lo tl) (hu : PO X hi th) : PE X (.Subscript e (.Slice lo hi none p2) pos) (tSl r te tl th) := by
  intro pins s σ H Q I h
  refine Subscript_ (thn (he pins s σ H _ I h) fun v s1 ⟨x, H1, I1, r1, q1⟩ => ?_)
  refine wpAny_Slice (thn (hl pins s1 σ H1 _ I1 q1) fun vl s2 ⟨l, H2, I2, pl, q2⟩ => thn (hu pins s2 σ H2 _ I2 q2) fun vu s3 ⟨u, H3, I3, pu, q3⟩ => ?_)
  rw [evalPart_none]
  refine wpAny_pure ?_
  have I4 : Inv X pins σ H3 { s3 with heap := s3.heap.push { cls := .type "slice", data := .fields #[vl, vu, .none] } } := I3.kept (t' := s3.toks) fun b ob q => Heap.get?_push_of_some _ q
  obtain ⟨T, id, hT, ht, hg⟩ := hr pins { s3 with heap := s3.heap.push { cls := .type "slice", data := .fields #[vl, vu, .none] } } σ H3 x v vl vu l u s3.heap.objs.size Q I4 r1 (Heap.IsSliceOf.new ..) pl pu q3
  show wpAny (model X.prog X.w) X.A (subscriptTail e (.Slice lo hi none p2) v (.ref s3.heap.objs.size)) (EP X pins σ Q) X.xe { s3 with heap := s3.heap.push { cls := .type "slice", data := .fields #[vl, vu, .none] } }
  exact tail_any (ops := [.ref s3.heap.objs.size, v]) ht hT hg (by with_unfolding_all rfl)
noncomputable def zck (xs : List V) (lo hi : Option Int) : List V := (xs.drop (HT.sIx xs.length 0 lo)).take (HT.sIx xs.length xs.length hi - HT.sIx xs.length 0 lo)
theorem zss (xs : List V) (lo hi : Option Int) : (zck xs lo hi).length <= xs.length := by
  unfold zck
  rw [List.length_take, List.length_drop]
  omega
end
end L2
namespace L2
open PySem PySem.Spec PyProof.Rows
noncomputable def ixN (n : Nat) (i : Int) : Option Nat := if 0 <= i then (if i < n then some i.toNat else none) else if -(n : Int) <= i then some (i + n).toNat else none
noncomputable def atI {α : Type} (xs : List α) (i : Int) : Option α := (ixN xs.length i).bind fun j => xs[j]?
theorem zji {n : Nat} {i : Int} {j : Nat} (h : ixN n i = some j) : seqIndex? i n = some j /\ j < n /\ -(n : Int) <= i /\ i < n := by
  unfold ixN at h
  by_cases h0 : 0 <= i
  · rw [if_pos h0] at h
    by_cases h1 : i < n
    · rw [if_pos h1] at h
      have e : i.toNat = j := Option.some.inj h
      exact ⟨by rw [seqIndex_of h0 h1, e], by omega, by omega, h1⟩
    · rw [if_neg h1] at h; cases h
  · rw [if_neg h0] at h
    by_cases h1 : -(n : Int) <= i
    · rw [if_pos h1] at h
      have e : (i + n).toNat = j := Option.some.inj h
      exact ⟨by rw [seqIndex_neg (by omega) h1, e], by omega, h1, by omega⟩
    · rw [if_neg h1] at h; cases h
theorem zlg {α : Type} {xs : List α} {i : Int} {v : α} (h : atI xs i = some v) : ∃ j, seqIndex? i xs.length = some j /\ xs[j]? = some v /\ j < xs.length /\ -(xs.length : Int) <= i /\ i < xs.length := by
  unfold atI at h
  cases e : ixN xs.length i with
  | none => rw [e] at h; cases h
  | some j =>
    rw [e] at h
    obtain ⟨h1, h2, h3, h4⟩ := zji e
    exact ⟨j, h1, h, h2, h3, h4⟩
noncomputable def zjj (b : Expr) : Prop := ∀ o i, subscripted b false o i = operate [o, i] (getItem o i)
noncomputable def IxR (X : Cx) (r : R2) : Prop :=
  ∀ (value slice : Expr) (pins : List (Addr × Obj)) (s : Shared) (σ : St) (H : Hp) (x y : V) (v u : Value) (Q : VK), Inv X pins σ H s -> zae x v -> zae y u -> r x y H Q ->
    subscripted slice false v u = operate [v, u] (getItem v u) -> wpAny (model X.prog X.w) X.A (subscriptTail value slice v u) (EP X pins σ Q) X.xe s
noncomputable def MtR (X : Cx) (id : String) (r : V -> List V -> Hp -> VK -> Prop) : Prop :=
  ∀ (pins : List (Addr × Obj)) (s : Shared) (σ : St) (H : Hp) (x : V) (xs : List V) (v : Value) (us : List Value) (Q : VK), Inv X pins σ H s -> zae x v -> zad xs us -> r x xs H Q ->
    wpAny (model X.prog X.w) X.A (call (.builtin id) (v :: us)) (EP X pins σ Q) X.xe s
section
variable {X : Cx} {a b : Expr} {ta tb : TE} {pos : Pos}
theorem IxR.or {r r' : R2} (h : IxR X r) (h' : IxR X r') : IxR X (fun x y H Q => r x y H Q \/ r' x y H Q) := by
  intro value slice pins s σ H x y v u Q I rx ry q hs
  rcases q with q | q
  · exact h value slice pins s σ H x y v u Q I rx ry q hs
  · exact h' value slice pins s σ H x y v u Q I rx ry q hs
theorem MtR.or {id : String} {r r' : V -> List V -> Hp -> VK -> Prop} (h : MtR X id r) (h' : MtR X id r') : MtR X id (fun x xs H Q => r x xs H Q \/ r' x xs H Q) := by
  intro pins s σ H x xs v us Q I rx rs q
  rcases q with q | q
  · exact h pins s σ H x xs v us Q I rx rs q
  · exact h' pins s σ H x xs v us Q I rx rs q
theorem zpa {r : R2} (hr : IxR X r) (ha : PE X a ta) (hb : PE X b tb) (hs : zjj b) : PE X (.Subscript a b pos) (tOp r ta tb) := by
  intro pins s σ H Q I h
  exact Subscript_ (zgh ha hb I h fun v u s2 x y H2 I2 rx ry q => hr a b pins s2 σ H2 x y v u Q I2 rx ry q (hs _ _))
noncomputable def zp7 (K : PySem.W.Frag) : R2 := fun x y H Q => ∃ p xs i v, x = .ref p /\ y = .int i /\ SqL K H p xs /\ atI xs i = some v /\ Q v H
noncomputable def zp6 (K : PySem.W.Frag) : R2 := fun x y H Q => ∃ p xs i v, x = .ref p /\ y = .int i /\ SqT K H p xs /\ atI xs i = some v /\ Q v H
theorem zqd : IxR X (zp7 X.K) := by
  intro value slice pins s σ H x y v u Q I rx ry h hs
  obtain ⟨p, xs, i, z, rfl, rfl, hq, he, q⟩ := h
  cases rx
  obtain ⟨t, rfl⟩ := ry
  obtain ⟨its, r, pl, hz⟩ := I.list hq
  obtain ⟨j, h1, h2, h3, h4, h5⟩ := zlg he
  obtain ⟨w, ew, rw'⟩ := r.get h2
  have hl := r.length
  have hn := zd2
  have fin : EP X pins σ Q w s := ⟨z, H, I, rw', q⟩
  by_cases h0 : 0 <= i
  · have hj : i.toNat = j := by
      rw [seqIndex_of h0 h5] at h1
      exact Option.some.inj h1
    exact item_listR pl.isList h0 (by omega) (by rw [hj]; simpa using ew) fin hs
  · have hj : (i + (its.toArray.size : Int)).toNat = j := by
      rw [seqIndex_neg (by omega) h4] at h1
      rw [List.size_toArray, <- hl]
      exact Option.some.inj h1
    exact subscriptTail_builtinR (x := w) pl.isList.typeIs slot_list_getitem.lookup
      (wpAny_getItem_list_neg (Q := fun r s' => r = w /\ EP X pins σ Q r s') pl.isList (by omega) (by rw [List.size_toArray] <;> omega) (by omega) (by rw [hj]; simpa using ew) ⟨rfl, fin⟩) hs
theorem zsk : IxR X (zp6 X.K) := by
  intro value slice pins s σ H x y v u Q I rx ry h hs
  obtain ⟨p, xs, i, z, rfl, rfl, hq, he, q⟩ := h
  cases rx
  obtain ⟨t, rfl⟩ := ry
  obtain ⟨its, r, pl, hz⟩ := I.tuple hq
  obtain ⟨j, h1, h2, h3, h4, h5⟩ := zlg he
  obtain ⟨w, ew, rw'⟩ := r.get h2
  have hl := r.length
  have hn := zd2
  have fin : EP X pins σ Q w s := ⟨z, H, I, rw', q⟩
  exact subscriptTail_builtinR (x := w) pl.typeIs slot_tuple_getitem.lookup
    (getItem_tuple (j := j) (Q := fun r s' => r = w /\ EP X pins σ Q r s') pl (by omega) (by omega) (by rw [List.size_toArray, <- hl]; exact h1) (by simpa using ew) ⟨rfl, fin⟩) hs
theorem znk (its : List Value) (n j : Nat) (u : Value) : Obj.mapSeq (·.setIfInBounds j u) { cls := .type "list", data := .seq its.toArray n } = { cls := .type "list", data := .seq (its.set j u).toArray n } := by
  simp [Obj.mapSeq]
theorem Inv.lst {pins : List (Addr × Obj)} {σ : St} {H : Hp} {s : Shared} {p : Addr} {xs : List V} (I : Inv X pins σ H s) (h : H p = some (.lst xs)) :
    ∃ (its : List Value) (n : Nat), zad xs its /\ s.heap.get? p = some { cls := .type "list", data := .seq its.toArray n } /\ xs.length <= sizeLine := by
  obtain ⟨z, its, n, r, e⟩ := I.hok p _ h
  exact ⟨its, n, r, e, z⟩
theorem Inv.lstUpd {pins : List (Addr × Obj)} {σ : St} {H : Hp} {s : Shared} {p : Addr} {xs ys : List V} {its its' : List Value} {n n' : Nat} {f : Obj -> Obj} (I : Inv X pins σ H s) (h : H p = some (.lst xs))
    (ho : s.heap.get? p = some { cls := .type "list", data := .seq its.toArray n }) (hf : f { cls := .type "list", data := .seq its.toArray n } = { cls := .type "list", data := .seq its'.toArray n' }) (r : zad ys its') (hz : ys.length <= sizeLine) (t : Nat) :
    Inv X pins σ (upd H p (.lst ys)) { s with heap := s.heap.update p f, toks := t } := by
  have e : (s.heap.update p f).get? p = some { cls := .type "list", data := .seq its'.toArray n' } := by
    rw [Heap.get?_update_self f ho (by rw [hf] <;> rfl), hf]
  refine I.write (x := p) (e := p) (by rw [h]; trivial) (.inl rfl) (fun b u hb q => (Heap.get?_update_other _ _ (Ne.symm hb)).trans q) ⟨_, e⟩ ?_
  exact ⟨hz, its', n', r, e⟩
noncomputable def zir : V -> V -> V -> Hp -> (Hp -> Prop) -> Prop := fun o i v H Q => ∃ p xs k j, o = .ref p /\ i = .int k /\ H p = some (.lst xs) /\ ixN xs.length k = some j /\ Q (upd H p (.lst (xs.set j v)))
theorem zk5 : zi1 X zir := by
  intro pins s σ H o i v ov iv u Q I ro ri rv h
  obtain ⟨p, xs, k, j, rfl, rfl, hp, hj, q⟩ := h
  cases ro
  obtain ⟨t, rfl⟩ := ri
  obtain ⟨its, n, r, ho, hz⟩ := I.lst hp
  obtain ⟨h1, h2, h3, h4⟩ := zji hj
  have hl := r.length
  have hn := zd2
  have I' : Inv X pins σ (upd H p (.lst (xs.set j v))) { s with heap := s.heap.update p (Obj.mapSeq (·.setIfInBounds j u)) } :=
    I.lstUpd hp ho (znk its n j u) (r.set rv j) (by rw [List.length_set]; exact hz) s.toks
  by_cases h0 : 0 <= k
  · have hk : k.toNat = j := by
      rw [seqIndex_of h0 h4] at h1
      exact Option.some.inj h1
    exact PySem.W.ki_setAt ho h0 (by omega) (by rw [List.size_toArray, <- hl]; exact h4) (by rw [hk]; exact ⟨_, I', q⟩)
  · have hk : (k + (its.toArray.size : Int)).toNat = j := by
      rw [seqIndex_neg (by omega) h3] at h1
      rw [List.size_toArray, <- hl]
      exact Option.some.inj h1
    exact PySem.W.ki_setBack ho (by omega) (by rw [List.size_toArray, <- hl]; exact h3) (by omega) (by rw [hk]; exact ⟨_, I', q⟩)
theorem zqj (lo hi : Option Int) (n : Nat) : (sliceBounds lo hi none n).1 = ((HT.sIx n 0 lo : Nat) : Int) /\ (sliceBounds lo hi none n).2.1 = ((HT.sIx n n hi : Nat) : Int) /\ (sliceBounds lo hi none n).2.2 = 1 := by
  refine ⟨?_, ?_, rfl⟩
  · cases lo with
    | none => simp [sliceBounds, HT.sIx]
    | some i =>
      simp only [sliceBounds, HT.sIx, Option.getD_none, show (1 : Int) > 0 by decide, if_true]
      by_cases h : i < 0
      · simp only [h, if_true] <;> omega
      · simp only [h, if_false] <;> omega
  · cases hi with
    | none => simp [sliceBounds, HT.sIx]
    | some i =>
      simp only [sliceBounds, HT.sIx, Option.getD_none, show (1 : Int) > 0 by decide, if_true]
      by_cases h : i < 0
      · simp only [h, if_true] <;> omega
      · simp only [h, if_false] <;> omega
theorem zry (its : List Value) (lo hi : Option Int) : slicePick its.toArray lo hi none = ((its.drop (HT.sIx its.length 0 lo)).take (HT.sIx its.length its.length hi - HT.sIx its.length 0 lo)).toArray := by
  obtain ⟨h1, h2, h3⟩ := zqj lo hi its.toArray.size
  unfold slicePick
  rw [h1, h2, h3]
  simp only [sliceRange_one, pick_run, List.size_toArray] <;> rfl
noncomputable def znd (K : PySem.W.Frag) : V -> Option Int -> Option Int -> Hp -> VK -> Prop := fun x lo hi H Q => ∃ a xs, x = .ref a /\ SqL K H a xs /\ ∀ p, H p = none -> Q (.ref p) (upd H p (.lst (zck xs lo hi)))
theorem zs7 : SlR X (znd X.K) := by
  intro pins s σ H x v vl vu lo hi sl Q I rx hs pl pu h
  obtain ⟨a, xs, rfl, hx, q⟩ := h
  cases rx
  obtain ⟨its, r, ht, hz⟩ := I.list hx
  have hlen := r.length
  refine ⟨"list", _, slot_list_getitem.lookup, ht.isList.typeIs, ?_⟩
  refine wpAny_getItem_list_slice ht.isList hs pl pu .none (by simp) ?_ (by rw [List.size_toArray] <;> omega)
  rw [zry, <- hlen]
  refine ⟨.ref s.heap.objs.size, _, I.laid (t' := s.toks) (o := .lst (zck xs lo hi)) (fun b ob q => Heap.get?_push_of_some _ q) (Nat.le_refl _) ?_, rfl, q _ (I.hok.fresh (Nat.le_refl _))⟩
  exact ⟨Nat.le_trans (zss xs lo hi) hz, _, 0, (r.drop (HT.sIx xs.length 0 lo)).take (HT.sIx xs.length xs.length hi - HT.sIx xs.length 0 lo), Heap.get?_push_size _ rfl⟩
noncomputable def za4 : V -> Bool
  | .non => true
  | .bl _ => true
  | .int _ => true
  | .str _ => true
  | _ => false
noncomputable def eqV : V -> V -> Bool
  | .non, .non => true
  | .bl a, .bl b => a == b
  | .bl a, .int b => (if a then 1 else 0) == b
  | .int a, .bl b => a == (if b then 1 else 0)
  | .int a, .int b => a == b
  | .str a, .str b => a == b
  | _, _ => false
theorem zkh {A : Around} {s : Shared} {y x : V} {u v : Value} (ry : zae y u) (rx : zae x v) (fy : za4 y = true) (fx : za4 x = true) : SeqAt.EqAt A s u v (eqV y x) := by
  cases y with
  | non =>
    cases ry
    cases x with
    | non => cases rx; exact SeqAt.EqAt.same _
    | bl b => cases rx; exact SeqAt.EqAt.none_bool b
    | int b => obtain ⟨t, rfl⟩ := rx; exact SeqAt.EqAt.none_int b t
    | str b => obtain ⟨t, rfl⟩ := rx; exact SeqAt.EqAt.none_str b t
    | _ => exact absurd (show false = true from fx) Bool.false_ne_true
  | bl a =>
    cases ry
    cases x with
    | non => cases rx; exact SeqAt.EqAt.bool_none a
    | bl b => cases rx; exact SeqAt.EqAt.bool_bool a b
    | int b => obtain ⟨t, rfl⟩ := rx; exact SeqAt.EqAt.bool_int a b t
    | str b => obtain ⟨t, rfl⟩ := rx; exact SeqAt.EqAt.bool_str a b t
    | _ => exact absurd (show false = true from fx) Bool.false_ne_true
  | int a =>
    obtain ⟨t', rfl⟩ := ry
    cases x with
    | non => cases rx; exact SeqAt.EqAt.int_none a t'
    | bl b => cases rx; exact SeqAt.EqAt.int_bool a t' b
    | int b => obtain ⟨t, rfl⟩ := rx; exact SeqAt.EqAt.int_int a t' b t
    | str b => obtain ⟨t, rfl⟩ := rx; exact SeqAt.EqAt.int_str a t' b t
    | _ => exact absurd (show false = true from fx) Bool.false_ne_true
  | str a =>
    obtain ⟨t', rfl⟩ := ry
    cases x with
    | non => cases rx; exact SeqAt.EqAt.str_none a t'
    | bl b => cases rx; exact SeqAt.EqAt.str_bool a t' b
    | int b => obtain ⟨t, rfl⟩ := rx; exact SeqAt.EqAt.str_int a t' b t
    | str b => obtain ⟨t, rfl⟩ := rx; exact SeqAt.EqAt.str_str a t' b t
    | _ => exact absurd (show false = true from fx) Bool.false_ne_true
  | _ => exact absurd (show false = true from fy) Bool.false_ne_true
noncomputable def eqU (x : V) (u : Value) : Bool := match u with
  | .none => eqV .non x
  | .bool b => eqV (.bl b) x
  | .int i _ => eqV (.int i) x
  | .str z _ => eqV (.str z) x
  | _ => false
theorem zl8 {x y : V} {u : Value} (r : zae y u) (f : za4 y = true) : eqU x u = eqV y x := by
  cases y with
  | non => cases r; rfl
  | bl b => cases r; rfl
  | int i => obtain ⟨t, rfl⟩ := r; rfl
  | str z => obtain ⟨t, rfl⟩ := r; rfl
  | _ => exact absurd (show false = true from f) Bool.false_ne_true
theorem zh6 {x : V} : ∀ {xs : List V} {us : List Value}, zad xs us -> xs.all za4 = true -> us.any (eqU x) = xs.any fun y => eqV y x
  | _, _, .nil, _ => rfl
  | y :: xs, u :: us, .cons r t, f => by
    rw [List.all_cons, Bool.and_eq_true] at f
    rw [List.any_cons, List.any_cons, zl8 r f.1, zh6 t f.2]
theorem zie {A : Around} {s : Shared} {x : V} {v : Value} (rx : zae x v) (fx : za4 x = true) : ∀ {xs : List V} {us : List Value}, zad xs us -> xs.all za4 = true -> ∀ u ∈ us, SeqAt.EqAt A s u v (eqU x u)
  | _, _, .nil, _ => fun u hu => by cases hu
  | y :: xs, u :: us, .cons r t, f => fun u' hu => by
    rw [List.all_cons, Bool.and_eq_true] at f
    rcases List.mem_cons.mp hu with rfl | hu
    · rw [zl8 r f.1]; exact zkh r rx f.1 fx
    · exact zie rx fx t f.2 u' hu
noncomputable def inV (x : V) (xs : List V) : Bool := xs.any fun y => eqV y x
noncomputable def rIn (K : PySem.W.Frag) (neg : Bool) : R2 := fun x y H Q => ∃ p xs, y = .ref p /\ (SqL K H p xs \/ SqT K H p xs) /\ za4 x = true /\ xs.all za4 = true /\ Q (.bl (if neg then !inV x xs else inV x xs)) H
theorem zsu : OpR X (compareOp .NotIn) (rIn X.K true) := by
  intro pins s σ H x y v u Q I rx ry h
  obtain ⟨p, xs, rfl, hq, fx, fs, q⟩ := h
  cases ry
  rcases hq with hq | hq
  · obtain ⟨its, r, pl, hz⟩ := I.list hq
    refine SeqAt.notIn_listAt (eqU x) pl.isList (fun w hw => zie rx fx r fs w (by simpa using hw)) ⟨.bl _, H, I, rfl, ?_⟩
    rw [show its.toArray.any (eqU x) = its.any (eqU x) by simp, zh6 r fs]
    exact q
  · obtain ⟨its, r, pl, hz⟩ := I.tuple hq
    refine SeqAt.notIn_tupleAt (eqU x) pl (fun w hw => zie rx fx r fs w (by simpa using hw)) ⟨.bl _, H, I, rfl, ?_⟩
    rw [show its.toArray.any (eqU x) = its.any (eqU x) by simp, zh6 r fs]
    exact q
theorem zq5 : zbk X (.builtin "len") (fun xs H Q => ∃ p ys, xs = [.ref p] /\ (SqL X.K H p ys \/ SqT X.K H p ys) /\ Q (.int ys.length) H) := by
  intro pins s σ H xs us Q I r h
  obtain ⟨p, ys, rfl, hq, q⟩ := h
  obtain ⟨u, rfl, rx⟩ := zi9 r
  cases rx
  have hn := zd2
  rcases hq with hq | hq
  · obtain ⟨its, r', pl, hz⟩ := I.list hq
    have hlen := r'.length
    exact Calls.call_len_list pl.isList (by simp only [List.size_toArray] <;> omega) ⟨.int ys.length, H, I.tok _, ⟨s.toks + 1, by rw [List.size_toArray, hlen]⟩, q⟩
  · obtain ⟨its, r', pl, hz⟩ := I.tuple hq
    have hlen := r'.length
    exact len_tuple pl (by simp only [List.size_toArray] <;> omega) ⟨.int ys.length, H, I.tok _, ⟨s.toks + 1, by rw [List.size_toArray, hlen]⟩, q⟩
theorem zmy : zbk X (.builtin "len") (fun xs H Q => ∃ z, xs = [.str z] /\ z.length <= sizeLine /\ Q (.int z.length) H) := by
  intro pins s σ H xs us Q I r h
  obtain ⟨z, rfl, hz, q⟩ := h
  obtain ⟨u, rfl, t, rfl⟩ := zi9 r
  have hn := zd2
  exact len_str (by omega) ⟨.int z.length, H, I.tok _, ⟨_, rfl⟩, q⟩
theorem zbk.or {f : Value} {r r' : List V -> Hp -> VK -> Prop} (h : zbk X f r) (h' : zbk X f r') : zbk X f (fun xs H Q => r xs H Q \/ r' xs H Q) := by
  intro pins s σ H xs us Q I rs q
  rcases q with q | q
  · exact h pins s σ H xs us Q I rs q
  · exact h' pins s σ H xs us Q I rs q
noncomputable def tyV (K : PySem.W.Frag) (T : String) (x : V) (H : Hp) : Prop := match x with
  | .str _ => T = "str"
  | .int _ => T = "int"
  | .ref p => (T = "list" /\ ∃ xs, SqL K H p xs) \/ (T = "tuple" /\ ∃ o, K.lookup p = some o /\ o.cls = .type "tuple" /\ o.dict = none) \/
      (T = "dict" /\ ((∃ kvs, H p = some (.dK kvs)) \/ ∃ kvs, H p = some (.dT kvs))) \/ (T = "set" /\ ∃ S n, H p = some (.set S n))
  | _ => False
theorem zox {pins : List (Addr × Obj)} {σ : St} {H : Hp} {s : Shared} {T : String} {x : V} {v : Value} (I : Inv X pins σ H s) (r : zae x v) (ty : tyV X.K T x H) :
    s.TypeIs v T /\ ∀ a, v = .ref a -> ∃ ob, s.heap.get? a = some ob /\ ob.dict = none := by
  cases x with
  | str z =>
    obtain ⟨t, rfl⟩ := r
    cases (show T = "str" from ty)
    exact ⟨typeIs_str s z t, fun _ e => nomatch e⟩
  | int i =>
    obtain ⟨t, rfl⟩ := r
    cases (show T = "int" from ty)
    exact ⟨typeIs_int s i t, fun _ e => nomatch e⟩
  | ref p =>
    cases r
    rcases ty with ⟨rfl, xs, hq⟩ | ⟨rfl, o, hk, hc, hd⟩ | ⟨rfl, hk⟩ | ⟨rfl, S, n, hk⟩
    · obtain ⟨its, _, pl, _⟩ := I.list hq
      refine ⟨pl.isList.typeIs, fun a e => ?_⟩
      cases e
      obtain ⟨o, n, e, c, hd, _⟩ := pl
      exact ⟨o, e, hd⟩
    · refine ⟨⟨o, I.kIn p o hk, hc⟩, fun a e => ?_⟩
      cases e
      exact ⟨o, I.kIn _ o hk, hd⟩
    · have z : ∃ o, s.heap.get? p = some o /\ o.ExactDict := by
        rcases hk with ⟨kvs, hk⟩ | ⟨kvs, hk⟩
        · obtain ⟨_, _, _, _, o, _, _, e, ex, _⟩ := I.hok p _ hk
          exact ⟨o, e, ex⟩
        · obtain ⟨_, _, _, _, o, _, _, e, ex, _⟩ := I.hok p _ hk
          exact ⟨o, e, ex⟩
      obtain ⟨o, e, ex⟩ := z
      refine ⟨⟨o, e, ex.1⟩, fun a e2 => ?_⟩
      cases e2
      exact ⟨o, e, ex.2.1⟩
    · obtain ⟨o, _, _, _, e, ex, _⟩ := I.hok p _ hk
      refine ⟨⟨o, e, ex.1⟩, fun a e2 => ?_⟩
      cases e2
      exact ⟨o, e, ex.2.1⟩
  | _ => exact False.elim ty
noncomputable def tBM (K : PySem.W.Frag) (T : String) (r : V -> List V -> Hp -> VK -> Prop) (to : TE) (t : TA) : TE := fun σ H Q => to σ H fun x H1 => tyV K T x H1 /\ t σ H1 fun xs H2 => r x xs H2 Q
variable {o e : Expr} {es : List Expr} {to : TE} {t : TA} {name : Str} {apos cpos : Pos} {T id : String} {r : V -> List V -> Hp -> VK -> Prop}
theorem zfa (pa : PlainAttrs T) (slot : Slot T name id) (hty : typeOf (.builtin id) = pure (.type "method_descriptor")) (hm : MtR X id r) (ho : PE X o to) (ha : PA X (e :: es) t)
    (hbase : attributeBase o name X.env (eval o X.env) = eval o X.env := by rfl)
    (hfew : ((backTo cpos (starEach (e :: es) X.env)).all (fun x => !x.1) && (backToKw cpos (keywordEach [] X.env)).all (fun x => x.1.isSome)
      && decide ((e :: es).length + ([] : List Keyword).length + (if ([] : List Keyword).isEmpty then 0 else 1) < 30)) = true := by rfl)
    (hline : (apos.endLine == cpos.line) = true := by rfl) (hs : starEach (e :: es) X.env = (false, eval e X.env) :: starEach es X.env := by rfl) (hplain : (backTo cpos (starEach es X.env)).any (·.1) = false := by rfl) :
    PE X (.Call (.Attribute o name apos) (e :: es) [] cpos) (tBM X.K T r to t) := by
  intro pins s σ H Q I h
  refine wpAny_Call_method_late hbase hfew hline rfl (thn (ho pins s σ H _ I h) fun v s1 ⟨x, H1, I1, r1, ty, q1⟩ => ?_)
  obtain ⟨h1, h2⟩ := zox I1 r1 ty
  refine ⟨T, id, pa, slot, hty, h1, h2, ?_⟩
  have hA := ha cpos pins s1 σ H1 _ I1 q1
  rw [hs] at hA ⊢
  refine Calls.callWith_builtin (by show (false || (backTo cpos (starEach es X.env)).any (·.1)) = false; rw [hplain] <;> rfl) (Calls.evalArgs_plain ?_)
  exact thn hA fun us s2 ⟨vs, H2, I2, r2, q2⟩ => hm pins s2 σ H2 x vs v us Q I2 r1 r2 q2
end
end L2
namespace L2
open PySem PySem.Spec PyProof.Rows
noncomputable def MtM (X : Cx) (id : String) (r : V -> List V -> Hp -> VK -> Prop) : Prop :=
  ∀ (pins : List (Addr × Obj)) (s : Shared) (σ : St) (H : Hp) (x : V) (xs : List V) (v : Value) (us : List Value) (Q : VK), Inv X pins σ H s -> zae x v -> zad xs us -> r x xs H Q ->
    wpAny (model X.prog X.w) X.A (call (.builtin id) (v :: us)) (EP X pins σ Q) X.xe s
theorem zad.one : ∀ {x : V} {us : List Value}, zad [x] us -> ∃ u, us = [u] /\ zae x u
  | _, _, .cons r .nil => ⟨_, rfl, r⟩
theorem zad.two : ∀ {x y : V} {us : List Value}, zad [x, y] us -> ∃ u v, us = [u, v] /\ zae x u /\ zae y v
  | _, _, _, .cons r (.cons q .nil) => ⟨_, _, rfl, r, q⟩
theorem zad.zero : ∀ {us : List Value}, zad [] us -> us = []
  | _, .nil => rfl
theorem zad.rep {xs : List V} {us : List Value} (h : zad xs us) : ∀ k : Nat, zad (List.replicate k xs).flatten (List.replicate k us).flatten
  | 0 => .nil
  | k + 1 => by
    rw [List.replicate_succ, List.replicate_succ, List.flatten_cons, List.flatten_cons]
    exact zad.append h (zad.rep h k)
section
variable {X : Cx} {pins : List (Addr × Obj)} {σ : St} {H : Hp} {s : Shared} {l b : Addr} {xs ys zs : List V}
theorem Inv.lset {its its' : List Value} {n : Nat} {f : Array Value -> Array Value} {t' : Nat} (I : Inv X pins σ H s) (hH : H l = some (.lst xs))
    (e : s.heap.get? l = some { cls := .type "list", data := .seq its.toArray n }) (hf : f its.toArray = its'.toArray) (hv : zad ys its') (hz : ys.length <= sizeLine) :
    Inv X pins σ (upd H l (.lst ys)) { s with heap := s.heap.update l (Obj.mapSeq f), toks := t' } := by
  have q := PySem.IsL.update e f
  rw [hf] at q
  refine I.write (x := l) (e := l) (by rw [hH]; exact trivial) (.inl rfl) (fun b' u hb hu => (Heap.get?_update_other s.heap (Obj.mapSeq f) (Ne.symm hb)).trans hu) ⟨_, q⟩ ?_
  exact ⟨hz, its', _, hv, q⟩
theorem Inv.lnew {its : List Value} {t' : Nat} (I : Inv X pins σ H s) (hv : zad ys its) (hz : ys.length <= sizeLine) :
    Inv X pins σ (upd H s.heap.objs.size (.lst ys)) { s with heap := s.heap.push { cls := .type "list", data := .seq its.toArray }, toks := t' } :=
  I.laid (fun _ _ q => Heap.get?_push_of_some _ q) (Nat.le_refl _) ⟨hz, its, 0, hv, Heap.get?_push_size _ rfl⟩
theorem Inv.fresh (I : Inv X pins σ H s) : H s.heap.objs.size = none := I.hok.fresh (Nat.le_refl _)
theorem Inv.lstM (I : Inv X pins σ H s) (hH : H l = some (.lst xs)) : xs.length <= sizeLine /\ ∃ (its : List Value) (n : Nat), zad xs its /\ xs.length = its.length /\ s.heap.get? l = some { cls := .type "list", data := .seq its.toArray n } := by
  obtain ⟨z, its, n, r, e⟩ := I.hok l _ hH
  exact ⟨z, its, n, r, r.length, e⟩
end
section
variable {X : Cx}
noncomputable def zjq : V -> List V -> Hp -> VK -> Prop := fun x vs H Q => ∃ l xs y, x = .ref l /\ vs = [y] /\ H l = some (.lst xs) /\ xs.length < sizeLine /\ Q .non (upd H l (.lst (xs ++ [y])))
theorem zmd : MtM X "list.append" zjq := by
  intro pins s σ H x vs v us Q I rx rv h
  obtain ⟨l, xs, y, rfl, rfl, hH, hz, q⟩ := h
  cases rx
  obtain ⟨u, rfl, ru⟩ := rv.one
  obtain ⟨z, its, n, r, hl, e⟩ := I.lstM hH
  refine call_meets F.slot_list_append ⟨_, e, rfl⟩ F.entry_list_append (F.args_list_append_2 _ _) (PySem.list_append l its.toArray n u (by rw [List.size_toArray]; omega)) ⟨e, ?_⟩
  refine ⟨.non, _, I.lset (its' := its ++ [u]) hH e (by simp) (r.append (.cons ru .nil)) ?_, rfl, q⟩
  rw [List.length_append, List.length_singleton]
  omega
noncomputable def zpq : R2 := fun x y H Q => ∃ l b xs zs, x = .ref l /\ y = .ref b /\ H l = some (.lst xs) /\ H b = some (.lst zs) /\ xs.length + zs.length <= sizeLine /\ ∀ p, H p = none -> Q (.ref p) (upd H p (.lst (xs ++ zs)))
theorem znj : OpR X (binaryOp .Add) zpq := by
  intro pins s σ H x y v u Q I rx ry h
  obtain ⟨l, b, xs, zs, rfl, rfl, hH, hB, hz, q⟩ := h
  cases rx
  cases ry
  obtain ⟨z, its, n, r, hl, e⟩ := I.lstM hH
  obtain ⟨z2, its2, n2, r2, hl2, e2⟩ := I.lstM hB
  refine PySem.P.add_list e e2 ?_ (by rw [List.size_toArray, List.size_toArray]; omega)
  have ea : its.toArray ++ its2.toArray = (its ++ its2).toArray := by simp
  rw [ea]
  exact ⟨.ref _, _, I.lnew (t' := s.toks) (r.append r2) (by rw [List.length_append]; omega), rfl, q _ I.fresh⟩
end
section
variable {prog : Program} {w : World} {A : Around} {E : Value -> Shared -> Prop} {s : Shared}
set_option maxRecDepth 100000 in
end
section
variable {X : Cx}
end
end L2
namespace Att
open PySem PySem.W PySem.Calls PyProof.Rows
theorem zpc {P : Params} {h : Heap} : ∀ (ns : List Int) (vs : List Value), WellAll P h vs (ns.map WData.int) -> IntsAre vs ns := by
  intro ns
  induction ns with
  | nil =>
    intro vs w
    rw [List.map_nil] at w
    cases w
    exact .nil
  | cons n ns ih =>
    intro vs w
    rw [List.map_cons] at w
    cases w with
    | cons a b =>
      cases a
      exact .cons _ _ (ih _ b)
theorem zth {l : OpenLaw} {n : Nat} (hn : l.most = some n) {P : Params} {h : Heap} {args : List WData} {vals : List Value}
    (hpre : l.row.toRowW.claim.pre args = true) (hwl : WellAll P h vals args) :
    ∃ a vs ns, vals = [Value.ref a] /\ args = [WData.list (ns.map WData.int)] /\ h.get? a = some { cls := .type "list", data := .seq vs.toArray } /\ IntsAre vs ns /\ ns.length <= n := by
  have hsh : WShape.hasAll [] args [.list .int] = true := (pre_splitW hpre).1
  have hc : l.pre.holds [] { args := args } = true := (pre_splitW hpre).2
  obtain ⟨d, r, rfl, h1, h2⟩ := hasAllW_cons hsh
  obtain rfl := hasAllW_nil h2
  obtain ⟨xs, rfl, h3⟩ := hasW_list h1
  obtain ⟨ns, rfl⟩ := items_int h3
  have hlen : ns.length <= n := by
    unfold OpenLaw.pre at hc
    have h4 : (WTm.not (.lt (.lit (.int (n : Int))) (.len (.arg 0)))).holds [] { args := [.list (ns.map .int)] } = true := by
      have h4 := (holds_andW hc).1
      rw [hn] at h4
      exact h4
    have h5 := condW_of h4 (w_not (w_lt w_lit (w_len_list (w_arg rfl))))
    rw [List.length_map] at h5
    refine Nat.le_of_not_lt fun q => ?_
    have q' : (n : Int) < ((ns.length : Nat) : Int) := by omega
    first
      | (rw [decide_eq_true q'] at h5; exact absurd h5 (by decide))
      | (simp at h5; omega)
  cases hwl with
  | cons w1 w2 =>
    cases w2
    cases w1 with
    | list ho hall => exact ⟨_, _, ns, rfl, rfl, ho, zpc ns _ hall, hlen⟩
theorem zqt (l : OpenLaw) (args : List WData) : l.row.toRowW.claim.post args (.bool true) args = true :=
  postW_of (r := l.row.toRowW) (X := (true == true))
    (show WShape.has [] (.bool true) .bool = true by first | rfl | decide | simp [WShape.has, WShape.arms, WShape.armsAll])
    (show (WTm.eq .res (.lit (.bool true))).value [] { args := args, res := some (.bool true), after := args } = some (.bool (true == true)) from w_eq_bool (w_res rfl) w_lit) rfl
theorem attach_call {l : OpenLaw} {n : Nat} {q : Program} {loose : List Str} {XP : (Str -> Option Value) -> Heap -> Prop} {YP : World -> Heap -> Prop} {d : DefRec}
    (hn : l.most = some n) (hdf : d.params.defaults = [])
    (call : ∀ (w : World) (s₀ s₁ : Shared) (mg mb : Str -> Option Value) (fa : Addr) (o : Obj) (pm cd doc : Value) (a : Addr) (vs : List Value) (ns : List Int),
      Ground q loose [] XP w s₀ mg mb s₁.heap -> YP w s₁.heap ->
      s₁.heap.get? fa = some o -> o.data = .func (docDef d.name d.params d.body d.scope pm cd doc) -> s₁.heap.CodeRec cd d.name -> mg d.name = some (.ref fa) ->
      s₁.heap.get? a = some { cls := .type "list", data := .seq vs.toArray } -> IntsAre vs ns -> ns.length <= n -> s₁.gens = #[] ->
      codeAny (model l.prog w) callerA (.call (.ref fa) ⟨[.ref a], []⟩) (fun r s' => r = .ok (.ret (.bool true)) /\ OldK s₁.heap s'.heap /\ s'.os = s₁.os /\ AllBare s'.gens) s₁) :
    WalkO q loose XP YP l.row.toRowW d [] (fun f vs => PySem.call f vs) := by
  intro w s₀ s₁ mg mb G Y fa o pm cd doc dV kV ho hd hcd hD hmg hg args vals as hpre hlay hrd hwl hlo
  obtain rfl : dV = .none := Dflts.none hD hdf
  obtain rfl : kV = .none := Dflts.noKw hD
  obtain ⟨a, vs, ns, rfl, rfl, hobj, hints, hlen⟩ := zth hn hpre hwl
  refine enter_call (codeAny_mono (call w s₀ s₁ mg mb fa o pm cd doc a vs ns G Y ho (fd_plain hd) hcd hmg hobj hints hlen hg) fun r s' hq => ?_)
  obtain ⟨rfl, h2, h3, h4⟩ := hq
  exact ⟨.inl ⟨.bool true, .bool true, [], rfl, fun _ => rfl, .bool true, zqt l _, fun _ => ⟨List.Pairwise.nil, fun _ hm => (nomatch hm)⟩⟩, h2, h3, h4⟩
section
variable {prog : Program} {w : World} {A : Around} {E : Value -> Shared -> Prop} {s : Shared} {K : Frag}
end
end Att
namespace L2
open PySem PySem.Spec PyProof.Rows
theorem zln : ∀ {vs : List Value} {ns : List Int}, IntsAre vs ns -> zad (ns.map V.int) vs
  | _, _, .nil => .nil
  | _, _, .cons n t h => .cons ⟨t, rfl⟩ (zln h)
noncomputable def zfz (H : Hp) : Prop := ∀ b, H b = none \/ ∃ o xs, H b = some (.frz o (.lst xs))
theorem zmx {P : Program} {w : World} {K : PySem.W.Frag} {mg mb : Str -> Option Value} {CX : CXT} {k : Nat} {fa a : Addr} {fd : FuncData} {x : Str} {sp : Sp} {s₁ : Shared} {vs : List Value} {ns : List Int}
    (KX : K.In s₁.heap) (hns : s₁.heap.Ns mainGlobals mg) (hb : s₁.heap.Ns builtinsNs mb) (hbb : ∀ x : Str, x ≠ "__name__" -> mb x = bootBuiltins x) (hlim : s₁.heap.NoLimit) (hg : s₁.gens = #[])
    (ha : s₁.heap.get? a = some { cls := .type "list", data := .seq vs.toArray }) (hi : IntsAre vs ns) (hl : ns.length <= sizeLine) (hr : zai k callerA)
    (F : ∀ base : Heap, K.In base -> base.Ns mainGlobals mg -> zak P w K mg base CX k fa fd [x] sp) (hbind : ∀ (s : Shared) (u : Value), BindsTo s fd ⟨[u], []⟩ [(x, u)])
    (hsp : ∀ H : Hp, zfz H -> SqL K H a (ns.map V.int) -> sp [.ref a] H (fun v _ => v = .bl true) fun _ _ _ => False)
    (hCX : ∀ H e s', CX [] H s₁ (fun _ _ _ => False) e s' -> False) :
    codeAny (model P w) callerA (.call (.ref fa) ⟨[.ref a], []⟩) (fun r s' => r = .ok (.ret (.bool true)) /\ OldK s₁.heap s'.heap /\ s'.os = s₁.os /\ AllBare s'.gens) s₁ := by
  have rv := zln hi
  have lenV := hi.length
  have core : ∀ H : Hp, zfz H -> SqL K H a (ns.map V.int) -> HOk P w H s₁.heap -> (∀ b, H b ≠ none -> b = a) -> (H a ≠ none -> K.lookup a = none) ->
      codeAny (model P w) callerA (.call (.ref fa) ⟨[.ref a], []⟩) (fun r s' => r = .ok (.ret (.bool true)) /\ OldK s₁.heap s'.heap /\ s'.os = s₁.os /\ AllBare s'.gens) s₁ := by
    intro H hO hS hok hA hK
    have base_of : ∀ {b : Addr} {o : Obj}, s₁.heap.get? b = some o -> H b = none -> (zcc s₁.heap H).get? b = some o := fun e n => zs0 e n
    have noA : ∀ {b : Addr} {o : Obj} {es : Array DictEntry} {ep : Nat}, s₁.heap.get? b = some o -> o.data = .dict es ep -> H b = none := fun {b o es ep} e d => by
      cases q : H b with
      | none => rfl
      | some u =>
        have e' : b = a := hA b (by rw [q]; simp)
        subst e'
        rw [ha] at e; cases e
        have d' : Data.seq vs.toArray _ = Data.dict es ep := d
        cases d'
    have nsK : ∀ {b : Addr} {m : Str -> Option Value}, s₁.heap.Ns b m -> (zcc s₁.heap H).Ns b m := fun {b m} ⟨o, es, ep, e, d, r⟩ => ⟨o, es, ep, base_of e (noA e d), d, r⟩
    have hKb : K.In (zcc s₁.heap H) := fun b o e => base_of (KX b o e) (by
      cases q : H b with
      | none => rfl
      | some u =>
        have e' : b = a := hA b (by rw [q]; simp)
        subst e'
        rw [hK (by rw [q]; simp)] at e; cases e)
    have hM : Mod K mg (zcc s₁.heap H) := ⟨hKb, nsK hns, ⟨mb, nsK hb, hbb⟩, let ⟨mc, h1, h2⟩ := hlim; ⟨mc, nsK h1, h2⟩⟩
    have e0 : zb4 P w K mg (zcc s₁.heap H) callerA [] s₁ H := ⟨rfl, hM, fun b o e => zr8 e, Nat.le_of_eq (zo4 _ _), trivial, fun b hb => absurd (show b ∈ ([] : List Addr) from hb) (by simp), hok, .of_eq hg⟩
    refine codeAny_mono ((F _ hKb (nsK hns)).run callerA [] s₁ H ⟨[.ref a], []⟩ [.ref a] [.ref a] _ _ hr e0 (hbind s₁ (.ref a)) (.cons rfl .nil) (hsp H hO hS)) fun r s' h => ?_
    cases r with
    | error e => exact (hCX H e s' h).elim
    | ok fl =>
      cases fl with
      | next => exact False.elim h
      | brk => exact False.elim h
      | cont => exact False.elim h
      | ret u =>
        obtain ⟨v, H', os, bare, un, hok', r', q⟩ := h
        have q' : v = .bl true := q
        subst q'
        obtain rfl : u = Value.bool true := r'
        refine ⟨rfl, OldK.of_keep fun b o e => ?_, os, bare⟩
        cases q : H b with
        | none => exact un.keep b o e q (by intro z; exact absurd (show b ∈ ([] : List Addr) from z) (by simp)) (by simp)
        | some u =>
          rcases hO b with z | ⟨ob, xs, z⟩
          · rw [q] at z; cases z
          · have z2 := un.frzs b ob _ z
            obtain ⟨e1, _⟩ := hok b _ z
            obtain ⟨e2, _⟩ := hok' b _ z2
            rw [e] at e1; cases e1
            exact e2
  cases hk : K.lookup a with
  | some o =>
    have e := KX a o hk
    rw [ha] at e
    cases e
    refine core (fun _ => none) (fun _ => .inl rfl) (.inr ⟨_, vs.toArray, _, hk, rfl, rfl, rfl, by rw [List.size_toArray, lenV]; exact hl, by simpa using rv⟩) (fun b u z => by have z' : (none : Option HO) = some u := z; cases z') (fun b z => absurd rfl z) fun z => absurd rfl z
  | none =>
    refine core (fun b => if b = a then some (.frz { cls := .type "list", data := .seq vs.toArray } (.lst (ns.map V.int))) else none) (fun b => ?_) (.inl (.inr ⟨{ cls := .type "list", data := .seq vs.toArray }, if_pos rfl⟩)) (fun b u z => ?_) (fun b z => ?_) fun _ => hk
    · by_cases hb : b = a
      · exact .inr ⟨_, _, if_pos hb⟩
      · exact .inl (if_neg hb)
    · by_cases hb : b = a
      · have z' := (if_pos hb).symm.trans z
        cases z'
        subst hb
        exact ⟨ha, by rw [List.length_map]; exact hl, vs, _, rv, ha⟩
      · have z' := (if_neg hb).symm.trans z
        cases z'
    · by_cases hb : b = a
      · exact hb
      · exact absurd (if_neg hb) z
end L2
namespace L2
open PySem PySem.Spec PyProof.Rows
noncomputable abbrev KOf {K : PySem.W.Frag} {h : Heap} (_ : K.In h) : PySem.W.Frag := K
theorem zpp {l : PySem.W.OpenLaw} {n k : Nat} {q : Program} {loose : List Str} {XP : (Str -> Option Value) -> Heap -> Prop} {YP : World -> Heap -> Prop} {d : DefRec} {K : Params -> PySem.W.Frag} {CX : World -> CXT} {sp : World -> Sp} {x : Str}
    (hn : l.most = some n) (hn2 : n <= sizeLine) (hdf : d.params.defaults = []) (hr : zai k callerA)
    (hY : ∀ (w : World) (h : Heap), YP w h -> (K w.params).In h)
    (F : ∀ (w : World) (mg : Str -> Option Value) (fa : Addr) (h : Heap), (K w.params).In h -> h.Ns mainGlobals mg -> mg d.name = some (.ref fa) ->
      ∃ fd : FuncData, (∀ (s : Shared) (u : Value), BindsTo s fd ⟨[u], []⟩ [(x, u)]) /\
        ∀ base : Heap, (K w.params).In base -> base.Ns mainGlobals mg -> zak l.prog w (K w.params) mg base (CX w) k fa fd [x] (sp w))
    (hsp : ∀ (w : World) (H : Hp) (a : Addr) (ns : List Int), ns.length <= n -> zfz H -> SqL (K w.params) H a (ns.map V.int) -> sp w [.ref a] H (fun v _ => v = .bl true) fun _ _ _ => False)
    (hCX : ∀ (w : World) (H : Hp) (s : Shared) (e : Value) (s' : Shared), CX w [] H s (fun _ _ _ => False) e s' -> False) :
    PySem.W.WalkO q loose XP YP l.row.toRowW d [] (fun f vs => PySem.call f vs) := by
  refine Att.attach_call hn hdf fun w s₀ s₁ mg mb fa o pm cd doc a vs ns G Y ho hd hcd hmg hobj hints hlen hg => ?_
  have KX := hY w _ Y
  obtain ⟨fd, hb, hF⟩ := F w mg fa _ KX G.T.g hmg
  exact zmx KX G.T.g G.T.b G.T.builtins G.T.nolimit hg hobj hints (Nat.le_trans hlen hn2) hr hF hb (fun H hO hS => hsp w H a ns hlen hO hS) fun H e s' => hCX w H s₁ e s'
theorem walk_ofK {l : PySem.W.OpenLaw} {n k : Nat} {q : Program} {loose : List Str} {XP : (Str -> Option Value) -> Heap -> Prop} {YP : World -> Heap -> Prop} {d : DefRec} {K : Params -> PySem.W.Frag} {CX : CXT} {sp : PySem.W.Frag -> Sp} {x : Str}
    (hn : l.most = some n) (hn2 : n <= sizeLine) (hdf : d.params.defaults = []) (hr : zai k callerA)
    (hY : ∀ (w : World) (h : Heap), YP w h -> (K w.params).In h)
    (F : ∀ (w : World) (mg : Str -> Option Value) (fa : Addr) (h : Heap), (K w.params).In h -> h.Ns mainGlobals mg -> mg d.name = some (.ref fa) ->
      ∃ fd : FuncData, (∀ (s : Shared) (u : Value), BindsTo s fd ⟨[u], []⟩ [(x, u)]) /\
        ∀ base : Heap, (K w.params).In base -> base.Ns mainGlobals mg -> zak l.prog w (K w.params) mg base CX k fa fd [x] (sp (K w.params)))
    (hsp : ∀ (K : PySem.W.Frag) (H : Hp) (a : Addr) (ns : List Int), ns.length <= n -> zfz H -> SqL K H a (ns.map V.int) -> sp K [.ref a] H (fun v _ => v = .bl true) fun _ _ _ => False)
    (hCX : ∀ (H : Hp) (s : Shared) (e : Value) (s' : Shared), CX [] H s (fun _ _ _ => False) e s' -> False) :
    PySem.W.WalkO q loose XP YP l.row.toRowW d [] (fun f vs => PySem.call f vs) :=
  zpp (K := K) (CX := fun _ => CX) (sp := fun w => sp (K w.params)) hn hn2 hdf hr hY F (fun w H a ns h1 h2 h3 => hsp (K w.params) H a ns h1 h2 h3) fun _ H s e s' => hCX H s e s'
end L2
namespace L2
open PySem PySem.Spec PyProof.Rows
noncomputable def zb1 (s : Stmt) : Arguments := match s with
  | .FunctionDef _ a _ _ _ _ _ _ _ _ => a
  | _ => { posonlyargs := [], args := [], vararg := none, kwonlyargs := [], kw_defaults := [], kwarg := none, defaults := [] }
noncomputable def za9 (s : Stmt) : List Stmt := match s with
  | .FunctionDef _ _ b _ _ _ _ _ _ _ => b
  | _ => []
noncomputable def zam (s : Stmt) : Scope := match s with
  | .FunctionDef _ _ _ _ _ _ sc _ _ _ => sc
  | _ => { kind := .function, names := [], isGenerator := false, isCoroutine := false }
noncomputable abbrev CX0 : CXT := fun _ _ _ _ _ _ => False
noncomputable abbrev E0 : XK := fun _ _ _ => False
theorem zep {X : Cx} : zhj CX0 X E0 := fun _ _ _ _ _ _ _ h => h.elim
structure Fun (K : PySem.W.Frag) (x qual : Str) (st : Stmt) (f : Addr) (fd : FuncData) : Prop where
  ex : ∃ (oc : Value) (od : Option Addr) (kV doc pm : Value) (an : Option Addr) (cdv ct : Value) (osl : Array (Option Value)),
    fd = PySem.W.fnOf x qual (zb1 st) (za9 st) (zam st) .none kV doc pm an cdv ct /\ K.lookup f = some ⟨oc, od, .func fd, osl⟩ /\ PySem.W.codeIn K cdv qual = true
  kp : PySem.W.keepIn K (.ref f) = true
section
variable {P : Program} {w : World} {K : PySem.W.Frag} {mg : Str -> Option Value} {base : Heap}
theorem Fun.ok {x qual : Str} {st : Stmt} {f : Addr} {fd : FuncData} {N ps : List Str} {k : Nat} {sp : Sp} (F : Fun K x qual st f fd) (S : zbm N ps (zam st)) (len : ∀ vs H Q E, sp vs H Q E -> vs.length = ps.length)
    (hbody : ∀ (cdv : Value) (A : Around) (outer : List Env) (s : Shared) (H : Hp) (vs : List V) (Q : VK) (E : XK), zai k (A.deeper (envOfC qual (zam st) s.heap.objs.size f cdv)) -> sp vs H Q E ->
      ∃ t, PSs (zcb CX0 P w K mg base N qual (zam st) f cdv A outer s H E).nox (za9 st) t /\ t { nx := fun _ H' => Q .non H', rt := Q } (start N vs) H) : zak P w K mg base CX0 (k + 1) f fd ps sp := by
  obtain ⟨oc, od, kV, doc, pm, an, cdv, ct, osl, rfl, lk, hcd⟩ := F.ex
  refine zq6 lk hcd S len fun A outer s H vs Q E hr hsp => ?_
  obtain ⟨t, h, q⟩ := hbody cdv A outer s H vs Q E hr hsp
  exact ⟨t, h.nox, q⟩
theorem Fun.binds {x qual : Str} {st : Stmt} {f : Addr} {fd : FuncData} {ps : List Str} (F : Fun K x qual st f fd)
    (h : ∀ (kV doc pm : Value) (an : Option Addr) (cdv ct : Value) (us : List Value), us.length = ps.length -> bindArgs (PySem.W.fnOf x qual (zb1 st) (za9 st) (zam st) .none kV doc pm an cdv ct) ⟨us, []⟩ = pure (ps.zip us)) : za3 K fd ps [] := by
  obtain ⟨oc, od, kV, doc, pm, an, cdv, ct, osl, rfl, lk, hcd⟩ := F.ex
  exact .all (h kV doc pm an cdv ct)
theorem zdf {x qual : Str} {st : Stmt} {f : Addr} {oc : Value} {od an : Option Addr} {osl : Array (Option Value)} {kV doc pm cdv ct : Value} (l : K.lookup f = some ⟨oc, od, .func (PySem.W.fnOf x qual (zb1 st) (za9 st) (zam st) .none kV doc pm an cdv ct), osl⟩)
    (c : PySem.W.codeIn K cdv qual = true) (k : PySem.W.keepIn K (.ref f) = true) : Fun K x qual st f (PySem.W.fnOf x qual (zb1 st) (za9 st) (zam st) .none kV doc pm an cdv ct) := ⟨⟨oc, od, kV, doc, pm, an, cdv, ct, osl, rfl, l, c⟩, k⟩
end
theorem zoq {n : Nat} (h : n <= 1000) : n < sizeLine := Nat.lt_of_le_of_lt h (by decide)
section
variable {X : Cx}
theorem pv (i : Nat) {x : Str} {pos : Pos} (hN : X.N[i]? = some x := by rfl) (hv : Vis X.env.scope x := by first | exact Or.inl rfl | exact Or.inr (Or.inl rfl) | exact Or.inr (Or.inr rfl)) (hd : (x == ("__debug__" : Str)) = false := by decide)
    (hcd : (x == ("__classdict__" : Str)) = false := by decide) : PE X (.Name x pos) (zbz i) := zc1 hN hv hd hcd
end
theorem zsp {A B : Prop} (h : B) : if false = true then A else B := by
  rw [if_neg Bool.false_ne_true]
  exact h
theorem zo1 {A B : Prop} (h : A) : if true = true then A else B := by
  rw [if_pos rfl]
  exact h
noncomputable def zac (H H' : Hp) : Prop := ∀ b o, H b = some o -> H' b = some o
theorem zac.refl (H : Hp) : zac H H := fun _ _ h => h
theorem zac.trans {H H1 H2 : Hp} (a : zac H H1) (b : zac H1 H2) : zac H H2 := fun c o h => b c o (a c o h)
theorem zac.free {H H' : Hp} (e : zac H H') {l : Addr} (h : H' l = Option.none) : H l = Option.none := by
  cases q : H l with
  | none => rfl
  | some o =>
    rw [e l o q] at h
    cases h
theorem zac.seq {K : PySem.W.Frag} {H H' : Hp} {a : Addr} {xs : List V} (e : zac H H') (h : SqL K H a xs) : SqL K H' a xs := by
  rcases h with (h | ⟨o, h⟩) | h
  · exact .inl (.inl (e _ _ h))
  · exact .inl (.inr ⟨o, e _ _ h⟩)
  · exact .inr h
end L2
namespace L2
open PySem PySem.Spec PyProof.Rows
section
variable {κ : Type} [DecidableEq κ]
noncomputable def zbv (kvs : List (κ × V)) (k : κ) : Option V := (kvs.find? fun kv => decide (kv.1 = k)).map (·.2)
noncomputable def zfx (kvs : List (κ × V)) (k : κ) (v : V) : List (κ × V) :=
  if (kvs.any fun kv => decide (kv.1 = k)) = true then kvs.map (fun kv => if kv.1 = k then (kv.1, v) else kv) else kvs ++ [(k, v)]
noncomputable def zlf (kvs : List (κ × V)) (k : κ) : List (κ × V) := kvs.filter fun kv => decide (kv.1 ≠ k)
theorem zml {p : κ × V} {r : List (κ × V)} {k : κ} (e : p.1 = k) : zbv (p :: r) k = some p.2 := by simp [zbv, List.find?_cons, e]
theorem zlq {p : κ × V} {r : List (κ × V)} {k : κ} (e : ¬ p.1 = k) : zbv (p :: r) k = zbv r k := by simp [zbv, List.find?_cons, e]
theorem zdc.getD {o : Option V} {u : Option Value} {d : V} {d' : Value} (r : zdc o u) (rd : zae d d') : zae (o.getD d) (u.getD d') := by
  cases o with
  | none => cases u with
    | none => exact rd
    | some _ => exact (show False from r).elim
  | some _ => cases u with
    | none => exact (show False from r).elim
    | some _ => exact r
theorem KV.val {kvs : List (κ × V)} {vs : List (κ × Value)} (r : KV kvs vs) (k : κ) : zdc (zbv kvs k) (valueAt vs k) := by
  unfold KV at r
  induction r with
  | nil => exact True.intro
  | @cons p q ps qs h t ih =>
    obtain ⟨h1, h2⟩ := h
    by_cases e : p.1 = k
    · have e' : q.1 = k := h1.symm.trans e
      have b : valueAt (q :: qs) k = some q.2 := by simp [valueAt, List.find?_cons, e']
      rw [zml e, b]; exact h2
    · have e' : ¬ q.1 = k := fun z => e (h1.trans z)
      have b : valueAt (q :: qs) k = valueAt qs k := by simp [valueAt, List.find?_cons, e']
      rw [zlq e, b]; exact ih
theorem KV.any {kvs : List (κ × V)} {vs : List (κ × Value)} (r : KV kvs vs) (k : κ) : (kvs.any fun kv => decide (kv.1 = k)) = vs.any fun kv => decide (kv.1 = k) := by
  unfold KV at r
  induction r with
  | nil => rfl
  | cons h t ih => rw [List.any_cons, List.any_cons, ih, h.1]
theorem KV.drop {kvs : List (κ × V)} {vs : List (κ × Value)} (r : KV kvs vs) (k : κ) : KV (zlf kvs k) (without vs k) := by
  unfold KV at r ⊢
  unfold zlf without
  induction r with
  | nil => exact .nil
  | @cons p q ps qs h t ih =>
    obtain ⟨h1, h2⟩ := h
    rw [List.filter_cons, List.filter_cons]
    by_cases e : p.1 = k
    · have a : ¬ decide (p.1 ≠ k) = true := by simp [e]
      have b : ¬ decide (q.1 ≠ k) = true := by simp [h1.symm.trans e]
      rw [if_neg a, if_neg b]; exact ih
    · have e' : ¬ q.1 = k := fun z => e (h1.trans z)
      have a : decide (p.1 ≠ k) = true := by simp [e]
      have b : decide (q.1 ≠ k) = true := by simp [e']
      rw [if_pos a, if_pos b]; exact .cons ⟨h1, h2⟩ ih
theorem KV.length {kvs : List (κ × V)} {vs : List (κ × Value)} (r : KV kvs vs) : kvs.length = vs.length := Paired.length r
end
noncomputable abbrev KT (H : Hp) : List (List Key × V) -> List (List Key × Addr × Value) -> Prop := Paired fun p q => p.1 = q.1 /\ H q.2.1 = some (.tup (p.1.map kV)) /\ zae p.2 q.2.2
theorem KT.val {H : Hp} {kvs : List (List Key × V)} {xs : List (List Key × Addr × Value)} (r : KT H kvs xs) (k : List Key) : zdc (zbv kvs k) ((atKey xs k).map (·.2)) := by
  induction r with
  | nil => exact True.intro
  | @cons p q ps qs h t ih =>
    obtain ⟨h1, _, h2⟩ := h
    by_cases e : p.1 = k
    · have e' : q.1 = k := h1.symm.trans e
      have b : atKey (q :: qs) k = some q.2 := by simp [atKey, List.find?_cons, e']
      rw [zml e, b]; exact h2
    · have e' : ¬ q.1 = k := fun z => e (h1.trans z)
      have b : atKey (q :: qs) k = atKey qs k := by simp [atKey, List.find?_cons, e']
      rw [zlq e, b]; exact ih
theorem KT.keeps {H H' : Hp} {kvs : List (List Key × V)} {xs : List (List Key × Addr × Value)} (r : KT H kvs xs) (ht : ∀ b ys, H b = some (.tup ys) -> H' b = some (.tup ys)) : KT H' kvs xs :=
  Paired.mapP r fun _ _ z => ⟨z.1, ht _ _ z.2.1, z.2.2⟩
section
variable {P : Program} {w : World} {H : Hp} {h : Heap} {a : Addr}
end
noncomputable def zf4 (H : Hp) (a : Addr) (y : V) (r : Option V) : Prop :=
  (∃ kvs k, Rd H a (.dK kvs) /\ y = kV k /\ r = zbv kvs k) \/ ∃ kvs k b, Rd H a (.dT kvs) /\ y = .ref b /\ H b = some (.tup (k.map kV)) /\ r = zbv kvs k
noncomputable def zfb (H : Hp) (a : Addr) (y v : V) (H' : Hp) : Prop :=
  (∃ kvs k, H a = some (.dK kvs) /\ y = kV k /\ kvs.length < sizeLine /\ H' = upd H a (.dK (zfx kvs k v))) \/
  ∃ kvs k b, H a = some (.dT kvs) /\ y = .ref b /\ H b = some (.tup (k.map kV)) /\ kvs.length < sizeLine /\ H' = upd H a (.dT (zfx kvs k v))
theorem zf4.k {H : Hp} {a : Addr} {kvs : List (Key × V)} {k : Key} (e : H a = some (.dK kvs)) : zf4 H a (kV k) (zbv kvs k) := .inl ⟨kvs, k, .inl e, rfl, rfl⟩
theorem zf4.t {H : Hp} {a b : Addr} {kvs : List (List Key × V)} {k : List Key} (e : H a = some (.dT kvs)) (eb : H b = some (.tup (k.map kV))) : zf4 H a (.ref b) (zbv kvs k) := .inr ⟨kvs, k, b, .inl e, rfl, eb, rfl⟩
theorem zfb.k {H : Hp} {a : Addr} {kvs : List (Key × V)} {k : Key} {v : V} (e : H a = some (.dK kvs)) (hl : kvs.length < sizeLine) : zfb H a (kV k) v (upd H a (.dK (zfx kvs k v))) := .inl ⟨kvs, k, e, rfl, hl, rfl⟩
theorem zfb.t {H : Hp} {a b : Addr} {kvs : List (List Key × V)} {k : List Key} {v : V} (e : H a = some (.dT kvs)) (eb : H b = some (.tup (k.map kV))) (hl : kvs.length < sizeLine) :
    zfb H a (.ref b) v (upd H a (.dT (zfx kvs k v))) := .inr ⟨kvs, k, b, e, rfl, eb, hl, rfl⟩
section
variable {X : Cx} {pins : List (Addr × Obj)} {σ : St} {H : Hp} {s : Shared} {a : Addr} {y v : V} {u r : Value} {o : Option V} {A : Around} {E : Value -> Shared -> Prop}
end
section
variable {X : Cx} {pins : List (Addr × Obj)} {σ : St} {H : Hp} {s : Shared} {a : Addr} {kvs : List (Key × V)} {k : Key} {u : Value} {A : Around} {E : Value -> Shared -> Prop}
end
section
variable {X : Cx} {o i e value : Expr} {pos pos' tpos : Pos} {td ty tv : TE}
end
section
variable {X : Cx} {pos : Pos}
end
section
variable {X : Cx} {pins : List (Addr × Obj)} {σ : St} {H : Hp} {s : Shared} {a : Addr} {y d : V} {u r : Value} {o : Option V} {A : Around} {E : Value -> Shared -> Prop}
end
section
variable {X : Cx} {o e f : Expr} {apos cpos : Pos} {td ty tx : TE}
end
section
variable {X : Cx} {pins : List (Addr × Obj)} {σ : St} {H : Hp} {s : Shared} {a : Addr} {kvs : List (Key × V)} {A : Around} {E : Value -> Shared -> Prop}
end
section
variable {X : Cx} {pins : List (Addr × Obj)} {σ : St} {H : Hp} {s : Shared} {a : Addr} {y : V} {u : Value} {A : Around} {E : Value -> Shared -> Prop}
end
end L2
namespace L2
open PySem PySem.Spec PyProof.Rows
section
variable {κ : Type} [DecidableEq κ]
end
end L2
set_option maxHeartbeats 4000000
namespace L2
open PySem
theorem zis {env : Env} (f : (Str × NameKind) -> List (Str × Addr) -> Sem (ForInStep (List (Str × Addr))))
    (h1 : ∀ n k r, k ≠ NameKind.free -> f (n, k) r = pure (.yield r))
    (h2 : ∀ n r c, env.cells.lookup n = some c -> f (n, .free) r = pure (.yield ((n, c) :: r))) :
    ∀ (l : List (Str × NameKind)) (acc : List (Str × Addr)), (∀ x ∈ l, x.2 = .free -> ∃ c, env.cells.lookup x.1 = some c) ->
      (∀ x c, acc.lookup x = some c -> env.cells.lookup x = some c) ->
      ∃ cl, forIn l acc f = (pure cl : Sem _) /\ (∀ x c, cl.lookup x = some c -> env.cells.lookup x = some c) /\
        (∀ x, ((∃ c, acc.lookup x = some c) \/ (x, NameKind.free) ∈ l) -> ∃ c, cl.lookup x = some c)
  | [], acc, _, ha => ⟨acc, rfl, ha, fun x hx => hx.elim id (fun z => nomatch z)⟩
  | (n, k) :: l, acc, hl, ha => by
    have hl' : ∀ x ∈ l, x.2 = .free -> ∃ c, env.cells.lookup x.1 = some c := fun x hx => hl x (List.mem_cons_of_mem _ hx)
    by_cases hk : k = .free
    · subst hk
      obtain ⟨c, hc⟩ := hl (n, .free) List.mem_cons_self rfl
      have hc' : env.cells.lookup n = some c := hc
      have ha' : ∀ x c', ((n, c) :: acc).lookup x = some c' -> env.cells.lookup x = some c' := fun x c' hx => by
        rw [List.lookup_cons] at hx
        cases e : x == n with
        | true =>
          rw [e] at hx
          cases hx
          rw [eq_of_beq e]; exact hc'
        | false =>
          rw [e] at hx
          exact ha x c' hx
      obtain ⟨cl, e, a1, a2⟩ := zis f h1 h2 l ((n, c) :: acc) hl' ha'
      refine ⟨cl, ?_, a1, fun x hx => a2 x ?_⟩
      · rw [List.forIn_cons, h2 n acc c hc', pure_bind]
        exact e
      · have here : ∀ c', acc.lookup x = some c' -> ∃ c'', ((n, c) :: acc).lookup x = some c'' := fun c' z => by
          rw [List.lookup_cons]
          cases e : x == n with
          | true => exact ⟨c, rfl⟩
          | false => exact ⟨c', z⟩
        rcases hx with ⟨c', z⟩ | hx
        · exact .inl (here c' z)
        · rcases List.mem_cons.mp hx with z | z
          · cases z
            refine .inl ⟨c, ?_⟩
            rw [List.lookup_cons, beq_self_eq_true]
          · exact .inr z
    · obtain ⟨cl, e, a1, a2⟩ := zis f h1 h2 l acc hl' ha
      refine ⟨cl, ?_, a1, fun x hx => a2 x ?_⟩
      · rw [List.forIn_cons, h1 n k acc hk, pure_bind]
        exact e
      · rcases hx with hx | hx
        · exact .inl hx
        · rcases List.mem_cons.mp hx with z | z
          · cases z; exact absurd rfl hk
          · exact .inr z
theorem zmn {scope : Scope} {env : Env} (h : ∀ x ∈ scope.names, x.2 = .free -> ∃ c, env.cells.lookup x.1 = some c) :
    ∃ cl, closureFor scope env = pure cl /\ (∀ x c, cl.lookup x = some c -> env.cells.lookup x = some c) /\ (∀ x, (x, NameKind.free) ∈ scope.names -> ∃ c, cl.lookup x = some c) := by
  unfold closureFor
  obtain ⟨cl, e, a1, a2⟩ := zis (env := env) (fun (x : Str × NameKind) (r : List (Str × Addr)) => (match x with
      | (name, kind) => if (kind == NameKind.free) = true then (do let a <- cellOf env name; pure (ForInStep.yield ((name, a) :: r))) else (pure (ForInStep.yield r) : Sem _)))
    (fun n k r hk => by
      have : (k == NameKind.free) = false := by simpa using hk
      simp only [this, Bool.false_eq_true, if_false])
    (fun n r c hc => by
      simp only [beq_self_eq_true, if_true, cellOf, hc, pure_bind])
    scope.names [] h (fun x c z => by cases z)
  refine ⟨cl, ?_, a1, fun x hx => a2 x (.inr hx)⟩
  refine (congrArg (fun (t : Sem (List (Str × Addr))) => t >>= pure) ?_).trans ((congrArg (fun (t : Sem (List (Str × Addr))) => t >>= pure) e).trans (pure_bind _ _))
  rfl
section
variable {prog : Program} {w : World} {A : Around} {R : Result -> Shared -> Prop} {s : Shared}
noncomputable abbrev E00 : Value -> Shared -> Prop := fun _ _ => False
theorem zqi {elt target iter : Expr} {ifs : List Expr} {scope : Scope} {pos : Pos} {it acc : Value} {env : Env} (I : Nat -> Shared -> Prop)
    (turn : ∀ n s, I n s -> wpAny (model prog w) A (pyNext it) (fun r s₁ => match r with
      | none => R (.ok .next) s₁
      | some v => wpAny (model prog w) A (letOwnedTupleGo target it v) (fun _ s₁' => wpAny (model prog w) A (assign target env v) (fun _ s₂ =>
          wpAny (model prog w) A (forIn ifs true fun c r => if r = true then do let ok <- isTrue c env (eval c env); pure (ForInStep.yield ok) else pure (ForInStep.yield r)) (fun ok s₃ =>
            if ok = true then wpAny (model prog w) A (eval elt env) (fun x s₄ =>
              wpAny (model prog w) A (call (.builtin "list.append") [acc, x]) (fun _ s₅ => ∃ m, m < n /\ I m s₅) E00 s₄) E00 s₃
            else ∃ m, m < n /\ I m s₃) E00 s₂) E00 s₁') E00 s₁) E00 s)
    (n : Nat) (h : I n s) :
    codeAny (model prog w) A (.compLoop (.ListComp elt [⟨target, iter, ifs, 0⟩] scope pos) 0 it acc env) R s := by
  refine codeAny_loop rfl I (fun n s hI => ?_) n h
  show wpAny _ A ((compTurn (.ListComp elt [⟨target, iter, ifs, 0⟩] scope pos) 0 it acc env).onRaise (fun x => do noteFrame x env; theTreesLotGoes x)) _ _ s
  refine wpAny_noted ?_
  rw [compTurn_list]
  refine wpAny_mono (E := E00) ?_ (fun _ _ z => z) (fun _ _ z => z.elim)
  refine wpAny_bind (wpAny_standAt (wpAny_bind (wpAny_mono (turn n s hI) (fun r s₁ h₁ => ?_) fun _ _ h' => h')))
  cases r with
  | none => exact wpAny_pure h₁
  | some v =>
    refine wpAny_bind (wpAny_mono h₁ (fun _ s₁' h₁' => ?_) fun _ _ h' => h')
    refine wpAny_bind (wpAny_mono h₁' (fun _ s₂ h₂ => wpAny_bind (wpAny_mono h₂ (fun ok s₃ h₃ => ?_) fun _ _ h' => h')) fun _ _ h' => h')
    cases ok with
    | false => exact wpAny_pure ⟨rfl, h₃⟩
    | true =>
      exact wpAny_bind (wpAny_bind (wpAny_mono h₃ (fun x s₄ h₄ => wpAny_bind (wpAny_mono h₄ (fun _ s₅ h₅ => wpAny_pure (wpAny_pure ⟨rfl, h₅⟩)) fun _ _ h' => h')) fun _ _ h' => h'))
end
end L2
namespace L2
open PySem PySem.Spec PyProof.Rows
noncomputable abbrev Cx.comp (X : Cx) (scope : Scope) (Nc : List Str) (cl : List (Str × Addr)) (C : Addr) (ex : List Addr) (s₂ : Shared) (H₂ : Hp) : Cx :=
  { X with N := Nc, s₀ := s₂, H₀ := H₂, env := compEnvC scope cl C X.env, outer := X.stack, ex := ex, fn := fun _ => false, pn := [], xe := E00 }
theorem zh5 {env : Env} : ∀ {names : List (Str × NameKind)} {x : Str}, names.lookup x = some .free ->
    (names.map fun (n, k) => if (k == NameKind.free && env.scope.kind == .function && env.kindOf n == some .cell) then (n, NameKind.cell) else (n, k)).lookup x = some .cell \/
    (names.map fun (n, k) => if (k == NameKind.free && env.scope.kind == .function && env.kindOf n == some .cell) then (n, NameKind.cell) else (n, k)).lookup x = some .free
  | [], _, h => by simp at h
  | (n, k) :: r, x, h => by
    have ih := @zh5 env r x
    rw [List.map_cons]
    show List.lookup x ((if (k == NameKind.free && env.scope.kind == .function && env.kindOf n == some .cell) = true then (n, NameKind.cell) else (n, k)) :: _) = _ \/ List.lookup x ((if (k == NameKind.free && env.scope.kind == .function && env.kindOf n == some .cell) = true then (n, NameKind.cell) else (n, k)) :: _) = _
    rw [List.lookup_cons] at h
    cases hx : x == n with
    | true =>
      rw [hx] at h
      cases h
      split
      · left; rw [List.lookup_cons, hx]
      · right; rw [List.lookup_cons, hx]
    | false =>
      rw [hx] at h
      split
      · rw [List.lookup_cons, hx]; exact ih h
      · rw [List.lookup_cons, hx]; exact ih h
theorem zit {env : Env} {k' : NameKind} (hk' : k' = .cell \/ k' = .free) : ∀ {names : List (Str × NameKind)} {x : Str},
    (names.map fun (n, k) => if (k == NameKind.free && env.scope.kind == .function && env.kindOf n == some .cell) then (n, NameKind.cell) else (n, k)).lookup x = some k' ->
    (x, NameKind.free) ∈ names \/ (x, NameKind.cell) ∈ names
  | [], _, h => by simp at h
  | (n, k) :: r, x, h => by
    have ih := @zit env k' hk' r x
    rw [List.map_cons] at h
    have h' : List.lookup x ((if (k == NameKind.free && env.scope.kind == .function && env.kindOf n == some .cell) = true then (n, NameKind.cell) else (n, k)) :: (r.map fun (n, k) => if (k == NameKind.free && env.scope.kind == .function && env.kindOf n == some .cell) then (n, NameKind.cell) else (n, k))) = some k' := h
    cases hx : x == n with
    | true =>
      have e := eq_of_beq hx
      subst e
      split at h'
      · rename_i hc
        have hk : k = .free := by
          rw [Bool.and_eq_true, Bool.and_eq_true] at hc
          exact eq_of_beq hc.1.1
        subst hk
        exact .inl List.mem_cons_self
      · rw [List.lookup_cons, hx] at h'
        have e : k = k' := Option.some.inj h'
        subst e
        rcases hk' with z | z
        · subst z; exact .inr List.mem_cons_self
        · subst z; exact .inl List.mem_cons_self
    | false =>
      have h2 : (r.map fun (n, k) => if (k == NameKind.free && env.scope.kind == .function && env.kindOf n == some .cell) then (n, NameKind.cell) else (n, k)).lookup x = some k' := by
        split at h' <;> (rw [List.lookup_cons, hx] at h'; exact h')
      rcases ih h2 with z | z
      · exact .inl (List.mem_cons_of_mem _ z)
      · exact .inr (List.mem_cons_of_mem _ z)
noncomputable def zf7 (scope : Scope) (outer : List (Str × NameKind)) (N Nc : List Str) (k : Nat) (js : List Nat) : Bool :=
  scope.names.all (fun x => (x.2 != .free || outer.lookup x.1 == some .cell || outer.lookup x.1 == some .free) && x.2 != .cell && (x.2 != .local || scope.names.lookup x.1 == some .local)) &&
  scope.kind == .function && Nc.length == k + js.length &&
  (List.range js.length).all (fun i => match Nc[k + i]?, js[i]? with
    | some x, some j => N[j]? == some x && scope.names.lookup x == some .free
    | _, _ => false)
structure zfg (scope : Scope) (outer : List (Str × NameKind)) (N Nc : List Str) (k : Nat) (js : List Nat) : Prop where
  free : ∀ x ∈ scope.names, x.2 = .free -> outer.lookup x.1 = some .cell \/ outer.lookup x.1 = some .free
  nocell : ∀ x ∈ scope.names, x.2 ≠ .cell
  loc : ∀ x ∈ scope.names, x.2 = .local -> scope.names.lookup x.1 = some .local
  kind : scope.kind = .function
  len : Nc.length = k + js.length
  at' : ∀ i j, js[i]? = some j -> ∃ x, Nc[k + i]? = some x /\ N[j]? = some x /\ scope.names.lookup x = some .free
theorem zfg.of {scope : Scope} {outer : List (Str × NameKind)} {N Nc : List Str} {k : Nat} {js : List Nat} (h : zf7 scope outer N Nc k js = true) : zfg scope outer N Nc k js := by
  unfold zf7 at h
  rw [Bool.and_eq_true, Bool.and_eq_true, Bool.and_eq_true] at h
  obtain ⟨⟨⟨h1, h2⟩, h3⟩, h4⟩ := h
  rw [List.all_eq_true] at h1 h4
  refine ⟨fun x hx e => ?_, fun x hx e => ?_, fun x hx e => ?_, eq_of_beq h2, eq_of_beq h3, fun i j e => ?_⟩
  · have := h1 x hx
    simp only [Bool.and_eq_true, Bool.or_eq_true, bne_iff_ne, beq_iff_eq] at this
    rcases this.1.1 with (z | z) | z
    · exact absurd e z
    · exact .inl z
    · exact .inr z
  · have := h1 x hx
    simp only [Bool.and_eq_true, Bool.or_eq_true, bne_iff_ne, beq_iff_eq] at this
    exact this.1.2 e
  · have := h1 x hx
    simp only [Bool.and_eq_true, Bool.or_eq_true, bne_iff_ne, beq_iff_eq] at this
    rcases this.2 with z | z
    · exact absurd e z
    · exact z
  · have hi : i < js.length := (List.getElem?_eq_some_iff.mp e).1
    have := h4 i (List.mem_range.mpr hi)
    rw [e] at this
    cases q : Nc[k + i]? with
    | none => rw [q] at this; cases this
    | some x =>
      rw [q] at this
      simp only [Bool.and_eq_true, beq_iff_eq] at this
      exact ⟨x, rfl, this.1, this.2⟩
noncomputable def zb5 (k : Nat) (js : List Nat) (σ : St) : St := List.replicate k none ++ js.map fun j => (σ[j]?).getD none
noncomputable def PTs (X : Cx) (ifs : List Expr) (t : TT) : Prop :=
  ∀ (pins : List (Addr × Obj)) (s : Shared) (σ : St) (H : Hp) (Q : Bool -> Hp -> Prop), Inv X pins σ H s -> t σ H Q ->
    wpAny (model X.prog X.w) X.A (forIn ifs true fun c r => if r = true then do let ok <- isTrue c X.env (eval c X.env); pure (ForInStep.yield ok) else pure (ForInStep.yield r)) (TP X pins σ Q) X.xe s
theorem znu {X : Cx} {c : Expr} {t : TT} (h : PT X c t) : PTs X [c] t := fun pins s σ H Q I q => wpAny_tests_one (h pins s σ H Q I q)
noncomputable def zl2 (J : It) (g : TG) (tt : TT) (te : TE) (σ0 : St) (H1 : Hp) (Q : VK) : Prop :=
  ∃ W : Nat -> Nat -> List V -> St -> Hp -> Prop, (∃ m, W 0 m [] σ0 H1) /\ ∀ i m ys σ' H', W i m ys σ' H' ->
    (J.stop i H' /\ ys.length <= sizeLine /\ ∀ D, H1 D = none -> H' D = none -> Q (.ref D) (upd H' D (.lst ys))) \/
    (J.go i H' /\ ys.length <= sizeLine /\ ∃ N : List V -> St -> Hp -> Prop, (∀ ys' σ2 H2, N ys' σ2 H2 -> ∃ m', m' < m /\ W (i + 1) m' ys' σ2 H2) /\
      ∀ x H2, J.yld i H' x H2 -> g x σ' H2 fun σ3 H3 => tt σ3 H3 fun b H4 => if b = true then te σ3 H4 fun y H5 => N (ys ++ [y]) σ3 H5 else N ys σ3 H4)
noncomputable def zjn (k : Nat) (js : List Nat) (wi : TI) (g : TG) (tt : TT) (te : TE) : TE := fun σ H Q => wi σ H fun J H1 => zl2 J g tt te (zb5 k js σ) H1 Q
section
variable {X : Cx} {elt tg iter : Expr} {ifs : List Expr} {scope : Scope} {pos : Pos} {Nc : List Str} {k : Nat} {js : List Nat} {wi : TI} {g : TG} {tt : TT} {te : TE}
noncomputable abbrev zb2 (us : List Value) (n : Nat) : Obj := { cls := .type "list", data := .seq us.toArray n }
theorem ztb {pins : List (Addr × Obj)} {σ : St} {H2 : Hp} {s2 : Shared} {it : Addr} {fp : List Addr} {tn : Nat -> Heap -> Prop} {J : It} {cl : List (Str × Addr)} {Q : VK} {RR : Value -> Addr -> Result -> Shared -> Prop} {E : Value -> Shared -> Prop}
    (hc : X.calm = true) (ck : zfg scope X.env.scope.names X.N Nc k js)
    (hg : ∀ cl C ex s₂ H₂, PG (X.comp scope Nc cl C ex s₂ H₂) tg g) (ht : ∀ cl C ex s₂ H₂, PTs (X.comp scope Nc cl C ex s₂ H₂) ifs tt) (he : ∀ cl C ex s₂ H₂, PE (X.comp scope Nc cl C ex s₂ H₂) elt te)
    (a1 : ∀ x c, cl.lookup x = some c -> X.env.cells.lookup x = some c) (a2 : ∀ x, (x, NameKind.free) ∈ scope.names -> ∃ c, cl.lookup x = some c)
    (I2 : Inv X pins σ H2 s2) (T : zdt X.prog X.w X.K tg J fp it tn) (st2 : tn 0 s2.heap) (f2 : ∀ b ∈ fp, zbp X pins H2 b) (hW : zl2 J g tt te (zb5 k js σ) H2 Q)
    (hRR : ∀ (D C : Addr) (s' : Shared) (H' : Hp), Inv X pins σ H' s' -> (∃ m, s'.heap.Ns C m) -> zbp X pins H' C -> Q (.ref D) H' -> RR (.ref D) C (.ok .next) s') :
    wpAny (model X.prog X.w) X.A (newList []) (fun acc s₃ => wpAny (model X.prog X.w) X.A (newFunctionEnv scope X.env.globals cl [] X.env.qual none .none (some X.env)) (fun cenv s₄ =>
      codeAny (model X.prog X.w) X.A (.compStart (.ListComp elt [⟨tg, iter, ifs, 0⟩] scope pos) 0 (.ref it) acc { cenv with scope := relabel scope X.env }) (RR acc cenv.locals) s₄) E s₃) E s2 := by
  obtain ⟨W, ⟨m0, w0⟩, turn⟩ := hW
  refine wpAny_newObj_type (wpAny_newFunctionEnv ck.nocell (by intro y hy; simp at hy) (fun h₁ hns₁ hsb₁ => ?_) ck.kind)
  dsimp only at hns₁ hsb₁ ⊢
  generalize hP : s2.heap.push { cls := .type "list", dict := none, data := .seq ([] : List Value).toArray } = P at hns₁ hsb₁ ⊢
  generalize hD : s2.heap.objs.size = D at hP hns₁ hsb₁ ⊢
  have hCs : P.objs.size = D + 1 := by rw [<- hP, Heap.size_push, hD]
  generalize hC : P.objs.size = C at hCs hns₁ hsb₁ ⊢
  have hDC' : D < C := by rw [hCs]; exact Nat.lt_succ_self _
  have hDC : D ≠ C := Nat.ne_of_lt hDC'
  have below : ∀ b o, s2.heap.get? b = some o -> b < D := fun b o e => hD ▸ Heap.lt_size e
  have old : ∀ b o, s2.heap.get? b = some o -> h₁.get? b = some o := fun b o e => by
    have hb := below b o e
    exact hsb₁.extBut b o (Nat.ne_of_lt (Nat.lt_trans hb hDC')) (Heap.get?_push_of_some _ (hP ▸ Heap.get?_push_of_some _ e))
  have hDo : h₁.get? D = some (zb2 [] 0) := hsb₁.extBut _ _ hDC (Heap.get?_push_of_some _ (by rw [<- hP, <- hD]; exact Heap.get?_push_size _ rfl))
  have Hn : ∀ b, D <= b -> H2 b = none := fun b hb => I2.hok.fresh (by omega)
  have fpo : ∀ b ∈ fp, b < D := fun b hb => by obtain ⟨o, e, _⟩ := T.obj 0 _ st2 b hb; exact below b o e
  have clo : ∀ x c, cl.lookup x = some c -> c < D := fun x c e => by
    obtain ⟨v, o, ho, _⟩ := I2.cell x c (a1 x c e)
    exact below c o ho
  have stko : ∀ b ∈ frs X.stack, b < D := fun b hb => by
    obtain ⟨_, o, ho, _⟩ := I2.stack.mem hb
    exact below b o ho
  let Y : Cx := X.comp scope Nc cl C fp s2 H2
  have yk : Y.Ok := by
    refine ⟨I2.ok.mod, ck.kind, I2.ok.glob, I2.ok.blt, ?_, ?_, ?_, ?_, I2.ok.hd, I2.ok.frames, .inl rfl, ?_, I2.bs, ?_, ?_, ?_, I2.stack, I2.stkFree⟩
    · show s2.heap.objs.size <= C
      omega
    · exact fun x y c h1 h2 => I2.ok.inj x y c (a1 x c h1) (a1 y c h2)
    · intro x hx
      have : (x, NameKind.free) ∈ scope.names \/ (x, NameKind.cell) ∈ scope.names := by
        rcases hx with hx | hx
        · exact zit (.inl rfl) hx
        · exact zit (.inr rfl) hx
      rcases this with z | z
      · exact a2 x z
      · exact absurd rfl (ck.nocell _ z)
    · exact fun x c z => nomatch z
    · intro b hb
      refine ⟨?_, fun x c e => ?_⟩
      · exact Nat.ne_of_lt (Nat.lt_trans (fpo b hb) hDC')
      · exact (f2 b hb).2.2.2.2.1 x c (a1 x c e)
    · exact Nat.le_trans I2.ok.bsz I2.sz
    · intro b o e hb
      rcases (f2 b hb).2.2.2.1 with z | z
      · exact I2.ok.noex b o e z
      · exact absurd (Nat.lt_of_lt_of_le (Heap.lt_size e) (Nat.le_trans I2.ok.bsz z)) (Nat.lt_irrefl _)
    · intro b hb z
      rcases List.mem_cons.mp (I2.stkSub b z) with e | e
      · exact (f2 b hb).2.1 e
      · exact (f2 b hb).2.2.1 e
  have I4 : Inv Y [(D, zb2 [] 0)] (zb5 k js σ) H2 { s2 with heap := h₁, toks := s2.toks + ([] : List (Str × Value)).length } := by
    refine ⟨yk, rfl, I2.bare, Un.kept old, ⟨_, hns₁, fun i x v e1 e2 e3 => ?_⟩, fun x c e => ?_, Hn C (by omega), fun x c e => I2.freeC x c (a1 x c e), fun p hp => ?_, I2.hok.kept old, ?_⟩
    · have e1 : Nc[i]? = some x := e1
      unfold zb5 at e2
      have hik : k <= i := by
        rcases Nat.lt_or_ge i k with z | z
        · rw [List.getElem?_append_left (by simpa using z), List.getElem?_replicate] at e2
          simp [z] at e2
        · exact z
      rw [List.getElem?_append_right (by simpa using hik), List.getElem?_map] at e2
      simp only [List.length_replicate] at e2
      cases q : js[i - k]? with
      | none => rw [q] at e2; cases e2
      | some j =>
        rw [q] at e2
        obtain ⟨x', q1, q2, q3⟩ := ck.at' _ _ q
        rw [show k + (i - k) = i by omega, e1] at q1
        cases q1
        have e2 : (σ[j]?).getD none = some v := Option.some.inj e2
        have e2' : σ[j]? = some (some v) := by
          cases z : σ[j]? with
          | none => rw [z] at e2; cases e2
          | some y => rw [z] at e2; rw [show y = some v from e2]
        have hmem : (x, NameKind.free) ∈ scope.names := by
          have : ∀ l : List (Str × NameKind), l.lookup x = some .free -> (x, NameKind.free) ∈ l := by
            intro l
            induction l with
            | nil => intro z; cases z
            | cons a l ih =>
              intro z
              obtain ⟨n, kk⟩ := a
              rw [List.lookup_cons] at z
              cases hb : x == n with
              | true =>
                rw [hb] at z
                cases z
                rw [eq_of_beq hb]; exact List.mem_cons_self
              | false => rw [hb] at z; exact List.mem_cons_of_mem _ (ih z)
          exact this _ q3
        have hout : X.env.kindOf x = some .cell \/ X.env.kindOf x = some .free := ck.free _ hmem rfl
        obtain ⟨m, hn, hl⟩ := I2.loc
        have vis : Vis X.env.scope x := by
          rcases hout with z | z
          · exact .inr (.inl z)
          · exact .inr (.inr z)
        obtain ⟨u, r, l⟩ := hl j x v q2 e2' vis
        refine ⟨u, r, .inr ⟨zh5 q3, ?_⟩⟩
        rcases l with ⟨z, _⟩ | ⟨_, c, hcl, hcell⟩
        · rcases hout with y | y <;> (rw [y] at z; cases z)
        · obtain ⟨c', hc'⟩ := a2 x hmem
          have := a1 x c' hc'
          rw [hcl] at this
          cases this
          exact ⟨c, hc', hcell.keeps old⟩
    · obtain ⟨v, z⟩ := I2.cell x c (a1 x c e)
      exact ⟨v, z.keeps old⟩
    · have hp : p ∈ [(D, zb2 [] 0)] := (List.mem_append.mp hp).elim (fun z => nomatch (show p ∈ ([] : List (Addr × Obj)) from z)) id
      have hp : p = (D, zb2 [] 0) := List.mem_singleton.mp hp
      subst hp
      refine ⟨hDo, Hn D (Nat.le_refl _), hDC, fun z => ?_, fun v z => by cases z⟩
      exact absurd (stko D z) (Nat.lt_irrefl _)
    · show (zb5 k js σ).length = Nc.length
      rw [ck.len]
      simp [zb5]
  have st1 : tn 0 h₁ := T.keep 0 _ _ st2 fun b _ o e => old b o e
  have fpY : ∀ {H' : Hp} {p : List (Addr × Obj)}, (∀ q ∈ p, q.1 = D) -> (∀ b ∈ fp, H' b = none) -> ∀ b ∈ fp, zbp Y p H' b := fun {H' p} hp hn b hb => by
    refine ⟨hn b hb, (yk.exf b hb).1, yk.exfs b hb, .inl hb, fun x c e => (yk.exf b hb).2 x c e, fun q hq => ?_⟩
    have hq : q ∈ p := (List.mem_append.mp hq).elim (fun z => nomatch (show q ∈ ([] : List (Addr × Obj)) from z)) id
    rw [hp q hq]
    exact Nat.ne_of_gt (fpo b hb)
  have loop : codeAny (model X.prog X.w) X.A (.compLoop (.ListComp elt [⟨tg, iter, ifs, 0⟩] scope pos) 0 (.ref it) (.ref D) (compEnvC scope cl C X.env)) (RR (.ref D) C) { s2 with heap := h₁, toks := s2.toks + ([] : List (Str × Value)).length } := by
    refine zqi (fun n s' => ∃ i ys us nn σ' H', Inv Y [(D, zb2 us nn)] σ' H' s' /\ tn i s'.heap /\ (∀ b ∈ fp, H' b = none) /\ zad ys us /\ W i n ys σ' H') ?_ m0
      ⟨0, [], [], 0, zb5 k js σ, H2, I4, st1, fun b hb => (f2 b hb).1, .nil, w0⟩
    rintro n s3 ⟨i, ys, us, nn, σ3, H3, I3, st3, fr3, rv, w3⟩
    have one : ∀ q ∈ [(D, zb2 us nn)], q.1 = D := fun q hq => by
      have : q = (D, zb2 us nn) := by simpa using hq
      rw [this]
    rcases turn i n ys σ3 H3 w3 with ⟨stop, hz, qn⟩ | ⟨go, hz, N, hN, step⟩
    · refine thn (T.done Y rfl rfl rfl hc i _ s3 σ3 H3 E00 I3 (fpY one fr3) st3 stop) fun r s4 ⟨hr, I5⟩ => ?_
      subst hr
      show RR (.ref D) C (.ok .next) s4
      obtain ⟨pD, nD, _, _, _⟩ := I5.pin (D, zb2 us nn) (by simp)
      have bs : Un (frs X.stack) fp H2 H3 s2.heap s4.heap := I5.base
      have h2D : ∀ b o, H2 b = some o -> b ≠ D := fun b o e z => by rw [z, Hn D (Nat.le_refl _)] at e; cases e
      have I6 : Inv X pins σ (upd H3 D (.lst ys)) s4 := by
        refine I2.call' (ch := fp) I5.os ⟨bs.keep, bs.slot, fun b o e n hx => ?_, bs.there, fun b xs e => ?_, fun b o u e => ?_, fun b ps e => ?_⟩ (fun b u e => ?_) I5.bare fun b hb => ?_
        · rw [zag (Nat.ne_of_lt (below b o e))]
          exact bs.free b o e n hx
        · rw [zag (h2D b _ e)]; exact bs.tups b xs e
        · rw [zag (h2D b _ e)]; exact bs.frzs b o u e
        · rw [zag (h2D b _ e)]; exact bs.tbls b ps e
        · by_cases hb : b = D
          · subst hb
            rw [zau] at e
            cases e
            exact ⟨hz, us, nn, rv, pD⟩
          · rw [zag hb] at e
            exact (I5.hok b u e).stay (fun c v _ q => q) (fun c q => by rw [zag (zaz q nD)]; exact q) fun c xs q => by rw [zag (zaz q nD)]; exact q
        · obtain ⟨_, f1, _, f3, f4, f5⟩ := f2 b hb
          exact ⟨f3, f1, f4, f5⟩
      obtain ⟨m, hn, _⟩ := I5.loc
      refine hRR D C s4 _ I6 ⟨m, hn⟩ (I2.fpOk (by omega) ?_) (qn D (Hn D (Nat.le_refl _)) nD)
      rw [zag hDC.symm]
      exact I5.free
    · refine thn (T.item Y rfl rfl rfl hc i _ s3 σ3 H3 E00 I3 (fpY one fr3) st3 go) fun r s4 ⟨u, hr, h4⟩ => ?_
      subst hr
      refine thn h4 fun _ s5 ⟨x, H5, I5, r5, y5, st5, fr5⟩ => ?_
      have I5' := I5.pinned (fpY one fr5) (T.obj _ _ st5)
      refine thn (hg cl C fp s2 H2 _ s5 σ3 H5 x u _ I5' r5 (step x H5 y5)) fun _ s6 ⟨σ6, H6, I6, q6⟩ => ?_
      refine thn (ht cl C fp s2 H2 _ s6 σ6 H6 _ I6 q6) fun b s7 ⟨H7, I7, q7⟩ => ?_
      have kp : ∀ {H8 : Hp} {s8 : Shared}, Inv Y ([(D, zb2 us nn)] ++ zeu fp s5.heap) σ6 H8 s8 -> tn (i + 1) s8.heap /\ (∀ b ∈ fp, H8 b = none) := fun {H8 s8} I8 => by
        refine ⟨T.keep _ _ _ st5 fun b hb o e => (I8.pin (b, o) (List.mem_append_right _ (List.mem_append_right _ (zek hb e)))).1, fun b hb => ?_⟩
        obtain ⟨o, e, d⟩ := T.obj _ _ st5 b hb
        exact (I8.pin (b, o) (List.mem_append_right _ (List.mem_append_right _ (zek hb e)))).2.1
      cases b with
      | false =>
        rw [if_neg Bool.false_ne_true] at q7 ⊢
        obtain ⟨m', hm, w7⟩ := hN _ _ _ q7
        obtain ⟨st7, fr7⟩ := kp I7
        exact ⟨m', hm, i + 1, ys, us, nn, σ6, H7, I7.unpinned, st7, fr7, rv, w7⟩
      | true =>
        rw [if_pos rfl] at q7 ⊢
        refine thn (he cl C fp s2 H2 _ s7 σ6 H7 _ I7 q7) fun uy s8 ⟨y, H8, I8, r8, q8⟩ => ?_
        obtain ⟨m', hm, w8⟩ := hN _ _ _ q8
        obtain ⟨st8, fr8⟩ := kp I8
        obtain ⟨pD, nD, pC, pF, _⟩ := I8.pin (D, zb2 us nn) (by simp)
        have hl := rv.length
        refine wpAny_list_append_plain (items := us.toArray) ⟨nn, pD⟩ (fun h' hl' sb => ?_) (by simp only [List.size_toArray] <;> omega)
        obtain ⟨n', e'⟩ := hl'
        have I8n : Inv Y [] σ6 H8 s8 := I8.pins_of (fun _ z => nomatch z)
        have I9 : Inv Y [] σ6 H8 { s8 with heap := h' } := I8n.turned (t' := s8.toks) (it := D) (fun b o hb e => (sb.2 b hb).trans e) nD pC (.inr (by show s2.heap.objs.size <= D; omega)) (fun x c e => Nat.ne_of_lt (clo x c e)) (fun p hp => nomatch hp)
        refine ⟨m', hm, i + 1, ys ++ [y], us ++ [uy], n', σ6, H8, I9.pins_of (fun p hp => ?_), ?_, fr8, rv.append (.cons r8 .nil), w8⟩
        · have hp : p = (D, zb2 (us ++ [uy]) n') := by simpa using hp
          subst hp
          refine ⟨?_, nD, pC, pF, fun v z => by cases z⟩
          have e2 : h'.get? D = some { cls := .type "list", data := .seq (us.toArray.push uy) n' } := e'
          show h'.get? D = some { cls := .type "list", data := .seq (us ++ [uy]).toArray n' }
          rw [e2]
          simp
        · exact T.keep _ _ _ st8 fun b hb o e => (sb.2 b (Nat.ne_of_lt (fpo b hb))).trans e
  exact codeAny_compStart_list loop (T.self X.A 0 _ _ _ st1 loop)
theorem zov (k : Nat) (js : List Nat) (Nc : List Str) (hc : X.calm = true) (hi : PI X tg iter wi)
    (hg : ∀ cl C ex s₂ H₂, PG (X.comp scope Nc cl C ex s₂ H₂) tg g) (ht : ∀ cl C ex s₂ H₂, PTs (X.comp scope Nc cl C ex s₂ H₂) ifs tt) (he : ∀ cl C ex s₂ H₂, PE (X.comp scope Nc cl C ex s₂ H₂) elt te)
    (ck : zf7 scope X.env.scope.names X.N Nc k js = true := by rfl) (hs : ∀ x, foldedSetIterable iter X.env x = pure x := by intro _; rfl) :
    PE X (.ListComp elt [⟨tg, iter, ifs, 0⟩] scope pos) (zjn k js wi g tt te) := by
  intro pins s σ H Q I h
  have ck := zfg.of ck
  rw [eval_ListComp]
  obtain ⟨cl, hcl, a1, a2⟩ := zmn (scope := scope) (env := X.env) fun x hx e => I.ok.has x.1 (ck.free x hx e)
  refine wpAny_comprehension_free (use := none) rfl hs hcl ck.kind ck.loc (thn (hi pins s σ H _ I h) fun v s1 h1 => thn h1 fun itv s2 h2 => ?_)
  obtain ⟨it, fp, tn, J, H2, e, I2, T, st2, f2, hW⟩ := h2
  subst e
  refine ztb (RR := fun acc C => compPost (model X.prog X.w) X.A X.xe none (EP X pins σ Q) acc C) hc ck hg ht he a1 a2 I2 T st2 f2 hW fun D C s' H' I' ⟨m, hn⟩ fC q => ?_
  obtain ⟨f0, f1, _, f3, f4, f5⟩ := fC
  exact ⟨m, hn, fun h' hs' => ⟨.ref D, H', I'.turned (t' := s'.toks) (fun b o hb e => (hs'.2 b hb).trans e) f0 f1 f3 f4 f5, rfl, q⟩⟩
end
section
variable {K : PySem.W.Frag} {g : TG} {tt : TT} {te : TE} {σ0 : St} {H1 : Hp} {Q : VK}
end
end L2
namespace L2
open PySem PySem.Spec PyProof.Rows
section
variable {X : Cx}
theorem zpg : zbk X (.builtin "isinstance") (fun xs H Q => ∃ x T t b, xs = [x, .ty T] /\ zbd X.K H x t /\ PySem.W.kitOne X.K t (.type T) = some b /\ Q (.bl b) H) := by
  intro pins s σ H xs us Q I r h
  obtain ⟨x, T, t, b, rfl, ty, e, q⟩ := h
  obtain ⟨u, w', rfl, rx, rc⟩ := zlm r
  cases (show w' = Value.type T from rc)
  exact zou I rx ty e fun tk => ⟨.bl b, H, I.tok tk, rfl, q⟩
theorem PE.or {e : Expr} {t t' : TE} (h : PE X e t) (h' : PE X e t') : PE X e (fun σ H Q => t σ H Q \/ t' σ H Q) := by
  intro pins s σ H Q I q
  rcases q with q | q
  · exact h pins s σ H Q I q
  · exact h' pins s σ H Q I q
end
theorem Paired.at' {α β : Type} {F : α -> β -> Prop} : ∀ {l₁ : List α} {l₂ : List β} {i : Nat} {a : α} {b : β}, Paired F l₁ l₂ -> l₁[i]? = some a -> l₂[i]? = some b -> F a b
  | _, _, _, _, _, .nil, e, _ => by simp at e
  | _, _, 0, _, _, .cons r _, e, e' => by simp at e e'; subst e e'; exact r
  | _, _, i + 1, a, b, .cons _ t, e, e' => Paired.at' (i := i) t (by simpa using e) (by simpa using e')
theorem zad.at' {xs : List V} {us : List Value} {i : Nat} {u : Value} (r : zad xs us) (e : us[i]? = some u) : ∃ x, xs[i]? = some x /\ zae x u := by
  have hl := r.length
  have hi : i < xs.length := by have := (List.getElem?_eq_some_iff.mp e).1; omega
  refine ⟨xs[i], by simp [hi], ?_⟩
  obtain ⟨u', e', r'⟩ := r.get (i := i) (x := xs[i]) (by simp [hi])
  rw [e] at e'; cases e'; exact r'
section
variable {X : Cx} {pins : List (Addr × Obj)} {σ : St} {H : Hp} {s : Shared}
end
end L2
namespace L2
open PySem PySem.Spec PyProof.Rows
theorem zen {env : Env} {k' : NameKind} (hk : k' ≠ .free) : ∀ {names : List (Str × NameKind)} {x : Str}, names.lookup x = some k' ->
    (names.map fun (n, k) => if (k == NameKind.free && env.scope.kind == .function && env.kindOf n == some .cell) then (n, NameKind.cell) else (n, k)).lookup x = some k'
  | [], _, h => by simp at h
  | (n, k) :: r, x, h => by
    have ih := @zen env k' hk r x
    rw [List.map_cons]
    show List.lookup x ((if (k == NameKind.free && env.scope.kind == .function && env.kindOf n == some .cell) = true then (n, NameKind.cell) else (n, k)) :: _) = _
    rw [List.lookup_cons] at h
    cases hx : x == n with
    | true =>
      rw [hx] at h
      have e : k = k' := Option.some.inj h
      subst e
      have hf : (k == NameKind.free) = false := by simpa using hk
      rw [hf, Bool.false_and, Bool.false_and, if_neg Bool.false_ne_true, List.lookup_cons, hx]
    | false =>
      rw [hx] at h
      split
      · rw [List.lookup_cons, hx]; exact ih h
      · rw [List.lookup_cons, hx]; exact ih h
theorem zrv {env : Env} {scope : Scope} {x : Str} (h : Vis scope x) : Vis (relabel scope env) x := by
  rcases h with h | h | h
  · exact .inl (zen (by decide) h)
  · exact .inr (.inl (zen (by decide) h))
  · rcases zh5 (env := env) h with z | z
    · exact .inr (.inl z)
    · exact .inr (.inr z)
section
variable {X : Cx} {scope : Scope} {Nc : List Str} {cl : List (Str × Addr)} {C : Addr} {ex : List Addr} {s₂ : Shared} {H₂ : Hp}
theorem pvc (i : Nat) {x : Str} {pos : Pos} (hN : Nc[i]? = some x := by rfl) (hv : Vis scope x := by first | exact Or.inl rfl | exact Or.inr (Or.inl rfl) | exact Or.inr (Or.inr rfl)) (hd : (x == ("__debug__" : Str)) = false := by decide)
    (hcd : (x == ("__classdict__" : Str)) = false := by decide) : PE (X.comp scope Nc cl C ex s₂ H₂) (.Name x pos) (zbz i) := zc1 hN (zrv hv) hd hcd
theorem pgc (i : Nat) {x : Str} {pos : Pos} (hN : Nc.Nodup := by decide +kernel) (hi : Nc[i]? = some x := by rfl) (hl : scope.names.lookup x = some .local := by rfl) : PG (X.comp scope Nc cl C ex s₂ H₂) (.Name x pos) (zdi i) :=
  zju (X := X.comp scope Nc cl C ex s₂ H₂) hN hi (.inl (zen (by decide) hl)) (.inr (zen (by decide) hl))
end
theorem zaw {H : Hp} {p : Addr} {o : HO} (h : H p = none) : zac H (upd H p o) := fun b u e => by rw [zag (zaz e h)]; exact e
theorem zac.tup {K : PySem.W.Frag} {H H' : Hp} {a : Addr} {xs : List V} (e : zac H H') (h : SqT K H a xs) : SqT K H' a xs := by
  rcases h with (h | ⟨o, h⟩) | h
  · exact .inl (.inl (e _ _ h))
  · exact .inl (.inr ⟨o, e _ _ h⟩)
  · exact .inr h
noncomputable def zbs (p : Addr) (H H' : Hp) : Prop := ∀ b o, H b = some o -> b ≠ p -> H' b = some o
theorem zbs.refl (p : Addr) (H : Hp) : zbs p H H := fun _ _ h _ => h
theorem zbs.trans {p : Addr} {H H1 H2 : Hp} (a : zbs p H H1) (b : zbs p H1 H2) : zbs p H H2 := fun c o h n => b c o (a c o h n) n
theorem zac.grow {p : Addr} {H H' : Hp} (a : zac H H') : zbs p H H' := fun c o h _ => a c o h
theorem zbs.same {p : Addr} {H H' : Hp} (a : zbs p H H') (h : H p = none) : zac H H' := fun c o e => a c o e (zaz e h)
theorem zbs.seq {K : PySem.W.Frag} {p : Addr} {H H' : Hp} {a : Addr} {xs : List V} (e : zbs p H H') (n : a ≠ p) (h : SqL K H a xs) : SqL K H' a xs := by
  rcases h with (h | ⟨o, h⟩) | h
  · exact .inl (.inl (e _ _ h n))
  · exact .inl (.inr ⟨o, e _ _ h n⟩)
  · exact .inr h
noncomputable def zeq (K : PySem.W.Frag) (H : Hp) (L : Addr) (its : List (Int × Int)) : Prop :=
  ∃ zs : List (Addr × Int × Int), SqL K H L (zs.map fun z => V.ref z.1) /\ (∀ z ∈ zs, SqT K H z.1 [.int z.2.1, .int z.2.2]) /\ its = zs.map (·.2) /\ zs.length <= 1000
theorem zac.items {K : PySem.W.Frag} {H H' : Hp} {L : Addr} {its : List (Int × Int)} (e : zac H H') (h : zeq K H L its) : zeq K H' L its := by
  obtain ⟨zs, h1, h2, h3, h4⟩ := h
  exact ⟨zs, e.seq h1, fun z hz => e.tup (h2 z hz), h3, h4⟩
noncomputable def InR (n : Nat) (its : List (Int × Int)) : Prop := ∀ z ∈ its, 0 <= z.1 /\ z.1 < (n : Int)
noncomputable def zj5 (p : Option Bool -> Bool) (es : List (Option Bool)) (its : List (Int × Int)) : Int := ((its.filter fun z => p (es.getD z.1.toNat none)).map (·.2)).sum
inductive Prt where
  | inn (t : Int) | out (t : Int) | least (k : Int) (its : List (Int × Int)) | most (k : Int) (its : List (Int × Int))
noncomputable def Prt.InR (n : Nat) : Prt -> Prop
  | .inn t => 0 <= t /\ t < (n : Int)
  | .out t => 0 <= t /\ t < (n : Int)
  | .least _ its => L2.InR n its
  | .most _ its => L2.InR n its
noncomputable def zp8 (K : PySem.W.Frag) (H : Hp) (p : Addr) : Prt -> Prop
  | .inn t => SqT K H p [.str "in", .int t]
  | .out t => SqT K H p [.str "out", .int t]
  | .least k its => ∃ L, SqT K H p [.str "least", .int k, .ref L] /\ zeq K H L its
  | .most k its => ∃ L, SqT K H p [.str "most", .int k, .ref L] /\ zeq K H L its
noncomputable def bs (l : List Bool) : List (Option Bool) := l.map some
noncomputable def Prt.holds (rs ws : List Bool) : Prt -> Bool
  | .inn t => (rs.getD t.toNat false)
  | .out t => !(ws.getD t.toNat false)
  | .least k its => decide (k <= zj5 (· == some true) (bs rs) its)
  | .most k its => decide (zj5 (· == some true) (bs ws) its <= k)
end L2
namespace L2
open PySem PySem.Spec PyProof.Rows
section
variable {X : Cx} {pins : List (Addr × Obj)} {σ : St} {H : Hp} {s : Shared} {h' : Heap}
theorem Inv.turnedMany {t' : Nat} {ch : List Addr} (I : Inv X pins σ H s) (k : ∀ b o, b ∉ ch -> s.heap.get? b = some o -> h'.get? b = some o) (hf : ∀ b ∈ ch, zbp X pins H b) : Inv X pins σ H { s with heap := h', toks := t' } := by
  refine I.step (g' := s.gens) (d' := s.drawn) (ch := ch) (fun b hb => ?_) (fun b o _ _ hc e _ => k b o hc e) (fun b o _ _ hc e _ => ⟨o.slots, k b o hc e⟩) (fun _ _ _ _ n => n)
    (fun b o hc e => ⟨o, k b o hc e⟩) (fun _ _ e => e) (fun _ _ _ e => e) (fun b ps e => ⟨#[], by rw [e]; simp⟩) (fun m hm => ?_) (fun b u e => ?_) I.bare
  · obtain ⟨_, f1, _, f3, f4, f5⟩ := hf b hb
    exact ⟨f3, f1, f4, f5⟩
  · obtain ⟨o, es, ep, ho, r⟩ := hm
    exact ⟨o, es, ep, k _ o (fun z => (hf _ z).2.1 rfl) ho, r⟩
  · refine (I.hok b u e).stay (fun c v hc q => k c v (fun z => ?_) q) (fun _ q => q) fun _ _ q => q
    have hn := (hf c z).1
    rcases hc with y | y
    · rw [y, e] at hn; cases hn
    · rw [hn] at y; cases y
theorem Inv.track {p : Addr} {o : HO} (I : Inv X pins σ H s) (f : zbp X pins H p) (ob : zay X.prog X.w (upd H p o) s.heap p o) : Inv X pins σ (upd H p o) s := by
  obtain ⟨f0, f1, f2, f3, f4, f5⟩ := f
  have ne : ∀ b u, H b = some u -> b ≠ p := fun b u e => zaz e f0
  have one : ∀ b : Addr, b ∉ [p] -> b ≠ p := fun b hb z => hb (by rw [z]; simp)
  refine I.step (g' := s.gens) (d' := s.drawn) (t' := s.toks) (h' := s.heap) (ch := [p]) (fun b hb => ?_) (fun b o _ _ hc e _ => e) (fun b o _ _ hc e _ => ⟨o.slots, e⟩) (fun b o hc e n => ?_)
    (fun b o hc e => ⟨o, e⟩) (fun b xs e => ?_) (fun b o u e => ?_) (fun b ps e => ⟨#[], ?_⟩) (fun m hm => hm) (fun b u e => ?_) I.bare
  · have e : b = p := by simpa using hb
    subst e
    exact ⟨f3, f1, f4, f5⟩
  · rw [zag (one b hc)]; exact n
  · rw [zag (ne b _ e)]; exact e
  · rw [zag (ne b _ e)]; exact e
  · rw [zag (ne b _ e), e]; simp
  · by_cases hb : b = p
    · subst hb
      rw [zau] at e
      cases e
      exact ob
    · rw [zag hb] at e
      exact (I.hok b u e).stay (fun c v _ q => q) (fun c q => by rw [zag (ne c _ q)]; exact q) fun c xs q => by rw [zag (ne c _ q)]; exact q
end
noncomputable def Itz (K : PySem.W.Frag) (l1 l2 : Addr) : It :=
  ⟨fun i H => ∃ xs ys x y, SqL K H l1 xs /\ SqL K H l2 ys /\ xs[i]? = some x /\ ys[i]? = some y,
   fun i H v H' => ∃ p x y, v = .ref p /\ H p = none /\ H' = upd H p (.tup [x, y]) /\ (∀ xs, SqL K H l1 xs -> xs[i]? = some x) /\ (∀ ys, SqL K H l2 ys -> ys[i]? = some y),
   fun i H => ∃ xs ys, SqL K H l1 xs /\ SqL K H l2 ys /\ (xs.length <= i \/ ys.length <= i)⟩
theorem zne {P : Program} {w : World} {K : PySem.W.Frag} {elts : List Expr} {kx : Nat} {pos : Pos} (z TI TO i1 i2 l1 l2 : Addr) (D : ZipApart z TI TO i1 i2 l1 l2) :
    zdt P w K (.Tuple elts kx pos) (Itz K l1 l2) [z, TI, TO, i1, i2] z (fun i h => IsZip h z TI TO .none /\ IsPair h TI (.ref i1) (.ref i2) /\ (∃ a b, IsPair h TO a b) /\ h.IsListIter i1 l1 i /\ h.IsListIter i2 l2 i) where
  mem := by simp
  obj := fun i h st b hb => by
    obtain ⟨hz, hTI, ⟨a, c, hTO⟩, ⟨o1, e1, _, d1⟩, ⟨o2, e2, _, d2⟩⟩ := st
    simp only [List.mem_cons, List.not_mem_nil, or_false] at hb
    rcases hb with rfl | rfl | rfl | rfl | rfl
    · exact ⟨_, hz, fun v q => by cases q⟩
    · exact ⟨_, hTI, fun v q => by cases q⟩
    · exact ⟨_, hTO, fun v q => by cases q⟩
    · exact ⟨o1, e1, fun v q => by rw [d1] at q; cases q⟩
    · exact ⟨o2, e2, fun v q => by rw [d2] at q; cases q⟩
  keep := fun i h h' st k => by
    obtain ⟨hz, hTI, ⟨a, c, hTO⟩, h1, h2⟩ := st
    exact ⟨k z (by simp) _ hz, k TI (by simp) _ hTI, ⟨a, c, k TO (by simp) _ hTO⟩, h1.at fun o e => k i1 (by simp) o e, h2.at fun o e => k i2 (by simp) o e⟩
  item := by
    intro X hP hw hK hc i pins s σ H E I hf st hg
    subst hP hw hK
    obtain ⟨hz, hTI, ⟨a, c, hTO⟩, h1, h2⟩ := st
    obtain ⟨xs, ys, x, y, q1, q2, hx, hy⟩ := hg
    obtain ⟨its1, r1, p1, z1⟩ := I.list q1
    obtain ⟨its2, r2, p2, z2⟩ := I.list q2
    obtain ⟨u1, e1, ru1⟩ := r1.get hx
    obtain ⟨u2, e2, ru2⟩ := r2.get hy
    refine wpAny_pyNext_zip_item D hz hTI hTO h1 h2 p1.isList p2.isList (x := u1) (y := u2) (by simpa using e1) (by simpa using e2) fun h' a1 a2 a3 a4 a5 a6 a7 => ⟨_, rfl, ?_⟩
    refine wpAny_letOwnedTupleGo_zip (s := { s with heap := h' }) a1 fun h'' b1 b2 => ?_
    have lt : ∀ b ∈ [z, TI, TO, i1, i2], b < s.heap.objs.size := fun b hb => by
      simp only [List.mem_cons, List.not_mem_nil, or_false] at hb
      rcases hb with rfl | rfl | rfl | rfl | rfl
      · exact Heap.lt_size hz
      · exact Heap.lt_size hTI
      · exact Heap.lt_size hTO
      · obtain ⟨o, e, _⟩ := h1; exact Heap.lt_size e
      · obtain ⟨o, e, _⟩ := h2; exact Heap.lt_size e
    have kk : ∀ b o, b ∉ [z, TI, TO, i1, i2] -> s.heap.get? b = some o -> h''.get? b = some o := fun b o hb e => by
      simp only [List.mem_cons, List.not_mem_nil, or_false, not_or] at hb
      obtain ⟨n1, n2, n3, n4, n5⟩ := hb
      exact (b2.2 b n1).trans (a7 b o n1 n3 n4 n5 e)
    have fr : H s.heap.objs.size = none := I.hok.fresh (Nat.le_refl _)
    have I1 : Inv X pins σ H { s with heap := h'' } := I.turnedMany (t' := s.toks) kk hf
    have hp : h''.get? s.heap.objs.size = some { cls := .type "tuple", data := .seq #[u1, u2] } := (b2.2 _ (Nat.ne_of_gt (lt z (by simp)))).trans a5
    have I2 : Inv X pins σ (upd H s.heap.objs.size (.tup [x, y])) { s with heap := h'' } :=
      I1.track (I.fpOk (Nat.le_refl _) fr) ⟨(by show 2 <= sizeLine; decide), [u1, u2], .cons ru1 (.cons ru2 .nil), ⟨_, hp, rfl, _, rfl⟩⟩
    refine ⟨.ref s.heap.objs.size, _, I2, rfl, ⟨_, x, y, rfl, fr, rfl, fun xs' h => by rw [I.list_inj h q1]; exact hx, fun ys' h => by rw [I.list_inj h q2]; exact hy⟩, ⟨b1, ?_, ⟨u1, u2, ?_⟩, ?_, ?_⟩, fun b hb => ?_⟩
    · exact (b2.2 TI D.TIz).trans (a7 TI _ D.TIz D.TITO D.TIi1 D.TIi2 hTI)
    · exact (b2.2 TO D.TOz).trans a2
    · exact a3.at fun o e => (b2.2 i1 D.i1z).trans e
    · exact a4.at fun o e => (b2.2 i2 D.i2z).trans e
    · rw [zag (Nat.ne_of_lt (lt b hb))]
      exact (hf b hb).1
  done := by
    intro X hP hw hK hc i pins s σ H E I hf st hg
    subst hP hw hK
    obtain ⟨hz, hTI, ⟨a, c, hTO⟩, h1, h2⟩ := st
    obtain ⟨xs, ys, q1, q2, hend⟩ := hg
    obtain ⟨its1, r1, p1, z1⟩ := I.list q1
    obtain ⟨its2, r2, p2, z2⟩ := I.list q2
    have l1' := r1.length
    have l2' := r2.length
    refine wpAny_pyNext_zip_end (I.ok.hd hc) D hz hTI hTO h1 h2 p1.isList p2.isList ?_ fun h' kk => ⟨rfl, I.turnedMany (t' := s.toks) (ch := [z, TI, TO, i1, i2]) (fun b o hb e => ?_) hf⟩
    · rcases hend with q | q
      · exact .inl (by simp; omega)
      · exact .inr (by simp; omega)
    · simp only [List.mem_cons, List.not_mem_nil, or_false, not_or] at hb
      obtain ⟨n1, n2, n3, n4, n5⟩ := hb
      exact kk b o n1 n3 n4 n5 e
  self := fun _ _ _ _ _ st h => wpAny_pyIter_zip st.1 h
section
variable {X : Cx} {elts : List Expr} {kx : Nat} {tpos : Pos}
noncomputable def zsg (K : PySem.W.Frag) (ta : TA) : TI := fun σ H R => ta σ H fun vs H1 => ∃ l1 l2, vs = [.ref l1, .ref l2] /\ (∃ xs, SqL K H1 l1 xs) /\ (∃ ys, SqL K H1 l2 ys) /\ R (Itz K l1 l2) H1
theorem zr4 {a b : Expr} {ta : TA} {p pos : Pos} (hg : Gl X "zip") (hm : X.mg "zip" = none) (ha : PA X [a, b] ta) (hs : starEach [a, b] X.env = [(false, eval a X.env), (false, eval b X.env)] := by rfl) (hs2 : starEach [b] X.env = [(false, eval b X.env)] := by rfl) :
    PI X (.Tuple elts kx tpos) (.Call (.Name "zip" p) [a, b] [] pos) (zsg X.K ta) := by
  intro pins s σ H R I h
  refine Call_ (zfm I hg hm boot_zip (PyProof.Rows.callWith_type1 (thn (ha pos pins s σ H _ I h) fun us s1 ⟨vs, H1, I1, r1, q1⟩ => ?_) (by rw [hs, hs2]) (by rw [hs2]; rfl)))
  obtain ⟨l1, l2, e, ⟨xs, h1⟩, ⟨ys, h2⟩, q⟩ := q1
  subst e
  obtain ⟨u, v, rfl, ru, rv⟩ := zlm r1
  cases ru
  cases rv
  obtain ⟨its1, r1, p1, z1⟩ := I1.list h1
  obtain ⟨its2, r2, p2, z2⟩ := I1.list h2
  refine call_zip_2 p1.isList p2.isList fun h' a1 a2 a3 a4 a5 a6 a7 => ?_
  refine wpAny_pyIter_zip a1 ?_
  have I2 : Inv X pins σ H1 { s1 with heap := h' } := I1.kept (t' := s1.toks) a7
  refine ⟨_, [s1.heap.objs.size + 4, s1.heap.objs.size + 2, s1.heap.objs.size + 3, s1.heap.objs.size, s1.heap.objs.size + 1], _, _, H1, rfl, I2, zne _ _ _ _ _ _ _ (zipApart_new p1.lt p2.lt), ⟨a1, a2, ⟨_, _, a3⟩, a4, a5⟩, fun b hb => ?_, q⟩
  simp only [List.mem_cons, List.not_mem_nil, or_false] at hb
  have hle : s1.heap.objs.size <= b := by
    rcases hb with rfl | rfl | rfl | rfl | rfl
    · exact Nat.le_add_right _ _
    · exact Nat.le_add_right _ _
    · exact Nat.le_add_right _ _
    · exact Nat.le_refl _
    · exact Nat.le_add_right _ _
  exact I1.fpOk hle (I1.hok.fresh hle)
end
end L2
namespace L2
open PySem PySem.Spec PyProof.Rows
noncomputable def zfs (L : Addr) (its : List (Int × Int)) (vs : List V) : Prt -> Prop
  | .inn t => vs = [.str "in", .int t]
  | .out t => vs = [.str "out", .int t]
  | .least k i => vs = [.str "least", .int k, .ref L] /\ i = its
  | .most k i => vs = [.str "most", .int k, .ref L] /\ i = its
theorem zfs.at {K : PySem.W.Frag} {H : Hp} {L p : Addr} {its : List (Int × Int)} {vs : List V} {r : Prt} (t : zfs L its vs r) (hp : H p = some (.tup vs)) (hL : zeq K H L its) : zp8 K H p r := by
  cases r with
  | inn t' => cases t; exact SqT.of hp
  | out t' => cases t; exact SqT.of hp
  | least k i => obtain ⟨rfl, rfl⟩ := t; exact ⟨L, SqT.of hp, hL⟩
  | most k i => obtain ⟨rfl, rfl⟩ := t; exact ⟨L, SqT.of hp, hL⟩
structure zg3 (Hb : Hp) (r L : Addr) (its : List (Int × Int)) (n : Nat) (rows : List (Addr × List V × Prt)) (H : Hp) : Prop where
  same : zac Hb H
  lst : H r = some (.lst (rows.map fun z => V.ref z.1))
  all : ∀ z ∈ rows, H z.1 = some (.tup z.2.1) /\ zfs L its z.2.1 z.2.2 /\ z.2.2.InR n
theorem zg3.more {Hb H : Hp} {r L : Addr} {its : List (Int × Int)} {n : Nat} {rows : List (Addr × List V × Prt)} (R : zg3 Hb r L its n rows H) (hr : Hb r = none) {p : Addr} (hp : H p = none) {vs : List V} {pr : Prt} (ht : zfs L its vs pr) (hin : pr.InR n) :
    (upd H p (.tup vs)) r = some (.lst (rows.map fun z => V.ref z.1)) /\ zg3 Hb r L its n (rows ++ [(p, vs, pr)]) (upd (upd H p (.tup vs)) r (.lst (rows.map (fun z => V.ref z.1) ++ [.ref p]))) /\
    (∀ b o, H b = some o -> b ≠ r -> (upd (upd H p (.tup vs)) r (.lst (rows.map (fun z => V.ref z.1) ++ [.ref p]))) b = some o) := by
  have nrp : r ≠ p := zaz R.lst hp
  refine ⟨by rw [zag nrp]; exact R.lst, ⟨fun b o e => ?_, ?_, fun z hz' => ?_⟩, fun b o e nb => ?_⟩
  · rw [zag (zaz e hr), zag (zaz (R.same _ _ e) hp)]
    exact R.same _ _ e
  · rw [zau, List.map_append]
    rfl
  · rcases List.mem_append.mp hz' with hz' | hz'
    · obtain ⟨h1, h2⟩ := R.all z hz'
      refine ⟨?_, h2⟩
      rw [zag (zr0 h1 R.lst (by intro e; cases e)), zag (zaz h1 hp)]
      exact h1
    · have : z = (p, vs, pr) := by simpa using hz'
      subst this
      refine ⟨?_, ht, hin⟩
      rw [zag nrp.symm, zau]
  · rw [zag nb, zag (zaz e hp)]
    exact e
end L2
namespace L2
open PySem PySem.Spec PyProof.Rows
inductive D where
  | non
  | bl (b : Bool)
  | int (i : Int)
  | str (x : Str)
  | lst (xs : List D)
  | tup (xs : List D)
  | kl (xs : List D)
  | kt (xs : List D)
  | dic (ks : List Key) (xs : List D)
  | ins (c : Str) (ns : List Str) (xs : List D)
  | kd (ks : List Key) (xs : List D)
  deriving Inhabited
set_option genInjectivity false in
structure Gc where
  K : PySem.W.Frag
  cl : Str -> Addr
mutual
noncomputable def Rep (G : Gc) (H : Hp) : D -> V -> Prop
  | .non, v => v = .non
  | .bl b, v => v = .bl b
  | .int i, v => v = .int i
  | .str x, v => v = .str x
  | .lst ds, v => ∃ a vs, v = .ref a /\ H a = some (.lst vs) /\ zaa G H ds vs
  | .tup ds, v => ∃ a vs, v = .ref a /\ H a = some (.tup vs) /\ zaa G H ds vs
  | .kl ds, v => ∃ a vs, v = .ref a /\ SqL G.K H a vs /\ zaa G H ds vs
  | .kt ds, v => ∃ a vs, v = .ref a /\ SqT G.K H a vs /\ zaa G H ds vs
  | .dic ks ds, v => ∃ a vs, v = .ref a /\ H a = some (.dK (ks.zip vs)) /\ ks.length = vs.length /\ zaa G H ds vs
  | .ins c ns ds, v => ∃ a dx vs, v = .ref a /\ H a = some (.ins (G.cl c) dx (ns.zip vs)) /\ ns.length = vs.length /\ zaa G H ds vs
  | .kd ks ds, v => ∃ a od vs, v = .ref a /\ H a = some (.frz od (.dK (ks.zip vs))) /\ ks.length = vs.length /\ zaa G H ds vs
noncomputable def zaa (G : Gc) (H : Hp) : List D -> List V -> Prop
  | [], vs => vs = []
  | d :: ds, vs => ∃ v r, vs = v :: r /\ Rep G H d v /\ zaa G H ds r
end
section
variable {G : Gc} {H H' Hf Hf' : Hp}
mutual
theorem Rep.upM (s : zac H H') : ∀ (d : D) (v : V), Rep G H d v -> Rep G H' d v
  | .non, _, h => h
  | .bl _, _, h => h
  | .int _, _, h => h
  | .str _, _, h => h
  | .lst ds, _, ⟨a, vs, e, q, r⟩ => ⟨a, vs, e, s _ _ q, zaa.upM s ds vs r⟩
  | .tup ds, _, ⟨a, vs, e, q, r⟩ => ⟨a, vs, e, s _ _ q, zaa.upM s ds vs r⟩
  | .kl ds, _, ⟨a, vs, e, q, r⟩ => ⟨a, vs, e, s.seq q, zaa.upM s ds vs r⟩
  | .kt ds, _, ⟨a, vs, e, q, r⟩ => ⟨a, vs, e, s.tup q, zaa.upM s ds vs r⟩
  | .dic _ ds, _, ⟨a, vs, e, q, l, r⟩ => ⟨a, vs, e, s _ _ q, l, zaa.upM s ds vs r⟩
  | .ins _ _ ds, _, ⟨a, dx, vs, e, q, l, r⟩ => ⟨a, dx, vs, e, s _ _ q, l, zaa.upM s ds vs r⟩
  | .kd _ ds, _, ⟨a, od, vs, e, q, l, r⟩ => ⟨a, od, vs, e, s _ _ q, l, zaa.upM s ds vs r⟩
theorem zaa.upM (s : zac H H') : ∀ (ds : List D) (vs : List V), zaa G H ds vs -> zaa G H' ds vs
  | [], _, h => h
  | d :: ds, _, ⟨v, r, e, h1, h2⟩ => ⟨v, r, e, Rep.upM s d v h1, zaa.upM s ds r h2⟩
end
theorem Rep.up {d : D} {v : V} (r : Rep G H d v) (s : zac H H') : Rep G H' d v := Rep.upM s d v r
theorem zaa.up {ds : List D} {vs : List V} (r : zaa G H ds vs) (s : zac H H') : zaa G H' ds vs := zaa.upM s ds vs r
theorem zaa.nil : zaa G H [] [] := rfl
theorem zaa.cons {d : D} {ds : List D} {v : V} {vs : List V} (h : Rep G H d v) (t : zaa G H ds vs) : zaa G H (d :: ds) (v :: vs) := ⟨v, vs, rfl, h, t⟩
theorem zaa.length : ∀ {ds : List D} {vs : List V}, zaa G H ds vs -> ds.length = vs.length
  | [], _, h => by cases (show _ = [] from h); rfl
  | d :: ds, _, ⟨v, r, e, _, h⟩ => by subst e; simp [zaa.length h]
theorem zaa.append : ∀ {ds es : List D} {vs us : List V}, zaa G H ds vs -> zaa G H es us -> zaa G H (ds ++ es) (vs ++ us)
  | [], _, _, _, h, t => by cases (show _ = [] from h); exact t
  | d :: ds, _, _, _, ⟨v, r, e, h1, h2⟩, t => by subst e; exact ⟨v, r ++ _, rfl, h1, zaa.append h2 t⟩
theorem zaa.get : ∀ {ds : List D} {vs : List V} {i : Nat} {d : D}, zaa G H ds vs -> ds[i]? = some d -> ∃ v, vs[i]? = some v /\ Rep G H d v
  | [], _, _, _, _, e => by simp at e
  | d :: ds, _, 0, _, ⟨v, r, e, h1, _⟩, e' => by subst e; simp at e'; subst e'; exact ⟨v, rfl, h1⟩
  | d :: ds, _, i + 1, d', ⟨v, r, e, _, h2⟩, e' => by
    subst e
    obtain ⟨u, a, b⟩ := zaa.get (i := i) (d := d') h2 (by simpa using e')
    exact ⟨u, by simpa using a, b⟩
theorem zaa.get' : ∀ {ds : List D} {vs : List V} {i : Nat} {v : V}, zaa G H ds vs -> vs[i]? = some v -> ∃ d, ds[i]? = some d /\ Rep G H d v := fun {ds vs i v} h e => by
  have hl := h.length
  have hi : i < ds.length := by have := (List.getElem?_eq_some_iff.mp e).1; omega
  obtain ⟨u, a, b⟩ := h.get (i := i) (d := ds[i]) (by simp [hi])
  rw [e] at a; cases a
  exact ⟨ds[i], by simp [hi], b⟩
theorem zaa.ints : ∀ (ns : List Int), zaa G H (ns.map D.int) (ns.map V.int)
  | [] => rfl
  | n :: ns => ⟨_, _, rfl, rfl, zaa.ints ns⟩
theorem zaa.take : ∀ {ds : List D} {vs : List V} (n : Nat), zaa G H ds vs -> zaa G H (ds.take n) (vs.take n)
  | _, _, 0, _ => rfl
  | [], _, n + 1, h => by cases (show _ = [] from h); rfl
  | d :: ds, _, n + 1, ⟨v, r, e, h1, h2⟩ => by subst e; exact ⟨v, r.take n, rfl, h1, zaa.take n h2⟩
theorem zaa.drop : ∀ {ds : List D} {vs : List V} (n : Nat), zaa G H ds vs -> zaa G H (ds.drop n) (vs.drop n)
  | _, _, 0, h => h
  | [], _, n + 1, h => by cases (show _ = [] from h); rfl
  | d :: ds, _, n + 1, ⟨v, r, e, h1, h2⟩ => by subst e; exact zaa.drop n h2
theorem zaa.set : ∀ {ds : List D} {vs : List V} (i : Nat) {d : D} {v : V}, zaa G H ds vs -> Rep G H d v -> zaa G H (ds.set i d) (vs.set i v)
  | [], _, _, _, _, h, _ => by cases (show _ = [] from h); exact .nil
  | e :: ds, _, 0, _, _, ⟨v, r, e', _, h2⟩, q => by subst e'; exact ⟨_, r, rfl, q, h2⟩
  | e :: ds, _, i + 1, _, _, ⟨v, r, e', h1, h2⟩, q => by subst e'; exact ⟨v, r.set i _, rfl, h1, zaa.set i h2 q⟩
end
noncomputable def zcq : HO -> Bool
  | .tup _ => true
  | _ => false
structure Ext (Hf H Hf' H' : Hp) : Prop where
  f : zac Hf Hf'
  h : zac H H'
  s : zac Hf' H'
  n : ∀ l o, H l = some o -> zcq o = false -> Hf' l = Hf l
section
variable {Hf H Hf1 H1 Hf2 H2 : Hp} {p : Addr} {o : HO}
theorem Ext.refl (s : zac Hf H) : Ext Hf H Hf H := ⟨zac.refl _, zac.refl _, s, fun _ _ _ _ => rfl⟩
theorem Ext.trans (a : Ext Hf H Hf1 H1) (b : Ext Hf1 H1 Hf2 H2) : Ext Hf H Hf2 H2 := ⟨a.f.trans b.f, a.h.trans b.h, b.s, fun l o e t => (b.n l o (a.h l o e) t).trans (a.n l o e t)⟩
theorem Ext.new (s : zac Hf H) (h : H p = none) : Ext Hf H (upd Hf p o) (upd H p o) :=
  ⟨zaw (s.free h), zaw h, fun b u e => by
    by_cases hb : b = p
    · subst hb; rw [zau] at e ⊢; exact e
    · rw [zag hb] at e ⊢; exact s b u e, fun l u e _ => by rw [zag (zaz e h)]⟩
theorem Ext.tmp (s : zac Hf H) (h : H p = none) : Ext Hf H Hf (upd H p o) := ⟨zac.refl _, zaw h, s.trans (zaw h), fun _ _ _ _ => rfl⟩
theorem Ext.grow (s : zac Hf H) (g : zac H H1) : Ext Hf H Hf H1 := ⟨zac.refl _, g, s.trans g, fun _ _ _ _ => rfl⟩
theorem Ext.fix (a : Ext Hf H Hf1 H1) (hn : H p = none) (hf : Hf1 p = none) (hp : H1 p = some o) : Ext Hf H (upd Hf1 p o) H1 :=
  ⟨a.f.trans (zaw hf), a.h, fun b u e => by
    by_cases hb : b = p
    · subst hb; rw [zau] at e; rw [hp]; exact e
    · rw [zag hb] at e; exact a.s b u e, fun l u e t => by rw [zag (zaz e hn)]; exact a.n l u e t⟩
end
inductive O where
  | fz (d : D)
  | lst (xs : List O)
  | tup (xs : List O)
  | dic (ks : List Key) (xs : List O)
  | ins (c : Str) (ns : List Str) (xs : List O)
  | jnk (n : Nat)
  deriving Inhabited
mutual
noncomputable def OT (G : Gc) (Hf H : Hp) : O -> V -> List Addr -> Prop
  | .fz d, v, fp => Rep G Hf d v /\ fp = []
  | .lst os, v, fp => ∃ a vs fs, v = .ref a /\ H a = some (.lst vs) /\ OTs G Hf H os vs fs /\ fp = a :: fs
  | .tup os, v, fp => ∃ a vs, v = .ref a /\ H a = some (.tup vs) /\ OTs G Hf H os vs fp
  | .dic ks os, v, fp => ∃ a vs fs, v = .ref a /\ H a = some (.dK (ks.zip vs)) /\ ks.length = vs.length /\ OTs G Hf H os vs fs /\ fp = a :: fs
  | .ins c ns os, v, fp => ∃ a dx vs fs, v = .ref a /\ H a = some (.ins (G.cl c) dx (ns.zip vs)) /\ ns.length = vs.length /\ OTs G Hf H os vs fs /\ fp = a :: fs
  | .jnk n, v, fp => ∃ a vs, v = .ref a /\ H a = some (.lst vs) /\ vs.length <= n /\ fp = [a]
noncomputable def OTs (G : Gc) (Hf H : Hp) : List O -> List V -> List Addr -> Prop
  | [], vs, fp => vs = [] /\ fp = []
  | o :: os, vs, fp => ∃ v r f1 f2, vs = v :: r /\ OT G Hf H o v f1 /\ OTs G Hf H os r f2 /\ fp = f1 ++ f2
end
mutual
noncomputable def O.toD : O -> D
  | .fz d => d
  | .lst os => .lst (O.toDs os)
  | .tup os => .tup (O.toDs os)
  | .dic ks os => .dic ks (O.toDs os)
  | .ins c ns os => .ins c ns (O.toDs os)
  | .jnk _ => .non
noncomputable def O.toDs : List O -> List D
  | [] => []
  | o :: os => o.toD :: O.toDs os
end
mutual
noncomputable def O.kn : O -> Bool
  | .fz _ => true
  | .lst os => O.kns os
  | .tup os => O.kns os
  | .dic _ os => O.kns os
  | .ins _ _ os => O.kns os
  | .jnk _ => false
noncomputable def O.kns : List O -> Bool
  | [] => true
  | o :: os => o.kn && O.kns os
end
section
variable {G : Gc} {Hf H Hf' H' : Hp}
mutual
theorem OT.frameM (f : zac Hf Hf') : ∀ (o : O) (v : V) (fp : List Addr), OT G Hf H o v fp -> (∀ b u, H b = some u -> (zcq u = true \/ b ∈ fp) -> H' b = some u) -> OT G Hf' H' o v fp
  | .fz d, _, _, h, _ => ⟨h.1.up f, h.2⟩
  | .lst os, _, fp, ⟨a, vs, fs, e, q, r, ef⟩, k => ⟨a, vs, fs, e, k _ _ q (.inr (by rw [ef]; exact List.mem_cons_self)), OTs.frameM f os vs fs r (fun b u hb hm => k b u hb (hm.imp_right fun z => by rw [ef]; exact List.mem_cons_of_mem _ z)), ef⟩
  | .tup os, _, fp, ⟨a, vs, e, q, r⟩, k => ⟨a, vs, e, k _ _ q (.inl rfl), OTs.frameM f os vs fp r k⟩
  | .dic ks os, _, fp, ⟨a, vs, fs, e, q, z, r, ef⟩, k => ⟨a, vs, fs, e, k _ _ q (.inr (by rw [ef]; exact List.mem_cons_self)), z, OTs.frameM f os vs fs r (fun b u hb hm => k b u hb (hm.imp_right fun z => by rw [ef]; exact List.mem_cons_of_mem _ z)), ef⟩
  | .ins c ns os, _, fp, ⟨a, dx, vs, fs, e, q, z, r, ef⟩, k => ⟨a, dx, vs, fs, e, k _ _ q (.inr (by rw [ef]; exact List.mem_cons_self)), z, OTs.frameM f os vs fs r (fun b u hb hm => k b u hb (hm.imp_right fun z => by rw [ef]; exact List.mem_cons_of_mem _ z)), ef⟩
  | .jnk n, _, fp, ⟨a, vs, e, q, z, ef⟩, k => ⟨a, vs, e, k _ _ q (.inr (by rw [ef]; exact List.mem_cons_self)), z, ef⟩
theorem OTs.frameM (f : zac Hf Hf') : ∀ (os : List O) (vs : List V) (fp : List Addr), OTs G Hf H os vs fp -> (∀ b u, H b = some u -> (zcq u = true \/ b ∈ fp) -> H' b = some u) -> OTs G Hf' H' os vs fp
  | [], _, _, h, _ => h
  | o :: os, _, fp, ⟨v, r, f1, f2, e, h1, h2, ef⟩, k => ⟨v, r, f1, f2, e, OT.frameM f o v f1 h1 (fun b u hb hm => k b u hb (hm.imp_right fun z => by rw [ef]; exact List.mem_append_left _ z)), OTs.frameM f os r f2 h2 (fun b u hb hm => k b u hb (hm.imp_right fun z => by rw [ef]; exact List.mem_append_right _ z)), ef⟩
end
theorem OT.frame {o : O} {v : V} {fp : List Addr} (h : OT G Hf H o v fp) (f : zac Hf Hf') (k : ∀ b u, H b = some u -> (zcq u = true \/ b ∈ fp) -> H' b = some u) : OT G Hf' H' o v fp := OT.frameM f o v fp h k
theorem OT.up {o : O} {v : V} {fp : List Addr} (h : OT G Hf H o v fp) (f : zac Hf Hf') (s : zac H H') : OT G Hf' H' o v fp := h.frame f fun b u e _ => s b u e
theorem zgn {α β : Type} : ∀ {ks : List α} {vs us : List β}, ks.length = vs.length -> ks.length = us.length -> ks.zip vs = ks.zip us -> vs = us
  | [], [], [], _, _, _ => rfl
  | k :: ks, v :: vs, u :: us, h1, h2, e => by
    rw [List.zip_cons_cons, List.zip_cons_cons] at e
    injection e with e1 e2
    injection e1 with _ e3
    rw [e3, zgn (by simpa using h1) (by simpa using h2) e2]
  | [], _ :: _, _, h, _, _ => by cases h
  | [], [], _ :: _, _, h, _ => by cases h
  | _ :: _, [], _, h, _, _ => by cases h
  | _ :: _, _ :: _, [], _, h, _ => by cases h
mutual
theorem OT.funM : ∀ (o : O) (v : V) (f f' : List Addr), OT G Hf H o v f -> OT G Hf' H o v f' -> f = f'
  | .fz d, _, _, _, h, h' => h.2.trans h'.2.symm
  | .lst os, _, _, _, ⟨a, vs, fs, e, q, r, ef⟩, ⟨a', vs', fs', e', q', r', ef'⟩ => by
    subst e ef ef'
    cases e'
    rw [q] at q'
    cases q'
    rw [OTs.funM os vs fs fs' r r']
  | .tup os, _, f, f', ⟨a, vs, e, q, r⟩, ⟨a', vs', e', q', r'⟩ => by
    subst e
    cases e'
    rw [q] at q'
    cases q'
    exact OTs.funM os vs f f' r r'
  | .dic ks os, _, _, _, ⟨a, vs, fs, e, q, z, r, ef⟩, ⟨a', vs', fs', e', q', z', r', ef'⟩ => by
    subst e ef ef'
    cases e'
    rw [q] at q'
    have := zgn z z' (HO.dK.inj (Option.some.inj q'))
    subst this
    rw [OTs.funM os vs fs fs' r r']
  | .ins c ns os, _, _, _, ⟨a, dx, vs, fs, e, q, z, r, ef⟩, ⟨a', dx', vs', fs', e', q', z', r', ef'⟩ => by
    subst e ef ef'
    cases e'
    rw [q] at q'
    have := zgn z z' (HO.ins.inj (Option.some.inj q')).2.2
    subst this
    rw [OTs.funM os vs fs fs' r r']
  | .jnk n, _, _, _, ⟨a, vs, e, q, z, ef⟩, ⟨a', vs', e', q', z', ef'⟩ => by
    subst e ef ef'
    cases e'
    rfl
theorem OTs.funM : ∀ (os : List O) (vs : List V) (f f' : List Addr), OTs G Hf H os vs f -> OTs G Hf' H os vs f' -> f = f'
  | [], _, _, _, h, h' => h.2.trans h'.2.symm
  | o :: os, _, _, _, ⟨v, r, f1, f2, e, h1, h2, ef⟩, ⟨v', r', f1', f2', e', h1', h2', ef'⟩ => by
    subst e ef ef'
    cases e'
    rw [OT.funM o v f1 f1' h1 h1', OTs.funM os r f2 f2' h2 h2']
end
mutual
theorem OT.memM : ∀ (o : O) (v : V) (f : List Addr), OT G Hf H o v f -> ∀ a ∈ f, ∃ u, H a = some u /\ zcq u = false
  | .fz d, _, _, h, a, ha => by rw [h.2] at ha; cases ha
  | .lst os, _, _, ⟨a, vs, fs, e, q, r, ef⟩, b, hb => by
    subst ef
    rcases List.mem_cons.mp hb with z | z
    · subst z; exact ⟨_, q, rfl⟩
    · exact OTs.memM os vs fs r b z
  | .tup os, _, f, ⟨a, vs, e, q, r⟩, b, hb => OTs.memM os vs f r b hb
  | .dic ks os, _, _, ⟨a, vs, fs, e, q, z, r, ef⟩, b, hb => by
    subst ef
    rcases List.mem_cons.mp hb with z | z
    · subst z; exact ⟨_, q, rfl⟩
    · exact OTs.memM os vs fs r b z
  | .ins c ns os, _, _, ⟨a, dx, vs, fs, e, q, z, r, ef⟩, b, hb => by
    subst ef
    rcases List.mem_cons.mp hb with z | z
    · subst z; exact ⟨_, q, rfl⟩
    · exact OTs.memM os vs fs r b z
  | .jnk n, _, _, ⟨a, vs, e, q, z, ef⟩, b, hb => by
    subst ef
    rw [List.mem_singleton.mp hb]
    exact ⟨_, q, rfl⟩
theorem OTs.memM : ∀ (os : List O) (vs : List V) (f : List Addr), OTs G Hf H os vs f -> ∀ a ∈ f, ∃ u, H a = some u /\ zcq u = false
  | [], _, _, h, a, ha => by rw [h.2] at ha; cases ha
  | o :: os, _, _, ⟨v, r, f1, f2, e, h1, h2, ef⟩, a, ha => by
    subst ef
    rcases List.mem_append.mp ha with z | z
    · exact OT.memM o v f1 h1 a z
    · exact OTs.memM os r f2 h2 a z
end
mutual
theorem OT.repM (s : zac Hf H) : ∀ (o : O) (v : V) (f : List Addr), o.kn = true -> OT G Hf H o v f -> Rep G H o.toD v
  | .fz d, _, _, _, h => by rw [O.toD]; exact h.1.up s
  | .lst os, _, _, hk, ⟨a, vs, fs, e, q, r, ef⟩ => by rw [O.kn] at hk; rw [O.toD]; exact ⟨a, vs, e, q, OTs.repM s os vs fs hk r⟩
  | .tup os, _, f, hk, ⟨a, vs, e, q, r⟩ => by rw [O.kn] at hk; rw [O.toD]; exact ⟨a, vs, e, q, OTs.repM s os vs f hk r⟩
  | .dic ks os, _, _, hk, ⟨a, vs, fs, e, q, z, r, ef⟩ => by rw [O.kn] at hk; rw [O.toD]; exact ⟨a, vs, e, q, z, OTs.repM s os vs fs hk r⟩
  | .ins c ns os, _, _, hk, ⟨a, dx, vs, fs, e, q, z, r, ef⟩ => by rw [O.kn] at hk; rw [O.toD]; exact ⟨a, dx, vs, e, q, z, OTs.repM s os vs fs hk r⟩
  | .jnk _, _, _, hk, _ => by rw [O.kn] at hk; cases hk
theorem OTs.repM (s : zac Hf H) : ∀ (os : List O) (vs : List V) (f : List Addr), O.kns os = true -> OTs G Hf H os vs f -> zaa G H (O.toDs os) vs
  | [], _, _, _, h => by rw [O.toDs]; exact h.1
  | o :: os, _, _, hk, ⟨v, r, f1, f2, e, h1, h2, ef⟩ => by
    rw [O.kns, Bool.and_eq_true] at hk
    rw [O.toDs]
    exact ⟨v, r, e, OT.repM s o v f1 hk.1 h1, OTs.repM s os r f2 hk.2 h2⟩
end
theorem OT.rep {o : O} {v : V} {f : List Addr} (h : OT G Hf H o v f) (s : zac Hf H) (hk : o.kn = true) : Rep G H o.toD v := OT.repM s o v f hk h
theorem OTs.fz : ∀ {ds : List D} {vs : List V}, zaa G Hf ds vs -> OTs G Hf H (ds.map .fz) vs []
  | [], _, h => ⟨h, rfl⟩
  | d :: ds, _, ⟨v, r, e, h1, h2⟩ => ⟨v, r, [], [], e, ⟨h1, rfl⟩, OTs.fz h2, rfl⟩
end
inductive Sl where
  | no
  | im (d : D)
  | own (xs : List D)
  | ownd (ks : List Key) (xs : List D)
  | obj (c : Str) (ns : List Str) (xs : List D)
  | pin (l : Addr) (xs : List D)
  | pind (l : Addr) (ks : List Key) (xs : List D)
  | deep (o : O)
  | val (u : V)
noncomputable def Sl.isOwn : Sl -> Bool
  | .own _ => true
  | .ownd _ _ => true
  | .obj _ _ _ => true
  | .pin _ _ => true
  | .pind _ _ _ => true
  | _ => false
noncomputable def Sl.calm : Sl -> Bool
  | .no => true
  | .im _ => true
  | _ => false
noncomputable def zbb (G : Gc) (Hf H : Hp) (l : Addr) : Sl -> Prop
  | .own ds => ∃ vs, H l = some (.lst vs) /\ zaa G Hf ds vs
  | .ownd ks ds => ∃ vs, H l = some (.dK (ks.zip vs)) /\ ks.length = vs.length /\ zaa G Hf ds vs
  | .obj c ns ds => ∃ dx vs, H l = some (.ins (G.cl c) dx (ns.zip vs)) /\ ns.length = vs.length /\ zaa G Hf ds vs
  | .pin l0 ds => l = l0 /\ ∃ vs, H l = some (.lst vs) /\ zaa G Hf ds vs
  | .pind l0 ks ds => l = l0 /\ ∃ vs, H l = some (.dK (ks.zip vs)) /\ ks.length = vs.length /\ zaa G Hf ds vs
  | _ => False
theorem zbb.there {G : Gc} {Hf H : Hp} {l : Addr} {s : Sl} (h : zbb G Hf H l s) : ∃ o, H l = some o := by
  cases s with
  | own ds => obtain ⟨vs, h, _⟩ := h; exact ⟨_, h⟩
  | ownd ks ds => obtain ⟨vs, h, _⟩ := h; exact ⟨_, h⟩
  | obj c ns ds => obtain ⟨dx, vs, h, _⟩ := h; exact ⟨_, h⟩
  | pin l0 ds => obtain ⟨_, vs, h, _⟩ := h; exact ⟨_, h⟩
  | pind l0 ks ds => obtain ⟨_, vs, h, _⟩ := h; exact ⟨_, h⟩
  | _ => exact h.elim
theorem zbb.there2 {G : Gc} {Hf H : Hp} {l : Addr} {s : Sl} (h : zbb G Hf H l s) : ∃ o, H l = some o /\ zcq o = false := by
  cases s with
  | own ds => obtain ⟨vs, h, _⟩ := h; exact ⟨_, h, rfl⟩
  | ownd ks ds => obtain ⟨vs, h, _⟩ := h; exact ⟨_, h, rfl⟩
  | obj c ns ds => obtain ⟨dx, vs, h, _⟩ := h; exact ⟨_, h, rfl⟩
  | pin l0 ds => obtain ⟨_, vs, h, _⟩ := h; exact ⟨_, h, rfl⟩
  | pind l0 ks ds => obtain ⟨_, vs, h, _⟩ := h; exact ⟨_, h, rfl⟩
  | _ => exact h.elim
theorem zbb.up {G : Gc} {Hf H Hf' H' : Hp} {l : Addr} {s : Sl} (h : zbb G Hf H l s) (f : zac Hf Hf') (e : ∀ o, H l = some o -> H' l = some o) : zbb G Hf' H' l s := by
  cases s with
  | own ds => obtain ⟨vs, h, r⟩ := h; exact ⟨vs, e _ h, r.up f⟩
  | ownd ks ds => obtain ⟨vs, h, z, r⟩ := h; exact ⟨vs, e _ h, z, r.up f⟩
  | obj c ns ds => obtain ⟨dx, vs, h, z, r⟩ := h; exact ⟨dx, vs, e _ h, z, r.up f⟩
  | pin l0 ds => obtain ⟨q, vs, h, r⟩ := h; exact ⟨q, vs, e _ h, r.up f⟩
  | pind l0 ks ds => obtain ⟨q, vs, h, z, r⟩ := h; exact ⟨q, vs, e _ h, z, r.up f⟩
  | _ => exact h.elim
noncomputable def zbe (G : Gc) (H0 Hf H : Hp) (v : Option V) : Sl -> Prop
  | .no => True
  | .im d => ∃ u, v = some u /\ Rep G Hf d u
  | .deep o => ∃ u fp, v = some u /\ OT G Hf H o u fp /\ fp.Nodup /\ ∀ a ∈ fp, H0 a = none /\ Hf a = none
  | .val u => v = some u
  | s => ∃ l, v = some (.ref l) /\ H0 l = none /\ Hf l = none /\ zbb G Hf H l s
theorem zbe.own {G : Gc} {H0 Hf H : Hp} {v : Option V} {s : Sl} (hs : s.isOwn = true) (h : zbe G H0 Hf H v s) : ∃ l, v = some (.ref l) /\ H0 l = none /\ Hf l = none /\ zbb G Hf H l s := by
  cases s <;> first | exact h | cases hs
theorem zbe.ofOwn {G : Gc} {H0 Hf H : Hp} {v : Option V} {s : Sl} (hs : s.isOwn = true) (h : ∃ l, v = some (.ref l) /\ H0 l = none /\ Hf l = none /\ zbb G Hf H l s) : zbe G H0 Hf H v s := by
  cases s <;> first | exact h | cases hs
noncomputable def Holds (G : Gc) (Hf H : Hp) (s : Sl) (v : V) (a : Addr) : Prop := match s with
  | .deep o => ∃ fp, OT G Hf H o v fp /\ a ∈ fp
  | s => s.isOwn = true /\ v = .ref a
theorem Holds.own {G : Gc} {Hf H : Hp} {s : Sl} {v : V} {a : Addr} (hs : s.isOwn = true) : Holds G Hf H s v a ↔ v = .ref a := by
  cases s <;> first | exact ⟨fun h => h.2, fun h => ⟨rfl, h⟩⟩ | cases hs
theorem Holds.calm {G : Gc} {Hf H : Hp} {s : Sl} {v : V} {a : Addr} (h : Holds G Hf H s v a) (hs : s.calm = true) : False := by
  cases s <;> first | exact Bool.noConfusion h.1 | cases hs
theorem zbe.back {G : Gc} {H0 Hf H Hf' H' : Hp} {s : Sl} {v : V} {a : Addr} (q : zbe G H0 Hf H (some v) s) (k : ∀ o fp, s = .deep o -> OT G Hf H o v fp -> OT G Hf' H' o v fp) (h : Holds G Hf' H' s v a) : Holds G Hf H s v a := by
  cases s with
  | deep o =>
    obtain ⟨u, fp, e, r, _⟩ := q
    cases e
    obtain ⟨fp', r', ha⟩ := h
    have := OT.funM o v fp fp' (k o fp rfl r) r'
    subst this
    exact ⟨fp, r, ha⟩
  | _ => exact h
theorem zbe.there {G : Gc} {H0 Hf H : Hp} {s : Sl} {v : V} {a : Addr} (q : zbe G H0 Hf H (some v) s) (h : Holds G Hf H s v a) : ∃ o, H a = some o /\ zcq o = false := by
  cases hs : s.isOwn with
  | true =>
    obtain ⟨l, e, _, _, ho⟩ := q.own hs
    have e2 := (Holds.own hs).mp h
    cases e
    cases e2
    exact ho.there2
  | false =>
    cases s with
    | deep o =>
      obtain ⟨fp, r, ha⟩ := h
      exact OT.memM o v fp r a ha
    | _ => first | exact Bool.noConfusion h.1 | cases hs
structure zab (G : Gc) (Hf0 H0 Hf H : Hp) (σ : St) (ρ : List Sl) : Prop where
  ext : Ext Hf0 H0 Hf H
  len : σ.length = ρ.length
  at' : ∀ (i : Nat) (v : Option V) (s : Sl), σ[i]? = some v -> ρ[i]? = some s -> zbe G H0 Hf H v s
  dj : ∀ (i j : Nat) (s t : Sl) (v w : V) (a : Addr), ρ[i]? = some s -> ρ[j]? = some t -> σ[i]? = some (some v) -> σ[j]? = some (some w) -> Holds G Hf H s v a -> Holds G Hf H t w a -> i = j
section
variable {G : Gc} {Hf0 H0 Hf H Hf' H' : Hp} {σ : St} {ρ : List Sl}
theorem zab.sub (h : zab G Hf0 H0 Hf H σ ρ) : zac Hf H := h.ext.s
theorem zab.inj (h : zab G Hf0 H0 Hf H σ ρ) (i j : Nat) (s t : Sl) (l : Addr) (a : ρ[i]? = some s) (b : ρ[j]? = some t) (hs : s.isOwn = true) (ht : t.isOwn = true) (c : σ[i]? = some (some (.ref l))) (d : σ[j]? = some (some (.ref l))) : i = j :=
  h.dj i j s t _ _ l a b c d ((Holds.own hs).mpr rfl) ((Holds.own ht).mpr rfl)
theorem zab.re {Hf0' H0' : Hp} {ρ' : List Sl} (h : zab G Hf0 H0 Hf H σ ρ) (x : Ext Hf0' H0' Hf' H') (hl : ρ'.length = ρ.length) (ha : ∀ (i : Nat) (v : Option V) (s : Sl), σ[i]? = some v -> ρ'[i]? = some s -> zbe G H0' Hf' H' v s)
    (hd : ∀ (i : Nat) (s : Sl) (v : V) (a : Addr), ρ'[i]? = some s -> σ[i]? = some (some v) -> Holds G Hf' H' s v a -> ∃ t, ρ[i]? = some t /\ Holds G Hf H t v a) : zab G Hf0' H0' Hf' H' σ ρ' :=
  ⟨x, h.len.trans hl.symm, ha, fun i j s t v w a b c e f p q => by
    obtain ⟨s0, b0, p0⟩ := hd i s v a b e p
    obtain ⟨t0, c0, q0⟩ := hd j t w a c f q
    exact h.dj i j s0 t0 v w a b0 c0 e f p0 q0⟩
theorem zab.step (h : zab G Hf0 H0 Hf H σ ρ) (e : Ext Hf H Hf' H') : zab G Hf0 H0 Hf' H' σ ρ := by
  refine h.re (h.ext.trans e) rfl (fun i v s a b => ?_) fun i s v a b c d => ⟨s, b, (h.at' i _ s c b).back (fun o fp _ r => r.up e.f e.h) d⟩
  have q := h.at' i v s a b
  cases hs : s.isOwn with
  | true =>
    obtain ⟨l, e1, e2, e3, e4⟩ := q.own hs
    obtain ⟨o, ho, ht⟩ := e4.there2
    exact .ofOwn hs ⟨l, e1, e2, by rw [e.n l o ho ht]; exact e3, e4.up e.f fun o ho => e.h _ _ ho⟩
  | false =>
    cases s with
    | no => trivial
    | im d => obtain ⟨u, e1, r⟩ := q; exact ⟨u, e1, r.up e.f⟩
    | val u => exact q
    | deep o =>
      obtain ⟨u, fp, e1, r, n, z⟩ := q
      refine ⟨u, fp, e1, r.up e.f e.h, n, fun a ha => ⟨(z a ha).1, ?_⟩⟩
      obtain ⟨oo, ho, ht⟩ := OT.memM o u fp r a ha
      rw [e.n a oo ho ht]
      exact (z a ha).2
    | _ => cases hs
theorem zab.slot {i : Nat} {s : Sl} (h : zab G Hf0 H0 Hf H σ ρ) (e : ρ[i]? = some s) : ∃ v, σ[i]? = some v /\ zbe G H0 Hf H v s := by
  have hi : i < σ.length := by rw [h.len]; exact (List.getElem?_eq_some_iff.mp e).1
  exact ⟨σ[i], by simp [hi], h.at' i _ s (by simp [hi]) e⟩
theorem zab.imm {i : Nat} {d : D} (h : zab G Hf0 H0 Hf H σ ρ) (e : ρ[i]? = some (.im d)) : ∃ v, σ[i]? = some (some v) /\ Rep G Hf d v := by
  obtain ⟨v, e1, u, e2, r⟩ := h.slot e
  subst e2
  exact ⟨u, e1, r⟩
theorem zab.ownAt {i : Nat} {s : Sl} (hs : s.isOwn = true) (h : zab G Hf0 H0 Hf H σ ρ) (e : ρ[i]? = some s) : ∃ l, σ[i]? = some (some (.ref l)) /\ H0 l = none /\ Hf l = none /\ zbb G Hf H l s := by
  obtain ⟨v, e1, q⟩ := h.slot e
  obtain ⟨l, e2, q2⟩ := q.own hs
  rw [e2] at e1
  exact ⟨l, e1, q2⟩
theorem zat {α : Type} {l : List α} {i j : Nat} {x y : α} (h : (l.set i x)[j]? = some y) : (j = i /\ y = x /\ i < l.length) \/ (j ≠ i /\ l[j]? = some y) := by
  by_cases hj : j = i
  · subst hj
    left
    have hi : j < l.length := by have := (List.getElem?_eq_some_iff.mp h).1; simpa using this
    rw [List.getElem?_set_self hi] at h
    exact ⟨rfl, (Option.some.inj h).symm, hi⟩
  · right
    rw [List.getElem?_set_ne (Ne.symm hj)] at h
    exact ⟨hj, h⟩
theorem zab.setIm {i : Nat} {d : D} {v : V} (h : zab G Hf0 H0 Hf H σ ρ) (r : Rep G Hf d v) : zab G Hf0 H0 Hf H (σ.set i (some v)) (ρ.set i (.im d)) := by
  refine ⟨h.ext, by simpa using h.len, fun j u s a b => ?_, fun j k s t u w l a b c d' p q => ?_⟩
  · rcases zat b with ⟨e, e', _⟩ | ⟨e, b⟩
    · subst e e'
      rcases zat a with ⟨_, e', _⟩ | ⟨e, _⟩
      · subst e'; exact ⟨v, rfl, r⟩
      · exact absurd rfl e
    · rcases zat a with ⟨e', _⟩ | ⟨_, a⟩
      · exact absurd e' e
      · exact h.at' j u s a b
  · rcases zat a with ⟨e, e', _⟩ | ⟨e, a⟩
    · subst e'; exact (p.calm rfl).elim
    · rcases zat b with ⟨e2, e', _⟩ | ⟨e2, b⟩
      · subst e'; exact (q.calm rfl).elim
      · rcases zat c with ⟨e', _⟩ | ⟨_, c⟩
        · exact absurd e' e
        · rcases zat d' with ⟨e', _⟩ | ⟨_, d'⟩
          · exact absurd e' e2
          · exact h.dj j k s t u w l a b c d' p q
theorem zab.setNew {i : Nat} {u : V} {s : Sl} (h : zab G Hf0 H0 Hf H σ ρ) (e : Ext Hf H Hf' H') (ho : zbe G H0 Hf' H' (some u) s) (hn : ∀ a, Holds G Hf' H' s u a -> H a = none) :
    zab G Hf0 H0 Hf' H' (σ.set i (some u)) (ρ.set i s) := by
  have h' := h.step e
  have no : ∀ (j : Nat) (t : Sl) (w : V) (a : Addr), ρ[j]? = some t -> σ[j]? = some (some w) -> Holds G Hf' H' t w a -> Holds G Hf' H' s u a -> False := fun j t w a b c p q => by
    have p0 := (h.at' j _ t c b).back (fun o fp _ r => r.up e.f e.h) p
    obtain ⟨o, ho, _⟩ := (h.at' j _ t c b).there p0
    rw [hn a q] at ho; cases ho
  refine ⟨h'.ext, by simpa using h.len, fun j w t a b => ?_, fun j k t t' v w l a b c d' p q => ?_⟩
  · rcases zat b with ⟨e, e', _⟩ | ⟨e, b⟩
    · subst e e'
      rcases zat a with ⟨_, e', _⟩ | ⟨e, _⟩
      · subst e'; exact ho
      · exact absurd rfl e
    · rcases zat a with ⟨e', _⟩ | ⟨_, a⟩
      · exact absurd e' e
      · exact h'.at' j w t a b
  · rcases zat a with ⟨e1, e1', _⟩ | ⟨e1, a⟩
    · rcases zat b with ⟨e2, e2', _⟩ | ⟨e2, b⟩
      · rw [e1, e2]
      · rcases zat c with ⟨_, e', _⟩ | ⟨e', _⟩
        · cases e'
          rw [e1'] at p
          rcases zat d' with ⟨e', _⟩ | ⟨_, d'⟩
          · exact absurd e' e2
          · exact (no k t' w l b d' q p).elim
        · exact absurd e1 e'
    · rcases zat c with ⟨e', _⟩ | ⟨_, c⟩
      · exact absurd e' e1
      · rcases zat b with ⟨e2, e2', _⟩ | ⟨e2, b⟩
        · rcases zat d' with ⟨_, e', _⟩ | ⟨e', _⟩
          · cases e'
            rw [e2'] at q
            exact (no j t v l a c p q).elim
          · exact absurd e2 e'
        · rcases zat d' with ⟨e', _⟩ | ⟨_, d'⟩
          · exact absurd e' e2
          · exact h'.dj j k t t' v w l a b c d' p q
theorem zab.setOwn {i : Nat} {l : Addr} {s : Sl} (hs : s.isOwn = true) (h : zab G Hf0 H0 Hf H σ ρ) (e : Ext Hf H Hf' H') (hn : H l = none) (hf : Hf' l = none) (ho : zbb G Hf' H' l s) :
    zab G Hf0 H0 Hf' H' (σ.set i (some (.ref l))) (ρ.set i s) :=
  h.setNew e (.ofOwn hs ⟨l, rfl, h.ext.h.free hn, hf, ho⟩) fun a p => by cases (Holds.own hs).mp p; exact hn
theorem zab.chg {i : Nat} {s s' : Sl} {v : V} (h : zab G Hf0 H0 Hf H σ ρ) (e : ρ[i]? = some s) (el : σ[i]? = some (some v)) (k : ∀ b u, H b = some u -> Holds G Hf H s v b \/ H' b = some u) (ho : zbe G H0 Hf H' (some v) s')
    (hh : ∀ a, Holds G Hf H' s' v a -> Holds G Hf H s v a \/ ∀ (j : Nat) (t : Sl) (w : V), ρ[j]? = some t -> σ[j]? = some (some w) -> Holds G Hf H t w a -> False) : zab G Hf0 H0 Hf H' σ (ρ.set i s') := by
  have q := h.at' i _ s el e
  have gone : ∀ b, Holds G Hf H s v b -> H0 b = none /\ Hf b = none := fun b p => by
    cases hs : s.isOwn with
    | true =>
      obtain ⟨l, e1, h0, hf, _⟩ := q.own hs
      have e2 := (Holds.own hs).mp p
      cases e1
      cases e2
      exact ⟨h0, hf⟩
    | false =>
      cases s with
      | deep o =>
        obtain ⟨u, fp, e1, r, n, z⟩ := q
        cases e1
        obtain ⟨fp', r', ha⟩ := p
        have := OT.funM o v fp fp' r r'
        subst this
        exact z b ha
      | _ => first | exact Bool.noConfusion p.1 | cases hs
  have fr : ∀ (j : Nat) (t : Sl) (w : V), j ≠ i -> ρ[j]? = some t -> σ[j]? = some (some w) -> ∀ o fp, t = .deep o -> OT G Hf H o w fp -> OT G Hf H' o w fp := fun j t w hj b c o fp et r => by
    subst et
    refine r.frame (zac.refl _) fun x u hx hm => ?_
    rcases k x u hx with z | z
    · rcases hm with hm | hm
      · obtain ⟨o', ho', ht'⟩ := q.there z
        rw [hx] at ho'
        cases ho'
        rw [hm] at ht'
        cases ht'
      · exact absurd (h.dj j i _ s w v x b e c el ⟨fp, r, hm⟩ z) hj
    · exact z
  refine ⟨⟨h.ext.f, fun b u e => ?_, fun b u e => ?_, h.ext.n⟩, by simpa using h.len, fun j u t a b => ?_, fun j j' t t' w w' a b c b' c' p p' => ?_⟩
  · rcases k b u (h.ext.h b u e) with z | z
    · rw [(gone b z).1] at e; cases e
    · exact z
  · rcases k b u (h.ext.s b u e) with z | z
    · rw [(gone b z).2] at e; cases e
    · exact z
  · rcases zat b with ⟨e', e2, _⟩ | ⟨en, b⟩
    · subst e' e2
      rw [el] at a; cases a
      exact ho
    · have q' := h.at' j u t a b
      cases ht : t.isOwn with
      | false =>
        cases t with
        | no => trivial
        | im d => exact q'
        | val u => exact q'
        | deep o =>
          obtain ⟨w, fp, e1, r, n, z⟩ := q'
          subst e1
          exact ⟨w, fp, rfl, fr j _ w en b a o fp rfl r, n, z⟩
        | _ => cases ht
      | true =>
        obtain ⟨l2, e2, e3, e4, q2⟩ := q'.own ht
        subst e2
        refine .ofOwn ht ⟨l2, rfl, e3, e4, q2.up (zac.refl _) fun o' ho' => ?_⟩
        rcases k l2 o' ho' with z | z
        · exact absurd (h.dj j i t s _ v l2 b e a el ((Holds.own ht).mpr rfl) z) en
        · exact z
  · have old : ∀ (j : Nat) (t : Sl) (w : V), (ρ.set i s')[j]? = some t -> σ[j]? = some (some w) -> Holds G Hf H' t w a -> (j = i /\ ∀ (j : Nat) (t : Sl) (w : V), ρ[j]? = some t -> σ[j]? = some (some w) -> Holds G Hf H t w a -> False) \/ ∃ t0, ρ[j]? = some t0 /\ Holds G Hf H t0 w a := fun j t w b y p => by
      rcases zat b with ⟨e', e2, _⟩ | ⟨en, b⟩
      · rw [e2] at p
        rw [e', el] at y
        cases y
        rw [e']
        rcases hh a p with z | z
        · exact .inr ⟨s, e, z⟩
        · exact .inl ⟨rfl, z⟩
      · exact .inr ⟨t, b, (h.at' j _ t y b).back (fr j t w en b y) p⟩
    rcases old j t w b b' p with ⟨z1, z2⟩ | ⟨t0, z1, z2⟩
    · rcases old j' t' w' c c' p' with ⟨y1, y2⟩ | ⟨t1, y1, y2⟩
      · rw [z1, y1]
      · exact (z2 j' t1 w' y1 c' y2).elim
    · rcases old j' t' w' c c' p' with ⟨y1, y2⟩ | ⟨t1, y1, y2⟩
      · exact (y2 j t0 w z1 b' z2).elim
      · exact h.dj j j' t0 t1 w w' a z1 y1 b' c' z2 y2
theorem zab.mutd {i : Nat} {l : Addr} {s s' : Sl} {o : HO} (hs : s.isOwn = true) (hs' : s'.isOwn = true) (h : zab G Hf0 H0 Hf H σ ρ) (e : ρ[i]? = some s) (el : σ[i]? = some (some (.ref l))) (ho : zbb G Hf (upd H l o) l s') :
    zab G Hf0 H0 Hf (upd H l o) σ (ρ.set i s') := by
  obtain ⟨l', e1, h0, hf, q⟩ := h.ownAt hs e
  rw [el] at e1; cases e1
  refine h.chg e el (fun b u hb => ?_) (.ofOwn hs' ⟨l, rfl, h0, hf, ho⟩) fun a p => .inl ?_
  · by_cases hl : b = l
    · subst hl; exact .inl ((Holds.own hs).mpr rfl)
    · exact .inr (by rw [zag hl]; exact hb)
  · exact (Holds.own hs).mpr ((Holds.own hs').mp p)
theorem zab.fixd {i : Nat} {l : Addr} {s : Sl} {d : D} {o : HO} (hs : s.isOwn = true) (h : zab G Hf0 H0 Hf H σ ρ) (e : ρ[i]? = some s) (el : σ[i]? = some (some (.ref l))) (ho : H l = some o) (hr : Rep G (upd Hf l o) d (.ref l)) :
    zab G Hf0 H0 (upd Hf l o) H σ (ρ.set i (.im d)) := by
  obtain ⟨l', e1, h0, hf, q⟩ := h.ownAt hs e
  rw [el] at e1; cases e1
  refine h.re (h.ext.fix h0 hf ho) (by simp) (fun j u t a b => ?_) fun j t v a b c p => ?_
  · rcases zat b with ⟨e, e', _⟩ | ⟨en, b⟩
    · subst e e'
      rw [el] at a; cases a
      exact ⟨_, rfl, hr⟩
    · have q := h.at' j u t a b
      cases ht : t.isOwn with
      | false =>
        cases t with
        | no => trivial
        | im d => obtain ⟨u', e1, r⟩ := q; exact ⟨u', e1, r.up (zaw hf)⟩
        | val u' => exact q
        | deep o =>
          obtain ⟨w, fp, e1, r, n, z⟩ := q
          subst e1
          refine ⟨w, fp, rfl, r.up (zaw hf) (zac.refl _), n, fun x hx => ⟨(z x hx).1, ?_⟩⟩
          rw [zag (fun y => ?_)]
          · exact (z x hx).2
          · subst y
            exact en (h.dj j i _ s w _ x b e a el ⟨fp, r, hx⟩ ((Holds.own hs).mpr rfl))
        | _ => cases ht
      | true =>
        obtain ⟨l2, e2, e3, e4, q2⟩ := q.own ht
        subst e2
        refine .ofOwn ht ⟨l2, rfl, e3, ?_, q2.up (zaw hf) fun o' ho' => ho'⟩
        rw [zag (fun z => ?_)]
        · exact e4
        · subst z
          exact en (h.inj j i t s l2 b e ht hs a el)
  · rcases zat b with ⟨_, e', _⟩ | ⟨_, b⟩
    · subst e'; exact (p.calm rfl).elim
    · exact ⟨t, b, (h.at' j _ t c b).back (fun o fp _ r => r.up (zaw hf) (zac.refl _)) p⟩
end
end L2
namespace L2
open PySem PySem.Spec PyProof.Rows
section
variable {X : Cx} {e : Expr}
theorem PE.imp {t t' : TE} (h : PE X e t) (i : ∀ σ H Q, t' σ H Q -> t σ H Q) : PE X e t' := fun pins s σ H Q I q => h pins s σ H Q I (i σ H Q q)
theorem PT.imp {t t' : TT} (h : PT X e t) (i : ∀ σ H Q, t' σ H Q -> t σ H Q) : PT X e t' := fun pins s σ H Q I q => h pins s σ H Q I (i σ H Q q)
theorem PW.imp {t t' : TT} (h : PW X e t) (i : ∀ σ H Q, t' σ H Q -> t σ H Q) : PW X e t' := fun wh pins s σ H Q I q => h wh pins s σ H Q I (i σ H Q q)
theorem PA.imp {es : List Expr} {t t' : TA} (h : PA X es t) (i : ∀ σ H Q, t' σ H Q -> t σ H Q) : PA X es t' := fun pos pins s σ H Q I q => h pos pins s σ H Q I (i σ H Q q)
theorem PS.imp {st : Stmt} {t t' : TS} (h : PS X st t) (i : ∀ E σ H, t' E σ H -> t E σ H) : PS X st t' := fun pins s σ H E I q => h pins s σ H E I (i E σ H q)
theorem PSs.imp {st : List Stmt} {t t' : TS} (h : PSs X st t) (i : ∀ E σ H, t' E σ H -> t E σ H) : PSs X st t' := fun pins s σ H E I q => h pins s σ H E I (i E σ H q)
theorem PG.imp {t t' : TG} (h : PG X e t) (i : ∀ v σ H Q, t' v σ H Q -> t v σ H Q) : PG X e t' := fun pins s σ H v u Q I r q => h pins s σ H v u Q I r (i v σ H Q q)
theorem PGs.imp {es : List Expr} {t t' : TGs} (h : PGs X es t) (i : ∀ v σ H Q, t' v σ H Q -> t v σ H Q) : PGs X es t' := fun pins s σ H v u Q I r q => h pins s σ H v u Q I r (i v σ H Q q)
theorem PI.imp {tg : Expr} {t t' : TI} (h : PI X tg e t) (i : ∀ σ H R, t' σ H R -> t σ H R) : PI X tg e t' := fun pins s σ H R I q => h pins s σ H R I (i σ H R q)
theorem PTs.imp {ifs : List Expr} {t t' : TT} (h : PTs X ifs t) (i : ∀ σ H Q, t' σ H Q -> t σ H Q) : PTs X ifs t' := fun pins s σ H Q I q => h pins s σ H Q I (i σ H Q q)
theorem OpR.imp {f : Value -> Value -> Sem Value} {r r' : R2} (h : OpR X f r) (i : ∀ x y H Q, r' x y H Q -> r x y H Q) : OpR X f r' := fun pins s σ H x y v u Q I rx ry q => h pins s σ H x y v u Q I rx ry (i x y H Q q)
theorem zbk.imp {f : Value} {r r' : List V -> Hp -> VK -> Prop} (h : zbk X f r) (i : ∀ xs H Q, r' xs H Q -> r xs H Q) : zbk X f r' := fun pins s σ H xs us Q I rx q => h pins s σ H xs us Q I rx (i xs H Q q)
end
noncomputable abbrev Gx (c : Str -> Addr) (X : Cx) : Gc := ⟨X.K, c⟩
noncomputable def tD (G : Gc) (f : List Sl -> Option D) : TE := fun σ H Q => ∃ Hf0 H0 Hf ρ d, zab G Hf0 H0 Hf H σ ρ /\ f ρ = some d /\ ∀ v Hf' H', Ext Hf H Hf' H' -> Rep G Hf' d v -> Q v H'
noncomputable def tDB (G : Gc) (f : List Sl -> Option D) : TE := fun σ H Q => ∃ Hf0 H0 Hf ρ d, zab G Hf0 H0 Hf H σ ρ /\ f ρ = some d /\ ∀ v Hf' H', Ext Hf H Hf' H' -> Rep G H' d v -> Q v H'
noncomputable def tDC (G : Gc) (f : List Sl -> Option (List D)) : TE := fun σ H Q => ∃ Hf0 H0 Hf ρ ds, zab G Hf0 H0 Hf H σ ρ /\ f ρ = some ds /\ ∀ a vs Hf' H', Ext Hf H Hf' H' -> (SqL G.K H' a vs \/ SqT G.K H' a vs) -> zaa G Hf' ds vs -> Q (.ref a) H'
noncomputable def tDO (G : Gc) (f : List Sl -> Option (List D)) : TE := fun σ H Q => ∃ Hf0 H0 Hf ρ ds, zab G Hf0 H0 Hf H σ ρ /\ f ρ = some ds /\
  ∀ l vs Hf' H', Ext Hf H Hf' H' -> H l = none -> Hf' l = none -> H' l = some (.lst vs) -> zaa G Hf' ds vs -> Q (.ref l) H'
noncomputable def tDA (G : Gc) (f : List Sl -> Option (List D)) : TA := fun σ H Q => ∃ Hf0 H0 Hf ρ ds, zab G Hf0 H0 Hf H σ ρ /\ f ρ = some ds /\ ∀ vs Hf' H', Ext Hf H Hf' H' -> zaa G Hf' ds vs -> Q vs H'
noncomputable def zpj (G : Gc) (f : List Sl -> Option (List D)) : TA := fun σ H Q => ∃ Hf0 H0 Hf ρ ds, zab G Hf0 H0 Hf H σ ρ /\ f ρ = some ds /\ ∀ vs Hf' H', Ext Hf H Hf' H' -> zaa G H' ds vs -> Q vs H'
noncomputable def tDT (G : Gc) (f : List Sl -> Option Bool) : TT := fun σ H Q => ∃ Hf0 H0 Hf ρ b, zab G Hf0 H0 Hf H σ ρ /\ f ρ = some b /\ ∀ Hf' H', Ext Hf H Hf' H' -> Q b H'
noncomputable def DE (c : Str -> Addr) (X : Cx) (e : Expr) (f : List Sl -> Option D) : Prop := PE X e (tD (Gx c X) f)
noncomputable def DB (c : Str -> Addr) (X : Cx) (e : Expr) (f : List Sl -> Option D) : Prop := PE X e (tDB (Gx c X) f)
noncomputable def DC (c : Str -> Addr) (X : Cx) (e : Expr) (f : List Sl -> Option (List D)) : Prop := PE X e (tDC (Gx c X) f)
noncomputable def DO (c : Str -> Addr) (X : Cx) (e : Expr) (f : List Sl -> Option (List D)) : Prop := PE X e (tDO (Gx c X) f)
structure DA (c : Str -> Addr) (X : Cx) (es : List Expr) (f : List Sl -> Option (List D)) : Prop where
  pa : PA X es (tDA (Gx c X) f)
  len : ∀ ρ ds, f ρ = some ds -> ds.length = es.length
structure DAB (c : Str -> Addr) (X : Cx) (es : List Expr) (f : List Sl -> Option (List D)) : Prop where
  pa : PA X es (zpj (Gx c X) f)
  len : ∀ ρ ds, f ρ = some ds -> ds.length = es.length
noncomputable def DT (c : Str -> Addr) (X : Cx) (e : Expr) (f : List Sl -> Option Bool) : Prop := PT X e (tDT (Gx c X) f)
noncomputable def DW (c : Str -> Addr) (X : Cx) (e : Expr) (f : List Sl -> Option Bool) : Prop := PW X e (tDT (Gx c X) f)
noncomputable def D.scalar : D -> Bool
  | .non => true
  | .bl _ => true
  | .int _ => true
  | .str _ => true
  | _ => false
theorem Rep.sc {G : Gc} {H H' : Hp} {d : D} {v : V} (hs : d.scalar = true) (r : Rep G H d v) : Rep G H' d v := by
  cases d <;> first | exact r | cases hs
noncomputable def zcu : D -> Option (List D)
  | .lst xs => some xs
  | .tup xs => some xs
  | .kl xs => some xs
  | .kt xs => some xs
  | _ => none
theorem zhw {G : Gc} {H : Hp} {d : D} {v : V} {ds : List D} (e : zcu d = some ds) (r : Rep G H d v) : ∃ a vs, v = .ref a /\ (SqL G.K H a vs \/ SqT G.K H a vs) /\ zaa G H ds vs := by
  cases d with
  | lst xs => cases e; obtain ⟨a, vs, e1, q, r⟩ := r; exact ⟨a, vs, e1, .inl (SqL.of q), r⟩
  | tup xs => cases e; obtain ⟨a, vs, e1, q, r⟩ := r; exact ⟨a, vs, e1, .inr (SqT.of q), r⟩
  | kl xs => cases e; obtain ⟨a, vs, e1, q, r⟩ := r; exact ⟨a, vs, e1, .inl q, r⟩
  | kt xs => cases e; obtain ⟨a, vs, e1, q, r⟩ := r; exact ⟨a, vs, e1, .inr q, r⟩
  | _ => cases e
theorem zlh {K : PySem.W.Frag} {H H' : Hp} (s : zac H H') {a : Addr} {vs : List V} (h : SqL K H a vs \/ SqT K H a vs) : SqL K H' a vs \/ SqT K H' a vs := h.imp s.seq s.tup
noncomputable def zbo (f : List Sl -> Option (List D)) (ρ : List Sl) : Option D := (f ρ).map .lst
noncomputable def zke (f : List Sl -> Option (List D)) (ρ : List Sl) : Option D := (f ρ).map .tup
noncomputable def zdb (f : List Sl -> Option D) (ρ : List Sl) : Option (List D) := (f ρ).bind zcu
section
variable {c : Str -> Addr} {X : Cx} {e a b : Expr} {es : List Expr} {pos : Pos}
theorem DE.db {f : List Sl -> Option D} (h : DE c X e f) : DB c X e f := PE.imp h fun σ H Q q_ => by
  obtain ⟨Hf0, H0, Hf, ρ, d, st, ef, k⟩ := q_
  exact (⟨Hf0, H0, Hf, ρ, d, st, ef, fun v Hf' H' x r => k v Hf' H' x (r.up x.s)⟩)
theorem DO.de {f : List Sl -> Option (List D)} (h : DO c X e f) : DE c X e (zbo f) := PE.imp h fun σ H Q q_ => by
  obtain ⟨Hf0, H0, Hf, ρ, d, st, ef, k⟩ := q_
  unfold zbo at ef
  cases ed : f ρ with
  | none => rw [ed] at ef; cases ef
  | some ds =>
    rw [ed] at ef
    have ef : D.lst ds = d := Option.some.inj ef
    subst ef
    exact ⟨Hf0, H0, Hf, ρ, ds, st, ed, fun l vs Hf' H' x hn hf hl r => k _ (upd Hf' l (.lst vs)) H' (x.fix hn hf hl) ⟨l, vs, rfl, zau, r.up (zaw hf)⟩⟩
theorem DB.sc {f : List Sl -> Option D} (h : DB c X e f) (hs : ∀ ρ d, f ρ = some d -> d.scalar = true) : DE c X e f := PE.imp h fun σ H Q q_ => by
  obtain ⟨Hf0, H0, Hf, ρ, d, st, ef, k⟩ := q_
  exact (
  ⟨Hf0, H0, Hf, ρ, d, st, ef, fun v Hf' H' x r => k v Hf' H' x (r.sc (hs ρ d ef))⟩)
noncomputable def zaf (i : Nat) (ρ : List Sl) : Option D := match ρ[i]? with
  | some (.im d) => some d
  | _ => none
noncomputable def zd6 (i : Nat) (ρ : List Sl) : Option D := match ρ[i]? with
  | some (.im d) => some d
  | some (.own xs) => some (.lst xs)
  | some (.ownd ks xs) => some (.dic ks xs)
  | some (.deep o) => if o.kn then some o.toD else none
  | _ => none
noncomputable def zcl (i : Nat) (ρ : List Sl) : Option (List D) := match ρ[i]? with
  | some (.im d) => zcu d
  | some (.own xs) => some xs
  | _ => none
theorem zsy {i : Nat} {ρ : List Sl} {d : D} (h : zaf i ρ = some d) : ρ[i]? = some (.im d) := by
  unfold zaf at h
  cases e : ρ[i]? with
  | none => rw [e] at h; cases h
  | some s => rw [e] at h; cases s <;> cases h; rfl
theorem zj2 {i : Nat} (h : PE X e (zbz i)) : DE c X e (zaf i) := PE.imp h fun σ H Q q_ => by
  obtain ⟨Hf0, H0, Hf, ρ, d, st, ef, k⟩ := q_
  obtain ⟨v, e1, r⟩ := st.imm (zsy ef)
  exact ⟨v, e1, k v Hf H (Ext.refl st.sub) r⟩
theorem znq {i : Nat} (h : PE X e (zbz i)) : DC c X e (zcl i) := PE.imp h fun σ H Q q_ => by
  obtain ⟨Hf0, H0, Hf, ρ, ds, st, ef, k⟩ := q_
  unfold zcl at ef
  cases es : ρ[i]? with
  | none => rw [es] at ef; cases ef
  | some s =>
    rw [es] at ef
    cases s with
    | im d =>
      obtain ⟨v, e1, r⟩ := st.imm es
      obtain ⟨a, vs, e2, q, rs⟩ := zhw ef r
      subst e2
      exact ⟨_, e1, k a vs Hf H (Ext.refl st.sub) (zlh st.sub q) rs⟩
    | own xs =>
      cases ef
      obtain ⟨l, e1, _, _, vs, q, r⟩ := st.ownAt rfl es
      exact ⟨_, e1, k l vs Hf H (Ext.refl st.sub) (.inl (SqL.of q)) r⟩
    | _ => cases ef
theorem zof {i : Nat} (h : PE X e (zbz i)) : DB c X e (zd6 i) := PE.imp h fun σ H Q q_ => by
  obtain ⟨Hf0, H0, Hf, ρ, d, st, ef, k⟩ := q_
  unfold zd6 at ef
  cases es : ρ[i]? with
  | none => rw [es] at ef; cases ef
  | some s =>
    rw [es] at ef
    cases s with
    | im d =>
      cases ef
      obtain ⟨v, e1, r⟩ := st.imm es
      exact ⟨_, e1, k v Hf H (Ext.refl st.sub) (r.up st.sub)⟩
    | own xs =>
      cases ef
      obtain ⟨l, e1, _, _, vs, q, r⟩ := st.ownAt rfl es
      exact ⟨_, e1, k _ Hf H (Ext.refl st.sub) ⟨l, vs, rfl, q, r.up st.sub⟩⟩
    | ownd ks xs =>
      cases ef
      obtain ⟨l, e1, _, _, vs, q, z, r⟩ := st.ownAt rfl es
      exact ⟨_, e1, k _ Hf H (Ext.refl st.sub) ⟨l, vs, rfl, q, z, r.up st.sub⟩⟩
    | deep o =>
      replace ef : (if o.kn = true then some o.toD else none) = some d := ef
      split at ef
      · rename_i hk
        cases ef
        obtain ⟨v, e1, u, fp, e2, r, _⟩ := st.slot es
        subst e2
        exact ⟨_, e1, k _ Hf H (Ext.refl st.sub) (r.rep st.sub hk)⟩
      · cases ef
    | _ => cases ef
theorem ziv {v : V} {d : D} (h : PE X e (tC v)) (r : ∀ G H, Rep G H d v) : DE c X e (fun _ => some d) := PE.imp h fun σ H Q q_ => by
  obtain ⟨Hf0, H0, Hf, ρ, d', st, ef, k⟩ := q_
  cases ef
  exact k v Hf H (Ext.refl st.sub) (r _ _)
theorem zar {i : Int} {j} : DE c X (.Constant (.int i) j pos) (fun _ => some (.int i)) := ziv znp fun _ _ => rfl
theorem zfu {i : Bool} {j} : DE c X (.Constant (.bool i) j pos) (fun _ => some (.bl i)) := ziv zsx fun _ _ => rfl
theorem za0 {i : Str} {j} : DE c X (.Constant (.str i) j pos) (fun _ => some (.str i)) := ziv zsf fun _ _ => rfl
theorem dv (i : Nat) {x : Str} (hN : X.N[i]? = some x := by rfl) (hv : Vis X.env.scope x := by first | exact Or.inl rfl | exact Or.inr (Or.inl rfl) | exact Or.inr (Or.inr rfl)) (hd : (x == ("__debug__" : Str)) = false := by decide)
    (hcd : (x == ("__classdict__" : Str)) = false := by decide) : DE c X (.Name x pos) (zaf i) := zj2 (zc1 hN hv hd hcd)
theorem dvC (i : Nat) {x : Str} (hN : X.N[i]? = some x := by rfl) (hv : Vis X.env.scope x := by first | exact Or.inl rfl | exact Or.inr (Or.inl rfl) | exact Or.inr (Or.inr rfl)) (hd : (x == ("__debug__" : Str)) = false := by decide)
    (hcd : (x == ("__classdict__" : Str)) = false := by decide) : DC c X (.Name x pos) (zcl i) := znq (zc1 hN hv hd hcd)
theorem dvB (i : Nat) {x : Str} (hN : X.N[i]? = some x := by rfl) (hv : Vis X.env.scope x := by first | exact Or.inl rfl | exact Or.inr (Or.inl rfl) | exact Or.inr (Or.inr rfl)) (hd : (x == ("__debug__" : Str)) = false := by decide)
    (hcd : (x == ("__classdict__" : Str)) = false := by decide) : DB c X (.Name x pos) (zd6 i) := zof (zc1 hN hv hd hcd)
noncomputable def zah (f : List Sl -> Option D) (g : List Sl -> Option (List D)) (ρ : List Sl) : Option (List D) := (f ρ).bind fun d => (g ρ).map fun ds => d :: ds
theorem zfq {f : List Sl -> Option D} {g : List Sl -> Option (List D)} {ρ : List Sl} {ds : List D} (h : zah f g ρ = some ds) : ∃ d r, f ρ = some d /\ g ρ = some r /\ ds = d :: r := by
  unfold zah at h
  cases e1 : f ρ with
  | none => rw [e1] at h; cases h
  | some d =>
    cases e2 : g ρ with
    | none => rw [e1, e2] at h; cases h
    | some r => rw [e1, e2] at h; cases h; exact ⟨d, r, rfl, rfl, rfl⟩
theorem zbl : DA c X [] (fun _ => some []) := ⟨PA.imp zcs fun σ H Q ⟨Hf0, H0, Hf, ρ, ds, st, ef, k⟩ => by cases ef; exact k [] Hf H (Ext.refl st.sub) rfl, fun ρ ds h => by cases h; rfl⟩
theorem za5 {f : List Sl -> Option D} {g : List Sl -> Option (List D)} (ha : DE c X e f) (hr : DA c X es g) (hs : starEach (e :: es) X.env = (false, eval e X.env) :: starEach es X.env := by rfl) : DA c X (e :: es) (zah f g) := by
  refine ⟨PA.imp (zb7 ha hr.pa hs) fun σ H Q ⟨Hf0, H0, Hf, ρ, ds, st, ef, k⟩ => ?_, fun ρ ds h => ?_⟩
  · obtain ⟨d, r, e1, e2, rfl⟩ := zfq ef
    exact ⟨Hf0, H0, Hf, ρ, d, st, e1, fun v Hf1 H1 x1 r1 => ⟨Hf0, H0, Hf1, ρ, r, st.step x1, e2, fun vs Hf2 H2 x2 r2 => k _ Hf2 H2 (x1.trans x2) (.cons (r1.up x2.f) r2)⟩⟩
  · obtain ⟨d, r, e1, e2, rfl⟩ := zfq h
    simp [hr.len ρ r e2]
theorem zel : DAB c X [] (fun _ => some []) := ⟨PA.imp zcs fun σ H Q ⟨Hf0, H0, Hf, ρ, ds, st, ef, k⟩ => by cases ef; exact k [] Hf H (Ext.refl st.sub) rfl, fun ρ ds h => by cases h; rfl⟩
theorem zd3 {f : List Sl -> Option D} {g : List Sl -> Option (List D)} (ha : DB c X e f) (hr : DAB c X es g) (hs : starEach (e :: es) X.env = (false, eval e X.env) :: starEach es X.env := by rfl) : DAB c X (e :: es) (zah f g) := by
  refine ⟨PA.imp (zb7 ha hr.pa hs) fun σ H Q ⟨Hf0, H0, Hf, ρ, ds, st, ef, k⟩ => ?_, fun ρ ds h => ?_⟩
  · obtain ⟨d, r, e1, e2, rfl⟩ := zfq ef
    exact ⟨Hf0, H0, Hf, ρ, d, st, e1, fun v Hf1 H1 x1 r1 => ⟨Hf0, H0, Hf1, ρ, r, st.step x1, e2, fun vs Hf2 H2 x2 r2 => k _ Hf2 H2 (x1.trans x2) (.cons (r1.up x2.h) r2)⟩⟩
  · obtain ⟨d, r, e1, e2, rfl⟩ := zfq h
    simp [hr.len ρ r e2]
theorem zds {f : List Sl -> Option (List D)} (h : DA c X es f) (hz : es.length <= 1000 := by exact Nat.le_of_ble_eq_true rfl) : DO c X (.List es pos) f := PE.imp (ztc h.pa) fun σ H Q ⟨Hf0, H0, Hf, ρ, ds, st, ef, k⟩ =>
  ⟨Hf0, H0, Hf, ρ, ds, st, ef, fun vs Hf' H' x r => ⟨by
    rw [<- r.length, h.len ρ ds ef]
    exact Nat.le_of_lt (zoq hz), fun p hp => k p vs Hf' (upd H' p (.lst vs)) (x.trans (Ext.tmp x.s hp)) (x.h.free hp) (x.s.free hp) zau r⟩⟩
noncomputable def rD (G : Gc) (m : D -> D -> Option D) : R2 := fun vx vy H Q => ∃ Hf x y d, zac Hf H /\ Rep G Hf x vx /\ Rep G Hf y vy /\ m x y = some d /\ ∀ v Hf' H', Ext Hf H Hf' H' -> Rep G Hf' d v -> Q v H'
noncomputable abbrev OpD (c : Str -> Addr) (X : Cx) (f : Value -> Value -> Sem Value) (m : D -> D -> Option D) : Prop := OpR X f (rD (Gx c X) m)
noncomputable def m2 (m : D -> D -> Option D) (f g : List Sl -> Option D) (ρ : List Sl) : Option D := (f ρ).bind fun x => (g ρ).bind fun y => m x y
theorem zhs {m : D -> D -> Option D} {f g : List Sl -> Option D} {ρ : List Sl} {d : D} (h : m2 m f g ρ = some d) : ∃ x y, f ρ = some x /\ g ρ = some y /\ m x y = some d := by
  unfold m2 at h
  cases e1 : f ρ with
  | none => rw [e1] at h; cases h
  | some x =>
    cases e2 : g ρ with
    | none => rw [e1, e2] at h; cases h
    | some y => rw [e1, e2] at h; exact ⟨x, y, rfl, rfl, h⟩
theorem two {m : D -> D -> Option D} {f g : List Sl -> Option D} {r : R2} {σ : St} {H : Hp} {Q : VK} (hr : ∀ x y H Q, rD (Gx c X) m x y H Q -> r x y H Q) (h : tD (Gx c X) (m2 m f g) σ H Q) : tOp r (tD (Gx c X) f) (tD (Gx c X) g) σ H Q := by
  obtain ⟨Hf0, H0, Hf, ρ, d, st, ef, k⟩ := h
  obtain ⟨x, y, e1, e2, e3⟩ := zhs ef
  exact ⟨Hf0, H0, Hf, ρ, x, st, e1, fun v Hf1 H1 x1 r1 => ⟨Hf0, H0, Hf1, ρ, y, st.step x1, e2, fun u Hf2 H2 x2 r2 => hr _ _ _ _ ⟨Hf2, x, y, d, x2.s, r1.up x2.f, r2, e3, fun w Hf3 H3 x3 r3 => k w Hf3 H3 ((x1.trans x2).trans x3) r3⟩⟩⟩
theorem zjl {m : D -> D -> Option D} {f g : List Sl -> Option D} {r : R2} {σ : St} {H : Hp} {Q : VK} (hr : ∀ x y H Q, rD (Gx c X) m x y H Q -> r x y H Q) (hs : ∀ x y d, m x y = some d -> d.scalar = true) (h : tD (Gx c X) (m2 m f g) σ H Q) : tOp r (tDB (Gx c X) f) (tDB (Gx c X) g) σ H Q := by
  obtain ⟨Hf0, H0, Hf, ρ, d, st, ef, k⟩ := h
  obtain ⟨x, y, e1, e2, e3⟩ := zhs ef
  exact ⟨Hf0, H0, Hf, ρ, x, st, e1, fun v Hf1 H1 x1 r1 => ⟨Hf0, H0, Hf1, ρ, y, st.step x1, e2, fun u Hf2 H2 x2 r2 => hr _ _ _ _ ⟨H2, x, y, d, zac.refl _, r1.up x2.h, r2, e3, fun w Hf3 H3 x3 r3 =>
    k w Hf2 H3 ((x1.trans x2).trans (Ext.grow x2.s x3.h)) (r3.sc (hs _ _ _ e3))⟩⟩⟩
theorem za1 {op : Operator} {m : D -> D -> Option D} {f g : List Sl -> Option D} (ho : OpD c X (binaryOp op) m) (ha : DE c X a f) (hb : DE c X b g) : DE c X (.BinOp a op b pos) (m2 m f g) :=
  PE.imp (zkq ho ha hb) fun _ _ _ h => two (fun _ _ _ _ h => h) h
theorem zha {op : CmpOp} {m : D -> D -> Option D} {f g : List Sl -> Option D} (ho : OpD c X (compareOp op) m) (hs : ∀ x y d, m x y = some d -> d.scalar = true) (ha : DB c X a f) (hb : DB c X b g) (hm : behindInMarks op b = false := by first | exact zj8 _ | rfl) :
    DE c X (.Compare a [op] [b] pos) (m2 m f g) := PE.imp (zsc ho ha hb hm) fun _ _ _ h => zjl (fun _ _ _ _ h => h) hs h
noncomputable def mB (f : List Sl -> Option D) (ρ : List Sl) : Option Bool := (f ρ).bind fun d => match d with
  | .bl b => some b
  | _ => none
theorem zl7 {f : List Sl -> Option D} {ρ : List Sl} {b : Bool} (h : mB f ρ = some b) : f ρ = some (.bl b) := by
  unfold mB at h
  cases e : f ρ with
  | none => rw [e] at h; cases h
  | some d => rw [e] at h; cases d <;> cases h; rfl
theorem zdo {op : CmpOp} {m : D -> D -> Option D} {f g : List Sl -> Option D} (ho : OpD c X (compareOp op) m) (hs : ∀ x y d, m x y = some d -> d.scalar = true) (ha : DB c X a f) (hb : DB c X b g) (hm : behindInMarks op b = false := by first | exact zj8 _ | rfl) :
    DT c X (.Compare a [op] [b] pos) (mB (m2 m f g)) := PT.imp (zsa ho ha hb hm) fun σ H Q ⟨Hf0, H0, Hf, ρ, b, st, ef, k⟩ =>
  zjl (fun _ _ _ _ h => h) hs ⟨Hf0, H0, Hf, ρ, .bl b, st, zl7 ef, fun v Hf' H' x r => ⟨b, r, k Hf' H' x⟩⟩
noncomputable def zhf : D -> Option Bool
  | .non => some false
  | .bl b => some b
  | .int i => some (i != 0)
  | .str x => if x.length <= 16777216 then some ((x.length : Int) != 0) else none
  | .lst xs => some (!xs.isEmpty)
  | .tup xs => some (!xs.isEmpty)
  | .kl xs => some (!xs.isEmpty)
  | .kt xs => some (!xs.isEmpty)
  | .dic ks _ => some (!ks.isEmpty)
  | _ => none
theorem zaa.empty {G : Gc} {H : Hp} {ds : List D} {vs : List V} (r : zaa G H ds vs) : ds.isEmpty = vs.isEmpty := by
  cases ds with
  | nil => cases (show vs = [] from r); rfl
  | cons d ds => obtain ⟨v, r', e, _⟩ := r; subst e; rfl
theorem zq7 {α β : Type} {ks : List α} {vs : List β} (h : ks.length = vs.length) : (ks.zip vs).isEmpty = ks.isEmpty := by
  cases ks <;> cases vs <;> first | rfl | cases h
theorem zq0 {G : Gc} {H : Hp} {d : D} {v : V} {b : Bool} (e : zhf d = some b) (r : Rep G H d v) : zh1 G.K v H b := by
  cases d with
  | non => cases e; cases r; rfl
  | bl x => cases e; cases r; rfl
  | int i => cases e; cases r; rfl
  | str x =>
    cases r
    replace e : (if x.length <= 16777216 then some ((x.length : Int) != 0) else none) = some b := e
    split at e
    · rename_i hl
      cases e
      exact ⟨by rw [sizeLine_eq]; exact hl, rfl⟩
    · cases e
  | lst xs => cases e; obtain ⟨a, vs, e1, q, r⟩ := r; subst e1; exact .inl ⟨vs, SqL.of q, by rw [r.empty]⟩
  | tup xs => cases e; obtain ⟨a, vs, e1, q, r⟩ := r; subst e1; exact .inr (.inl ⟨vs, SqT.of q, by rw [r.empty]⟩)
  | kl xs => cases e; obtain ⟨a, vs, e1, q, r⟩ := r; subst e1; exact .inl ⟨vs, q, by rw [r.empty]⟩
  | kt xs => cases e; obtain ⟨a, vs, e1, q, r⟩ := r; subst e1; exact .inr (.inl ⟨vs, q, by rw [r.empty]⟩)
  | dic ks xs => cases e; obtain ⟨a, vs, e1, q, l, r⟩ := r; subst e1; exact .inr (.inr ⟨_, q, by rw [zq7 l]⟩)
  | ins _ _ _ => cases e
  | kd _ _ => cases e
noncomputable def zb8 (f : List Sl -> Option D) (ρ : List Sl) : Option Bool := (f ρ).bind zhf
theorem zgd {f : List Sl -> Option D} (ha : DB c X a f) (he : ∀ whole, isTrue a X.env whole = (do let v <- whole; standAt a.pos; holding [v] (truthy v)) := by intro _; rfl) : DT c X a (zb8 f) :=
  PT.imp (zo6 ha he) fun σ H Q q_ => by
    obtain ⟨Hf0, H0, Hf, ρ, b, st, ef, k⟩ := q_
    unfold zb8 at ef
    cases ed : f ρ with
    | none => rw [ed] at ef; cases ef
    | some d =>
      rw [ed] at ef
      exact ⟨Hf0, H0, Hf, ρ, d, st, ed, fun v Hf' H' x r => ⟨b, zq0 ef r, k Hf' H' x⟩⟩
noncomputable def zcr (f g : List Sl -> Option Bool) (ρ : List Sl) : Option Bool := (f ρ).bind fun b => if b then g ρ else some false
noncomputable def mOr (f g : List Sl -> Option Bool) (ρ : List Sl) : Option Bool := (f ρ).bind fun b => if b then some true else g ρ
noncomputable def zch (f : List Sl -> Option Bool) (ρ : List Sl) : Option Bool := (f ρ).map not
theorem DW.dt {f : List Sl -> Option Bool} (h : DW c X e f) : DT c X e f := PW.pt h
theorem zrh {f : List Sl -> Option Bool} (h : DT c X a f) : DW c X (.BoolOp .And [a] pos) f := zrm h
theorem zjh {f : List Sl -> Option Bool} (h : DT c X a f) : DW c X (.BoolOp .Or [a] pos) f := zr2 h
theorem zo7 {f g : List Sl -> Option Bool} {zal : List Expr} (h : DT c X a f) (h' : DW c X (.BoolOp .And (b :: zal) pos) g) : DW c X (.BoolOp .And (a :: b :: zal) pos) (zcr f g) := PW.imp (zp2 h h') fun σ H Q q_ => by
  obtain ⟨Hf0, H0, Hf, ρ, b, st, ef, k⟩ := q_
  unfold zcr at ef
  cases e1 : f ρ with
  | none => rw [e1] at ef; cases ef
  | some x =>
    rw [e1] at ef
    refine ⟨Hf0, H0, Hf, ρ, x, st, e1, fun Hf1 H1 x1 => ?_⟩
    cases x with
    | true => rw [if_pos rfl]; exact ⟨Hf0, H0, Hf1, ρ, b, st.step x1, ef, fun Hf2 H2 x2 => k Hf2 H2 (x1.trans x2)⟩
    | false => cases ef; rw [if_neg Bool.false_ne_true]; exact k Hf1 H1 x1
theorem zk6 {f g : List Sl -> Option Bool} {zal : List Expr} (h : DT c X a f) (h' : DW c X (.BoolOp .Or (b :: zal) pos) g) : DW c X (.BoolOp .Or (a :: b :: zal) pos) (mOr f g) := PW.imp (zrp h h') fun σ H Q q_ => by
  obtain ⟨Hf0, H0, Hf, ρ, b, st, ef, k⟩ := q_
  unfold mOr at ef
  cases e1 : f ρ with
  | none => rw [e1] at ef; cases ef
  | some x =>
    rw [e1] at ef
    refine ⟨Hf0, H0, Hf, ρ, x, st, e1, fun Hf1 H1 x1 => ?_⟩
    cases x with
    | false => rw [if_neg Bool.false_ne_true]; exact ⟨Hf0, H0, Hf1, ρ, b, st.step x1, ef, fun Hf2 H2 x2 => k Hf2 H2 (x1.trans x2)⟩
    | true => cases ef; rw [if_pos rfl]; exact k Hf1 H1 x1
theorem zhy {f : List Sl -> Option Bool} (h : DT c X a f) : DT c X (.UnaryOp .Not a pos) (zch f) := PT.imp (zqm h) fun σ H Q q_ => by
  obtain ⟨Hf0, H0, Hf, ρ, b, st, ef, k⟩ := q_
  unfold zch at ef
  cases e1 : f ρ with
  | none => rw [e1] at ef; cases ef
  | some x =>
    rw [e1] at ef
    cases ef
    exact ⟨Hf0, H0, Hf, ρ, x, st, e1, fun Hf1 H1 x1 => k Hf1 H1 x1⟩
noncomputable def zcn (f g : List Sl -> Option D) (ρ : List Sl) : Option D := (mB f ρ).bind fun b => if b then g ρ else some (.bl false)
noncomputable def vOr (f g : List Sl -> Option D) (ρ : List Sl) : Option D := (mB f ρ).bind fun b => if b then some (.bl true) else g ρ
noncomputable def zko (f : List Sl -> Option D) (ρ : List Sl) : Option D := (mB f ρ).map fun b => .bl (!b)
theorem zl5 {f : List Sl -> Option D} {op} (h : DE c X a f) : DE c X (.BoolOp op [a] pos) f := zoa h
theorem zho {f g : List Sl -> Option D} {zal : List Expr} (h : DE c X a f) (h' : DE c X (.BoolOp .And (b :: zal) pos) g) : DE c X (.BoolOp .And (a :: b :: zal) pos) (zcn f g) := PE.imp (zq3 h h') fun σ H Q q_ => by
  obtain ⟨Hf0, H0, Hf, ρ, d, st, ef, k⟩ := q_
  unfold zcn at ef
  cases e1 : mB f ρ with
  | none => rw [e1] at ef; cases ef
  | some x =>
    rw [e1] at ef
    refine ⟨Hf0, H0, Hf, ρ, .bl x, st, zl7 e1, fun v Hf1 H1 x1 r1 => ⟨x, r1, ?_⟩⟩
    cases x with
    | true => rw [if_pos rfl]; exact ⟨Hf0, H0, Hf1, ρ, d, st.step x1, ef, fun v Hf2 H2 x2 r2 => k v Hf2 H2 (x1.trans x2) r2⟩
    | false => cases ef; rw [if_neg Bool.false_ne_true]; exact k _ Hf1 H1 x1 rfl
end
end L2
namespace L2
open PySem PySem.Spec PyProof.Rows
noncomputable instance {i j : Int} : Decidable (zej i j) := by unfold zej; infer_instance
noncomputable instance {i j : Int} : Decidable (zem i j) := by unfold zem; infer_instance
noncomputable instance {i j : Int} : Decidable (zcx i j) := by unfold zcx; infer_instance
noncomputable def dI (C : Int -> Int -> Prop) [∀ i j, Decidable (C i j)] (g : Int -> Int -> D) : D -> D -> Option D
  | .int i, .int j => if C i j then some (g i j) else none
  | _, _ => none
noncomputable def dI0 (g : Int -> Int -> D) : D -> D -> Option D
  | .int i, .int j => some (g i j)
  | _, _ => none
noncomputable def zbh : D -> D -> Option D
  | .int i, .int j => some (.int (i + j))
  | .str a, .str b => if a.length + b.length <= 16777216 then some (.str (a ++ b)) else none
  | .lst a, .lst b => if a.length + b.length <= 16777216 then some (.lst (a ++ b)) else none
  | _, _ => none
noncomputable abbrev ze5 : D -> D -> Option D := dI0 fun i j => .int (i - j)
noncomputable abbrev zp3 : D -> D -> Option D := dI zcx fun i j => .int (i * j)
noncomputable abbrev zg6 : D -> D -> Option D := dI zej fun i j => .int (i / j)
noncomputable abbrev zdg : D -> D -> Option D := dI (fun _ j => 0 < j) fun i j => .int (i % j)
noncomputable abbrev zfr : D -> D -> Option D := dI zem fun i j => .int (i ^ j.toNat)
noncomputable abbrev zmw : D -> D -> Option D := dI (fun _ j => 0 <= j) fun i j => .int (i / 2 ^ j.toNat)
noncomputable abbrev zm0 : D -> D -> Option D := dI0 fun i j => .int (Builtin.bitAnd i j)
noncomputable abbrev dLt : D -> D -> Option D := dI0 fun i j => .bl (decide (i < j))
noncomputable abbrev dLe : D -> D -> Option D := dI0 fun i j => .bl (decide (i <= j))
noncomputable abbrev dGt : D -> D -> Option D := dI0 fun i j => .bl (decide (j < i))
noncomputable abbrev dGe : D -> D -> Option D := dI0 fun i j => .bl (decide (j <= i))
section
variable {c : Str -> Addr} {X : Cx}
theorem zfk {f : Value -> Value -> Sem Value} {C : Int -> Int -> Prop} [∀ i j, Decidable (C i j)] {g : Int -> Int -> V} {gd : Int -> Int -> D} (h : OpR X f (rI C g)) (hg : ∀ G H i j, Rep G H (gd i j) (g i j)) : OpD c X f (dI C gd) := by
  rintro pins s σ H vx vy v u Q I rx ry ⟨Hf, x, y, d, s0, r1, r2, e, k⟩
  unfold dI at e
  split at e
  · split at e
    · rename_i hc
      cases e
      exact h pins s σ H vx vy v u Q I rx ry ⟨_, _, r1, r2, hc, k _ Hf H (Ext.refl s0) (hg _ _ _ _)⟩
    · cases e
  · cases e
theorem zly {f : Value -> Value -> Sem Value} {g : Int -> Int -> V} {gd : Int -> Int -> D} (h : OpR X f (rI0 g)) (hg : ∀ G H i j, Rep G H (gd i j) (g i j)) : OpD c X f (dI0 gd) := by
  rintro pins s σ H vx vy v u Q I rx ry ⟨Hf, x, y, d, s0, r1, r2, e, k⟩
  unfold dI0 at e
  split at e
  · cases e
    exact h pins s σ H vx vy v u Q I rx ry ⟨_, _, r1, r2, k _ Hf H (Ext.refl s0) (hg _ _ _ _)⟩
  · cases e
theorem zdk : OpD c X (binaryOp .Add) zbh := by
  rintro pins s σ H vx vy v u Q I rx ry ⟨Hf, x, y, d, s0, r1, r2, e, k⟩
  unfold zbh at e
  split at e
  · cases e
    exact zn3 pins s σ H vx vy v u Q I rx ry ⟨_, _, r1, r2, k _ Hf H (Ext.refl s0) rfl⟩
  · split at e
    · rename_i hl
      cases e
      exact znb pins s σ H vx vy v u Q I rx ry ⟨_, _, r1, r2, by rw [sizeLine_eq]; exact hl, k _ Hf H (Ext.refl s0) rfl⟩
    · cases e
  · split at e
    · rename_i hl
      cases e
      obtain ⟨a, vs, e1, q1, r1⟩ := r1
      obtain ⟨b, us, e2, q2, r2⟩ := r2
      exact znj pins s σ H vx vy v u Q I rx ry ⟨a, b, vs, us, e1, e2, s0 _ _ q1, s0 _ _ q2, by rw [sizeLine_eq, <- r1.length, <- r2.length]; exact hl,
        fun p hp => k _ (upd Hf p (.lst (vs ++ us))) (upd H p (.lst (vs ++ us))) (Ext.new s0 hp) ⟨p, _, rfl, zau, (r1.append r2).up (zaw (s0.free hp))⟩⟩
    · cases e
  · cases e
theorem zjo : OpD c X (binaryOp .Sub) ze5 := zly zo5 fun _ _ _ _ => rfl
theorem zpy : OpD c X (binaryOp .FloorDiv) zg6 := zfk zqx fun _ _ _ _ => rfl
theorem zgl : OpD c X (binaryOp .Mod) zdg := zfk zqs fun _ _ _ _ => rfl
theorem zj4 : OpD c X (binaryOp .Pow) zfr := zfk zro fun _ _ _ _ => rfl
theorem zoy : OpD c X (compareOp .Lt) dLt := zly zny fun _ _ _ _ => rfl
theorem zoh {g : Int -> Int -> D} (hg : ∀ i j, (g i j).scalar = true) : ∀ x y d, dI0 g x y = some d -> d.scalar = true := by
  intro x y d e
  unfold dI0 at e
  split at e
  · cases e; exact hg _ _
  · cases e
theorem zm9 : ∀ x y d, dLt x y = some d -> d.scalar = true := zoh fun _ _ => rfl
noncomputable def zct : D -> Option D
  | .int i => some (.int (-i))
  | _ => none
noncomputable def m1 (m : D -> Option D) (f : List Sl -> Option D) (ρ : List Sl) : Option D := (f ρ).bind m
theorem zg4 {a : Expr} {f : List Sl -> Option D} {pos : Pos} (ha : DE c X a f) : DE c X (.UnaryOp .USub a pos) (m1 zct f) := PE.imp (zo8 zos ha) fun σ H Q q_ => by
  obtain ⟨Hf0, H0, Hf, ρ, d, st, ef, k⟩ := q_
  unfold m1 at ef
  cases e1 : f ρ with
  | none => rw [e1] at ef; cases ef
  | some y =>
    rw [e1] at ef
    cases y with
    | int i => cases ef; exact ⟨Hf0, H0, Hf, ρ, .int i, st, e1, fun v Hf' H' x r => ⟨i, r, k _ Hf' H' x rfl⟩⟩
    | _ => cases ef
theorem zil {x : Option Bool} {g : Bool -> Bool} : ∀ d, x.map (fun b => D.bl (g b)) = some d -> d.scalar = true := by
  intro d e
  cases x with
  | none => cases e
  | some b => cases e; rfl
noncomputable def eqF : D -> D -> Bool
  | .non, .non => true
  | .bl a, .bl b => a == b
  | .int a, .int b => a == b
  | .str a, .str b => a == b
  | _, _ => false
noncomputable def za2 (f : D -> D -> Option Bool) : List D -> List D -> Option Bool
  | [], [] => some true
  | x :: xs, y :: ys => (f x y).bind fun b => (za2 f xs ys).map fun r => b && r
  | _, _ => some false
noncomputable def zg5 : D -> D -> Bool
  | .bl _, .int _ => true
  | .int _, .bl _ => true
  | _, _ => false
noncomputable def zhq (f : D -> D -> Option Bool) : D -> D -> Option Bool
  | .lst xs, .lst ys => if xs.length = ys.length then za2 f xs ys else some false
  | .tup xs, .tup ys => if xs.length = ys.length then za2 f xs ys else none
  | x, y => if x.scalar && y.scalar && !zg5 x y then some (eqF x y) else none
noncomputable def deq : Nat -> D -> D -> Option Bool
  | 0, _, _ => none
  | n + 1, x, y => zhq (deq n) x y
noncomputable def dEq (x y : D) : Option D := (deq 20 x y).map .bl
noncomputable def dNe (x y : D) : Option D := (deq 20 x y).map fun b => .bl (!b)
theorem ztd : ∀ x y d, dEq x y = some d -> d.scalar = true := fun _ _ d e => zil (g := id) d e
theorem ze1 : ∀ x y d, dNe x y = some d -> d.scalar = true := fun _ _ d e => zil (g := not) d e
theorem zli {f : D -> D -> Option Bool} {x y : D} {xs ys : List D} {b : Bool} (h : za2 f (x :: xs) (y :: ys) = some b) : ∃ b1 b2, f x y = some b1 /\ za2 f xs ys = some b2 /\ b = (b1 && b2) := by
  unfold za2 at h
  cases e1 : f x y with
  | none => rw [e1] at h; cases h
  | some b1 =>
    cases e2 : za2 f xs ys with
    | none => rw [e1, e2] at h; cases h
    | some b2 => rw [e1, e2] at h; cases h; exact ⟨b1, b2, rfl, rfl, rfl⟩
theorem zcz {f : D -> D -> Option Bool} : ∀ {xs ys : List D} {b : Bool}, xs.length = ys.length -> za2 f xs ys = some b -> ∃ e : Nat -> Bool, (∀ j x y, xs[j]? = some x -> ys[j]? = some y -> f x y = some (e j)) /\ (List.range xs.length).all e = b
  | [], [], b, _, h => by cases h; exact ⟨fun _ => true, fun j x y e => by simp at e, rfl⟩
  | x :: xs, y :: ys, b, hl, h => by
    obtain ⟨b1, b2, h1, h2, rfl⟩ := zli h
    obtain ⟨e, he, ha⟩ := zcz (by simpa using hl) h2
    refine ⟨fun j => match j with | 0 => b1 | j + 1 => e j, fun j x' y' ex ey => ?_, ?_⟩
    · cases j with
      | zero => simp at ex ey; subst ex ey; exact h1
      | succ j => exact he j x' y' (by simpa using ex) (by simpa using ey)
    · rw [List.length_cons, List.range_succ_eq_map, List.all_cons, List.all_map, <- ha]
      rfl
  | [], _ :: _, _, hl, _ => by cases hl
  | _ :: _, [], _, hl, _ => by cases hl
theorem zfn {G : Gc} {H : Hp} {x y : D} {v u : V} (hs : (x.scalar && y.scalar && !zg5 x y) = true) (r1 : Rep G H x v) (r2 : Rep G H y u) : za4 v = true /\ za4 u = true /\ eqV v u = eqF x y /\ zh3 v u = true /\ decide (v = u) = eqF x y := by
  cases x <;> first
    | (cases hs; done)
    | (cases y <;> first
      | (cases hs; done)
      | (cases r1; cases r2; refine ⟨rfl, rfl, rfl, rfl, ?_⟩; first | exact zio | exact zii | exact zin | rfl))
theorem zfi {n : Nat} {x y : D} {b : Bool} (hs : ¬ (∃ xs ys, x = .lst xs /\ y = .lst ys) /\ ¬ (∃ xs ys, x = .tup xs /\ y = .tup ys)) (h : deq (n + 1) x y = some b) : (x.scalar && y.scalar && !zg5 x y) = true /\ b = eqF x y := by
  replace h : zhq (deq n) x y = some b := h
  unfold zhq at h
  split at h
  · exact absurd ⟨_, _, rfl, rfl⟩ hs.1
  · exact absurd ⟨_, _, rfl, rfl⟩ hs.2
  · split at h
    · rename_i hc
      cases h
      exact ⟨hc, rfl⟩
    · cases h
theorem zkj {G : Gc} {H : Hp} : ∀ (n : Nat) {x y : D} {b : Bool} {v : V}, deq n x y = some b -> Rep G H x v -> Rep G H y v -> b = true := by
  intro n
  induction n with
  | zero => intro x y b v h; cases h
  | succ n ih =>
    have all : ∀ (xs ys : List D) (vs : List V) (b : Bool), zaa G H xs vs -> zaa G H ys vs -> za2 (deq n) xs ys = some b -> b = true := by
      intro xs
      induction xs with
      | nil =>
        intro ys vs b r1 r2 h
        cases (show vs = [] from r1)
        have : ys = [] := List.length_eq_zero_iff.mp r2.length
        subst this
        cases h; rfl
      | cons x xs ihx =>
        intro ys vs b r1 r2 h
        obtain ⟨v, r, e, h1, h2⟩ := r1
        subst e
        cases ys with
        | nil => cases (show v :: r = [] from r2)
        | cons y ys =>
          obtain ⟨v', r', e, h1', h2'⟩ := r2
          cases e
          obtain ⟨b1, b2, e1, e2, rfl⟩ := zli h
          rw [ih e1 h1 h1', ihx ys _ b2 h2 h2' e2]
          rfl
    intro x y b v h r1 r2
    by_cases hl : ∃ xs ys, x = .lst xs /\ y = .lst ys
    · obtain ⟨xs, ys, rfl, rfl⟩ := hl
      obtain ⟨a, vs, e, q, r1⟩ := r1
      obtain ⟨a', vs', e', q', r2⟩ := r2
      subst e; cases e'
      rw [q] at q'; cases q'
      have hlen : xs.length = ys.length := r1.length.trans r2.length.symm
      replace h : (if xs.length = ys.length then za2 (deq n) xs ys else some false) = some b := h
      rw [if_pos hlen] at h
      exact all xs ys vs b r1 r2 h
    · by_cases ht : ∃ xs ys, x = .tup xs /\ y = .tup ys
      · obtain ⟨xs, ys, rfl, rfl⟩ := ht
        obtain ⟨a, vs, e, q, r1⟩ := r1
        obtain ⟨a', vs', e', q', r2⟩ := r2
        subst e; cases e'
        rw [q] at q'; cases q'
        have hlen : xs.length = ys.length := r1.length.trans r2.length.symm
        replace h : (if xs.length = ys.length then za2 (deq n) xs ys else none) = some b := h
        rw [if_pos hlen] at h
        exact all xs ys vs b r1 r2 h
      · obtain ⟨hs, rfl⟩ := zfi ⟨hl, ht⟩ h
        obtain ⟨_, _, _, _, e⟩ := zfn hs r1 r2
        rw [<- e]
        exact decide_eq_true rfl
section
variable {pins : List (Addr × Obj)} {σ : St} {H : Hp} {s : Shared}
theorem zd0 {G : Gc} {xs ys : List D} {vs us : List V} {its its2 : List Value} {n : Nat} {A : Around} {e : Nat -> Bool} (r1 : zaa G H xs vs) (r2 : zaa G H ys us) (r : zad vs its) (r' : zad us its2)
    (he : ∀ j x y, xs[j]? = some x -> ys[j]? = some y -> deq n x y = some (e j))
    (ih : ∀ {x y : D} {b : Bool} {v u : V} {w w' : Value}, deq n x y = some b -> Rep G H x v -> Rep G H y u -> zae v w -> zae u w' -> SeqAt.EqAt A s w w' b) :
    ∀ j (h1 : j < its.toArray.size) (h2 : j < its2.toArray.size), SeqAt.EqAt A s its.toArray[j] its2.toArray[j] (e j) := fun j h1 h2 => by
  have h1' : j < its.length := by simpa using h1
  have h2' : j < its2.length := by simpa using h2
  obtain ⟨v, ev, rv⟩ := r.at' (i := j) (u := its[j]) (by simp [h1'])
  obtain ⟨u, eu, ru⟩ := r'.at' (i := j) (u := its2[j]) (by simp [h2'])
  obtain ⟨x, ex, rx⟩ := r1.get' ev
  obtain ⟨y, ey, ry⟩ := r2.get' eu
  exact ih (he j x y ex ey) rx ry rv ru
theorem zkk (I : Inv X pins σ H s) : ∀ (n : Nat) {A : Around} {x y : D} {b : Bool} {v u : V} {w w' : Value}, A.units + n < cLine -> deq n x y = some b -> Rep (Gx c X) H x v -> Rep (Gx c X) H y u -> zae v w -> zae u w' -> SeqAt.EqAt A s w w' b := by
  intro n
  induction n with
  | zero => intro A x y b v u w w' _ h; cases h
  | succ n ih =>
    intro A x y b v u w w' hu h r1 r2 rv ru
    have hin : ∀ {x y : D} {b : Bool} {v u : V} {w w' : Value}, deq n x y = some b -> Rep (Gx c X) H x v -> Rep (Gx c X) H y u -> zae v w -> zae u w' -> SeqAt.EqAt A.in1 s w w' b := fun h a b c d => ih (by rw [Around.in1_units]; omega) h a b c d
    by_cases hl : ∃ xs ys, x = .lst xs /\ y = .lst ys
    · obtain ⟨xs, ys, rfl, rfl⟩ := hl
      obtain ⟨a, vs, e, q, rs1⟩ := id r1
      obtain ⟨a', vs', e', q', rs2⟩ := id r2
      subst e e'
      cases rv; cases ru
      by_cases hab : a = a'
      · subst hab
        have := zkj (n + 1) h (show Rep (Gx c X) H (.lst xs) (.ref a) from ⟨a, vs, rfl, q, rs1⟩) ⟨a, vs', rfl, q', rs2⟩
        subst this
        exact SeqAt.EqAt.same _
      · refine SeqAt.EqAt.of_refs hab ?_
        obtain ⟨its, rr, pl, hz⟩ := I.list (SqL.of (K := X.K) q)
        obtain ⟨its2, rr2, pl2, hz2⟩ := I.list (SqL.of (K := X.K) q')
        have l1 := rr.length
        have l2 := rr2.length
        have l3 := rs1.length
        have l4 := rs2.length
        replace h : (if xs.length = ys.length then za2 (deq n) xs ys else some false) = some b := h
        split at h
        · rename_i hlen
          obtain ⟨ee, he, ha⟩ := zcz hlen h
          have := SeqAt.RcAt.lists (A := A) (s := s) pl.isList pl2.isList (by simp only [List.size_toArray]; omega) (by omega) (zd0 (A := A.in1) (s := s) rs1 rs2 rr rr2 he hin)
          rw [List.size_toArray, <- l1, <- l3, ha] at this
          exact this
        · rename_i hlen
          cases h
          exact SeqAt.RcAt.lists_lengths (A := A) (s := s) pl.isList pl2.isList (by simp only [List.size_toArray, bne_iff_ne, ne_eq]; omega) (by omega)
    · by_cases ht : ∃ xs ys, x = .tup xs /\ y = .tup ys
      · obtain ⟨xs, ys, rfl, rfl⟩ := ht
        obtain ⟨a, vs, e, q, rs1⟩ := id r1
        obtain ⟨a', vs', e', q', rs2⟩ := id r2
        subst e e'
        cases rv; cases ru
        by_cases hab : a = a'
        · subst hab
          have := zkj (n + 1) h (show Rep (Gx c X) H (.tup xs) (.ref a) from ⟨a, vs, rfl, q, rs1⟩) ⟨a, vs', rfl, q', rs2⟩
          subst this
          exact SeqAt.EqAt.same _
        · refine SeqAt.EqAt.of_refs hab ?_
          obtain ⟨its, rr, pl, hz⟩ := I.tuple (SqT.of (K := X.K) q)
          obtain ⟨its2, rr2, pl2, hz2⟩ := I.tuple (SqT.of (K := X.K) q')
          have l1 := rr.length
          have l2 := rr2.length
          have l3 := rs1.length
          have l4 := rs2.length
          replace h : (if xs.length = ys.length then za2 (deq n) xs ys else none) = some b := h
          split at h
          · rename_i hlen
            obtain ⟨ee, he, ha⟩ := zcz hlen h
            have := SeqAt.RcAt.tuples (A := A) (s := s) (show s.heap.IsTuple a its.toArray from pl) (show s.heap.IsTuple a' its2.toArray from pl2) (by omega) (zd0 (A := A.in1) (s := s) rs1 rs2 rr rr2 he hin)
            have hsz : its.toArray.size = its2.toArray.size := by simp only [List.size_toArray]; omega
            rw [<- hsz, Nat.min_self, beq_self_eq_true, Bool.and_true, List.size_toArray, <- l1, <- l3, ha] at this
            exact this
          · cases h
      · obtain ⟨hs, rfl⟩ := zfi ⟨hl, ht⟩ h
        obtain ⟨f1, f2, e, _, _⟩ := zfn hs r1 r2
        rw [<- e]
        exact zkh rv ru f1 f2
end
theorem zn8 (hu : X.A.units + 64 < cLine) : OpD c X (compareOp .Eq) dEq := by
  rintro pins s σ H v u w w' Q I rv ru ⟨Hf, x, y, d, s0, r1, r2, e, k⟩
  unfold dEq at e
  cases h : deq 20 x y with
  | none => rw [h] at e; cases e
  | some b =>
    rw [h] at e
    cases e
    have q0 := k (.bl b) Hf H (Ext.refl s0) rfl
    have fin : EP X pins σ Q (.bool b) s := ⟨.bl b, H, I, rfl, q0⟩
    have r1 := r1.up s0
    have r2 := r2.up s0
    have hin : ∀ {x y : D} {b : Bool} {v u : V} {w w' : Value}, deq 19 x y = some b -> Rep (Gx c X) H x v -> Rep (Gx c X) H y u -> zae v w -> zae u w' -> SeqAt.EqAt X.A.in1 s w w' b := fun h a b c d => zkk I 19 (by rw [Around.in1_units]; omega) h a b c d
    by_cases hl : ∃ xs ys, x = .lst xs /\ y = .lst ys
    · obtain ⟨xs, ys, rfl, rfl⟩ := hl
      obtain ⟨a, vs, e, q, rs1⟩ := id r1
      obtain ⟨a', vs', e', q', rs2⟩ := id r2
      subst e e'
      cases rv; cases ru
      obtain ⟨its, rr, pl, hz⟩ := I.list (SqL.of (K := X.K) q)
      obtain ⟨its2, rr2, pl2, hz2⟩ := I.list (SqL.of (K := X.K) q')
      have l1 := rr.length
      have l2 := rr2.length
      have l3 := rs1.length
      have l4 := rs2.length
      replace h : (if xs.length = ys.length then za2 (deq 19) xs ys else some false) = some b := h
      split at h
      · rename_i hlen
        obtain ⟨ee, he, ha⟩ := zcz hlen h
        refine SeqAt.eq_listAt pl.isList pl2.isList (by simp only [List.size_toArray]; omega) (by omega) (zd0 rs1 rs2 rr rr2 he hin) ?_
        rw [List.size_toArray, <- l1, <- l3, ha]
        exact fin
      · rename_i hlen
        cases h
        exact SeqAt.eq_list_lengthsAt pl.isList pl2.isList (by simp only [List.size_toArray, bne_iff_ne, ne_eq]; omega) (by omega) fin
    · by_cases ht : ∃ xs ys, x = .tup xs /\ y = .tup ys
      · obtain ⟨xs, ys, rfl, rfl⟩ := ht
        obtain ⟨a, vs, e, q, rs1⟩ := id r1
        obtain ⟨a', vs', e', q', rs2⟩ := id r2
        subst e e'
        cases rv; cases ru
        obtain ⟨its, rr, pl, hz⟩ := I.tuple (SqT.of (K := X.K) q)
        obtain ⟨its2, rr2, pl2, hz2⟩ := I.tuple (SqT.of (K := X.K) q')
        have l1 := rr.length
        have l2 := rr2.length
        have l3 := rs1.length
        have l4 := rs2.length
        replace h : (if xs.length = ys.length then za2 (deq 19) xs ys else none) = some b := h
        split at h
        · rename_i hlen
          obtain ⟨ee, he, ha⟩ := zcz hlen h
          refine SeqAt.eq_tupleAt (show s.heap.IsTuple a its.toArray from pl) (show s.heap.IsTuple a' its2.toArray from pl2) (by omega) (zd0 rs1 rs2 rr rr2 he hin) ?_
          have hsz : its.toArray.size = its2.toArray.size := by simp only [List.size_toArray]; omega
          rw [<- hsz, Nat.min_self, beq_self_eq_true, Bool.and_true, List.size_toArray, <- l1, <- l3, ha]
          exact fin
        · cases h
      · obtain ⟨hs, rfl⟩ := zfi ⟨hl, ht⟩ h
        obtain ⟨_, _, _, hsc, e⟩ := zfn hs r1 r2
        exact zor pins s σ H v u w w' Q I rv ru ⟨hsc, by rw [e]; exact q0⟩
theorem zex (hu : X.A.units + 64 < cLine) : OpD c X (compareOp .NotEq) dNe := by
  rintro pins s σ H v u w w' Q I rv ru ⟨Hf, x, y, d, s0, r1, r2, e, k⟩
  unfold dNe at e
  cases h : deq 20 x y with
  | none => rw [h] at e; cases e
  | some b =>
    rw [h] at e
    cases e
    have q0 := k (.bl (!b)) Hf H (Ext.refl s0) rfl
    have fin : EP X pins σ Q (.bool (!b)) s := ⟨.bl (!b), H, I, rfl, q0⟩
    have r1 := r1.up s0
    have r2 := r2.up s0
    have hin : ∀ {x y : D} {b : Bool} {v u : V} {w w' : Value}, deq 19 x y = some b -> Rep (Gx c X) H x v -> Rep (Gx c X) H y u -> zae v w -> zae u w' -> SeqAt.EqAt X.A.in1 s w w' b := fun h a b c d => zkk I 19 (by rw [Around.in1_units]; omega) h a b c d
    by_cases hl : ∃ xs ys, x = .lst xs /\ y = .lst ys
    · obtain ⟨xs, ys, rfl, rfl⟩ := hl
      obtain ⟨a, vs, e, q, rs1⟩ := id r1
      obtain ⟨a', vs', e', q', rs2⟩ := id r2
      subst e e'
      cases rv; cases ru
      obtain ⟨its, rr, pl, hz⟩ := I.list (SqL.of (K := X.K) q)
      obtain ⟨its2, rr2, pl2, hz2⟩ := I.list (SqL.of (K := X.K) q')
      have l1 := rr.length
      have l2 := rr2.length
      have l3 := rs1.length
      have l4 := rs2.length
      replace h : (if xs.length = ys.length then za2 (deq 19) xs ys else some false) = some b := h
      split at h
      · rename_i hlen
        obtain ⟨ee, he, ha⟩ := zcz hlen h
        refine SeqAt.RcNeAt.lists (A := X.A) (s := s) pl.isList pl2.isList (by simp only [List.size_toArray]; omega) (by omega) (zd0 rs1 rs2 rr rr2 he hin) X.prog X.w X.xe _ ?_
        rw [List.size_toArray, <- l1, <- l3, ha]
        exact fin
      · rename_i hlen
        cases h
        exact SeqAt.RcNeAt.lists_lengths (A := X.A) (s := s) pl.isList pl2.isList (by simp only [List.size_toArray, bne_iff_ne, ne_eq]; omega) (by omega) X.prog X.w X.xe _ fin
    · by_cases ht : ∃ xs ys, x = .tup xs /\ y = .tup ys
      · obtain ⟨xs, ys, rfl, rfl⟩ := ht
        obtain ⟨a, vs, e, q, rs1⟩ := id r1
        obtain ⟨a', vs', e', q', rs2⟩ := id r2
        subst e e'
        cases rv; cases ru
        obtain ⟨its, rr, pl, hz⟩ := I.tuple (SqT.of (K := X.K) q)
        obtain ⟨its2, rr2, pl2, hz2⟩ := I.tuple (SqT.of (K := X.K) q')
        have l1 := rr.length
        have l2 := rr2.length
        have l3 := rs1.length
        have l4 := rs2.length
        replace h : (if xs.length = ys.length then za2 (deq 19) xs ys else none) = some b := h
        split at h
        · rename_i hlen
          obtain ⟨ee, he, ha⟩ := zcz hlen h
          refine SeqAt.RcNeAt.tuples (A := X.A) (s := s) (show s.heap.IsTuple a its.toArray from pl) (show s.heap.IsTuple a' its2.toArray from pl2) (by omega) (zd0 rs1 rs2 rr rr2 he hin) X.prog X.w X.xe _ ?_
          have hsz : its.toArray.size = its2.toArray.size := by simp only [List.size_toArray]; omega
          rw [<- hsz, Nat.min_self, beq_self_eq_true, Bool.and_true, List.size_toArray, <- l1, <- l3, ha]
          exact fin
        · cases h
      · obtain ⟨hs, rfl⟩ := zfi ⟨hl, ht⟩ h
        obtain ⟨_, _, _, hsc, e⟩ := zfn hs r1 r2
        exact zqk pins s σ H v u w w' Q I rv ru ⟨hsc, by rw [e]; exact q0⟩
noncomputable def eqX : D -> D -> Bool
  | .non, .non => true
  | .bl a, .bl b => a == b
  | .bl a, .int b => (if a then 1 else 0) == b
  | .int a, .bl b => a == (if b then 1 else 0)
  | .int a, .int b => a == b
  | .str a, .str b => a == b
  | _, _ => false
noncomputable def inD (x y : D) : Option Bool := (zcu y).bind fun ds => if x.scalar && ds.all D.scalar then some (ds.any fun d => eqX d x) else none
noncomputable def zc3 (x y : D) : Option D := (inD x y).map fun b => .bl (!b)
theorem ziw : ∀ x y d, zc3 x y = some d -> d.scalar = true := fun _ _ d e => zil (g := not) d e
theorem zq2 {G : Gc} {H : Hp} {x y : D} {v u : V} (hx : x.scalar = true) (hy : y.scalar = true) (r1 : Rep G H x v) (r2 : Rep G H y u) : za4 v = true /\ za4 u = true /\ eqV v u = eqX x y := by
  cases x <;> first
    | (cases hx; done)
    | (cases y <;> first
      | (cases hy; done)
      | (cases r1; cases r2; exact ⟨rfl, rfl, rfl⟩))
theorem zmg {G : Gc} {H : Hp} {x : D} {v : V} (hx : x.scalar = true) (r : Rep G H x v) : ∀ {ds : List D} {vs : List V}, ds.all D.scalar = true -> zaa G H ds vs -> vs.all za4 = true /\ inV v vs = ds.any fun d => eqX d x
  | [], _, _, h => by cases (show _ = [] from h); exact ⟨rfl, rfl⟩
  | d :: ds, _, ha, ⟨u, r', e, h1, h2⟩ => by
    subst e
    rw [List.all_cons, Bool.and_eq_true] at ha
    obtain ⟨f1, f2, e⟩ := zq2 ha.1 hx h1 r
    obtain ⟨g1, g2⟩ := zmg hx r ha.2 h2
    refine ⟨by rw [List.all_cons, f1, g1]; rfl, ?_⟩
    unfold inV at g2 ⊢
    rw [List.any_cons, List.any_cons, e, g2]
theorem zrj {G : Gc} {H : Hp} {x y : D} {v u : V} {b : Bool} (e : inD x y = some b) (r1 : Rep G H x v) (r2 : Rep G H y u) : ∃ p vs, u = .ref p /\ (SqL G.K H p vs \/ SqT G.K H p vs) /\ za4 v = true /\ vs.all za4 = true /\ inV v vs = b := by
  unfold inD at e
  cases es : zcu y with
  | none => rw [es] at e; cases e
  | some ds =>
    rw [es] at e
    replace e : (if (x.scalar && ds.all D.scalar) = true then some (ds.any fun d => eqX d x) else none) = some b := e
    split at e
    · rename_i hc
      cases e
      rw [Bool.and_eq_true] at hc
      obtain ⟨a, vs, e1, q, r⟩ := zhw es r2
      obtain ⟨g1, g2⟩ := zmg hc.1 r1 hc.2 r
      have f : za4 v = true := by cases x <;> first | (cases r1; rfl) | (cases hc.1)
      exact ⟨a, vs, e1, q, f, g1, g2⟩
    · cases e
theorem ziy : OpD c X (compareOp .NotIn) zc3 := by
  rintro pins s σ H v u w w' Q I rv ru ⟨Hf, x, y, d, s0, r1, r2, e, k⟩
  unfold zc3 at e
  cases h : inD x y with
  | none => rw [h] at e; cases e
  | some b =>
    rw [h] at e
    cases e
    obtain ⟨p, vs, e1, q, f1, f2, e2⟩ := zrj h (r1.up s0) (r2.up s0)
    refine zsu pins s σ H v u w w' Q I rv ru ⟨p, vs, e1, q, f1, f2, ?_⟩
    rw [if_pos rfl, e2]
    exact k _ Hf H (Ext.refl s0) rfl
end
end L2
namespace L2
open PySem PySem.Spec PyProof.Rows
section
variable {c : Str -> Addr} {X : Cx} {e a b o : Expr} {es : List Expr} {pos p apos : Pos}
theorem zs9 {G : Gc} {H : Hp} {ds : List D} {vs : List V} {i : Int} {d : D} (h : atI ds i = some d) (r : zaa G H ds vs) : ∃ v, atI vs i = some v /\ Rep G H d v := by
  unfold atI at h ⊢
  rw [<- r.length]
  cases e : ixN ds.length i with
  | none => rw [e] at h; cases h
  | some j =>
    rw [e] at h
    exact r.get h
noncomputable def ixD (ds : List D) : D -> Option D
  | .int k => atI ds k
  | _ => none
noncomputable def mIx (f : List Sl -> Option (List D)) (g : List Sl -> Option D) (ρ : List Sl) : Option D := (f ρ).bind fun ds => (g ρ).bind fun i => ixD ds i
theorem zfv {f : List Sl -> Option (List D)} {g : List Sl -> Option D} (ha : DC c X a f) (hb : DE c X b g) (hs : zjj b := by exact fun _ _ => rfl) : DE c X (.Subscript a b pos) (mIx f g) :=
  PE.imp (zpa (zqd.or zsk) ha hb hs) fun σ H Q q_ => by
    obtain ⟨Hf0, H0, Hf, ρ, d, st, ef, k⟩ := q_
    unfold mIx at ef
    cases e1 : f ρ with
    | none => rw [e1] at ef; cases ef
    | some ds =>
      cases e2 : g ρ with
      | none => rw [e1, e2] at ef; cases ef
      | some i =>
        rw [e1, e2] at ef
        replace ef : ixD ds i = some d := ef
        cases i with
        | int n =>
          replace ef : atI ds n = some d := ef
          refine ⟨Hf0, H0, Hf, ρ, ds, st, e1, fun l vs Hf1 H1 x1 q r => ⟨Hf0, H0, Hf1, ρ, .int n, st.step x1, e2, fun u Hf2 H2 x2 r2 => ?_⟩⟩
          cases (show u = V.int n from r2)
          obtain ⟨v, ev, rv⟩ := zs9 ef r
          have fin := k v Hf2 H2 (x1.trans x2) (rv.up x2.f)
          rcases q with q | q
          · exact .inl ⟨l, vs, n, v, rfl, rfl, x2.h.seq q, ev, fin⟩
          · exact .inr ⟨l, vs, n, v, rfl, rfl, x2.h.tup q, ev, fin⟩
        | _ => cases ef
noncomputable def zc4 (xs : List D) (lo hi : Option Int) : List D := (xs.drop (HT.sIx xs.length 0 lo)).take (HT.sIx xs.length xs.length hi - HT.sIx xs.length 0 lo)
noncomputable def lsD : D -> Option (List D)
  | .lst xs => some xs
  | .kl xs => some xs
  | _ => none
theorem zf2 {G : Gc} {H : Hp} {d : D} {v : V} {ds : List D} (e : lsD d = some ds) (r : Rep G H d v) : ∃ a vs, v = .ref a /\ SqL G.K H a vs /\ zaa G H ds vs := by
  cases d with
  | lst xs => cases e; obtain ⟨a, vs, e1, q, r⟩ := r; exact ⟨a, vs, e1, SqL.of q, r⟩
  | kl xs => cases e; obtain ⟨a, vs, e1, q, r⟩ := r; exact ⟨a, vs, e1, q, r⟩
  | _ => cases e
noncomputable def zpz (G : Gc) (f : List Sl -> Option (Option Int)) : TO := fun σ H Q => ∃ Hf0 H0 Hf ρ i, zab G Hf0 H0 Hf H σ ρ /\ f ρ = some i /\ ∀ Hf' H', Ext Hf H Hf' H' -> Q i H'
noncomputable def DPt (c : Str -> Addr) (X : Cx) (e : Option Expr) (f : List Sl -> Option (Option Int)) : Prop := PO X e (zpz (Gx c X) f)
theorem zpe : DPt c X none (fun _ => some none) := fun pins s σ H Q I q_ => by
  obtain ⟨Hf0, H0, Hf, ρ, i, st, ef, k⟩ := q_
  exact (zqr pins s σ H Q I (by cases ef; exact k Hf H (Ext.refl st.sub)))
noncomputable def mPt (f : List Sl -> Option D) (ρ : List Sl) : Option (Option Int) := (f ρ).bind fun d => match d with
  | .int i => some (some i)
  | _ => none
theorem zoj {f : List Sl -> Option D} (h : DE c X e f) : DPt c X (some e) (mPt f) := fun pins s σ H Q I q_ => by
  obtain ⟨Hf0, H0, Hf, ρ, i, st, ef, k⟩ := q_
  exact (zpl h pins s σ H Q I (by
  unfold mPt at ef
  cases e1 : f ρ with
  | none => rw [e1] at ef; cases ef
  | some d =>
    rw [e1] at ef
    cases d with
    | int n => cases ef; exact ⟨Hf0, H0, Hf, ρ, .int n, st, e1, fun v Hf' H' x r => ⟨n, r, k Hf' H' x⟩⟩
    | _ => cases ef))
noncomputable def mSl (f : List Sl -> Option D) (l h : List Sl -> Option (Option Int)) (ρ : List Sl) : Option (List D) := (f ρ).bind fun d => (lsD d).bind fun ds => (l ρ).bind fun lo => (h ρ).map fun hi => zc4 ds lo hi
theorem zmv {G : Gc} {H : Hp} {ds : List D} {vs : List V} (r : zaa G H ds vs) (lo hi : Option Int) : zaa G H (zc4 ds lo hi) (zck vs lo hi) := by
  unfold zc4 zck
  rw [r.length]
  exact (r.drop _).take _
theorem zp4 {f : List Sl -> Option D} {l h : List Sl -> Option (Option Int)} {lo hi : Option Expr} {p2 : Pos} (ha : DE c X e f) (hl : DPt c X lo l) (hh : DPt c X hi h) : DO c X (.Subscript e (.Slice lo hi none p2) pos) (mSl f l h) :=
  PE.imp (zqz zs7 ha hl hh) fun σ H Q q_ => by
    obtain ⟨Hf0, H0, Hf, ρ, rs, st, ef, k⟩ := q_
    unfold mSl at ef
    cases e1 : f ρ with
    | none => rw [e1] at ef; cases ef
    | some d =>
      cases e2 : lsD d with
      | none => rw [e1] at ef; replace ef : (lsD d).bind _ = _ := ef; rw [e2] at ef; cases ef
      | some ds =>
        cases e3 : l ρ with
        | none => rw [e1] at ef; replace ef : (lsD d).bind _ = _ := ef; rw [e2, e3] at ef; cases ef
        | some lo' =>
          cases e4 : h ρ with
          | none => rw [e1] at ef; replace ef : (lsD d).bind _ = _ := ef; rw [e2, e3, e4] at ef; cases ef
          | some hi' =>
            rw [e1] at ef
            replace ef : (lsD d).bind _ = _ := ef
            rw [e2, e3, e4] at ef
            cases ef
            refine ⟨Hf0, H0, Hf, ρ, d, st, e1, fun v Hf1 H1 x1 r1 => ⟨Hf0, H0, Hf1, ρ, lo', st.step x1, e3, fun Hf2 H2 x2 => ⟨Hf0, H0, Hf2, ρ, hi', (st.step x1).step x2, e4, fun Hf3 H3 x3 => ?_⟩⟩⟩
            obtain ⟨a, vs, ea, q, r⟩ := zf2 e2 r1
            subst ea
            have x := (x1.trans x2).trans x3
            have y := (x2.trans x3)
            refine ⟨a, vs, rfl, (x1.s.trans y.h).seq q, fun p hp => ?_⟩
            exact k p (zck vs lo' hi') Hf3 (upd H3 p (.lst (zck vs lo' hi'))) (x.trans (Ext.tmp x.s hp)) (x.h.free hp) (x.s.free hp) zau (zmv (r.up y.f) _ _)
noncomputable def rCD (G : Gc) (m : List D -> Option D) : List V -> Hp -> VK -> Prop := fun vs H Q => ∃ Hf ds d, zac Hf H /\ zaa G Hf ds vs /\ m ds = some d /\ ∀ v Hf' H', Ext Hf H Hf' H' -> Rep G Hf' d v -> Q v H'
noncomputable abbrev zle (c : Str -> Addr) (X : Cx) (f : Value) (m : List D -> Option D) : Prop := zbk X f (rCD (Gx c X) m)
noncomputable def zax (m : List D -> Option D) (f : List Sl -> Option (List D)) (ρ : List Sl) : Option D := (f ρ).bind m
theorem zk3 {m : List D -> Option D} {f : List Sl -> Option (List D)} {ρ : List Sl} {d : D} (h : zax m f ρ = some d) : ∃ ds, f ρ = some ds /\ m ds = some d := by
  unfold zax at h
  cases e : f ρ with
  | none => rw [e] at h; cases h
  | some ds => rw [e] at h; exact ⟨ds, rfl, h⟩
theorem zfp {m : List D -> Option D} {f : List Sl -> Option (List D)} {x : Str} {id : String} (hc : zle c X (.builtin id) m) (hs : ∀ ds d, m ds = some d -> d.scalar = true) (hg : Gl X x) (hm : X.mg x = none) (hv : bootBuiltins x = some (.builtin id)) (ha : DAB c X (e :: es) f) (hn : x ≠ "__name__" := by decide) (hdb : (x == ("__debug__" : Str)) = false := by decide)
    (he : starEach (e :: es) X.env = (false, eval e X.env) :: starEach es X.env := by rfl) (hpl : (backTo pos (starEach es X.env)).any (·.1) = false := by rfl) :
    DE c X (.Call (.Name x p) (e :: es) [] pos) (zax m f) := PE.imp (zja hc hg hm hv ha.pa hn hdb he hpl) fun σ H Q q_ => by
  obtain ⟨Hf0, H0, Hf, ρ, d, st, ef, k⟩ := q_
  obtain ⟨ds, e1, e2⟩ := zk3 ef
  exact ⟨Hf0, H0, Hf, ρ, ds, st, e1, fun vs Hf' H' x r => ⟨H', ds, d, zac.refl _, r, e2, fun v Hf2 H2 x2 r2 => k v Hf' H2 (x.trans (Ext.grow x.s x2.h)) (r2.sc (hs _ _ e2))⟩⟩
noncomputable def za7 : List D -> Option D
  | [.lst xs] => some (.int xs.length)
  | [.tup xs] => some (.int xs.length)
  | [.kl xs] => some (.int xs.length)
  | [.kt xs] => some (.int xs.length)
  | [.str x] => if x.length <= 16777216 then some (.int x.length) else none
  | _ => none
theorem zaa.one {G : Gc} {H : Hp} {d : D} {vs : List V} (r : zaa G H [d] vs) : ∃ v, vs = [v] /\ Rep G H d v := by
  obtain ⟨v, r', e, h, q⟩ := r
  cases (show r' = [] from q)
  exact ⟨v, e, h⟩
theorem zaa.two {G : Gc} {H : Hp} {d d' : D} {vs : List V} (r : zaa G H [d, d'] vs) : ∃ v v', vs = [v, v'] /\ Rep G H d v /\ Rep G H d' v' := by
  obtain ⟨v, r', e, h, q⟩ := r
  obtain ⟨v', e', h'⟩ := q.one
  subst e'
  exact ⟨v, v', e, h, h'⟩
theorem zf3 : zle c X (.builtin "len") za7 := by
  rintro pins s σ H vs us Q I rv ⟨Hf, ds, d, s0, r, e, k⟩
  have sq : ∀ (d0 : D) (xs : List D), ds = [d0] -> zcu d0 = some xs -> d = .int xs.length -> wpAny (model X.prog X.w) X.A (call (.builtin "len") us) (EP X pins σ Q) X.xe s := fun d0 xs ed es e0 => by
    subst ed e0
    obtain ⟨v, e1, r1⟩ := r.one
    subst e1
    obtain ⟨a, ws, e2, q, rs⟩ := zhw es r1
    subst e2
    refine zq5 pins s σ H _ us Q I rv ⟨a, ws, rfl, zlh s0 q, ?_⟩
    rw [<- rs.length]
    exact k _ Hf H (Ext.refl s0) rfl
  unfold za7 at e
  split at e
  · cases e; exact sq _ _ rfl rfl rfl
  · cases e; exact sq _ _ rfl rfl rfl
  · cases e; exact sq _ _ rfl rfl rfl
  · cases e; exact sq _ _ rfl rfl rfl
  · split at e
    · rename_i hl
      cases e
      obtain ⟨v, e1, r1⟩ := r.one
      subst e1
      exact zmy pins s σ H _ us Q I rv ⟨_, by rw [show v = V.str _ from r1], by rw [sizeLine_eq]; exact hl, k _ Hf H (Ext.refl s0) rfl⟩
    · cases e
  · cases e
theorem zgc : ∀ ds d, za7 ds = some d -> d.scalar = true := by
  intro ds d e
  unfold za7 at e
  split at e <;> first | (cases e; done) | (cases e; rfl) | (split at e <;> first | (cases e; done) | (cases e; rfl))
noncomputable def tyN : D -> Option String
  | .non => some "NoneType"
  | .bl _ => some "bool"
  | .int _ => some "int"
  | .str _ => some "str"
  | .lst _ => some "list"
  | .tup _ => some "tuple"
  | .dic _ _ => some "dict"
  | _ => none
noncomputable def zhv (T : String) (d : D) : Option D := (tyN d).map fun t => .bl (t == T || (t == "bool" && T == "int"))
theorem zql {G : Gc} {H : Hp} {d : D} {v : V} {t : String} (e : tyN d = some t) (r : Rep G H d v) : zbd G.K H v (.type t) := by
  cases d with
  | non => cases e; cases r; exact .non
  | bl b => cases e; cases r; exact .bl b
  | int i => cases e; cases r; exact .int i
  | str x => cases e; cases r; exact .str x
  | lst xs => cases e; obtain ⟨a, vs, e1, q, r⟩ := r; subst e1; exact .lst q
  | tup xs => cases e; obtain ⟨a, vs, e1, q, r⟩ := r; subst e1; exact .tup q
  | dic ks xs => cases e; obtain ⟨a, vs, e1, q, l, r⟩ := r; subst e1; exact .dK q
  | _ => cases e
noncomputable def zhp (K : PySem.W.Frag) (T : String) : Prop := ∀ t ∈ ["NoneType", "bool", "int", "str", "list", "tuple", "dict"], PySem.W.kitOne K (.type t) (.type T) = some (t == T || (t == "bool" && T == "int"))
theorem zq4 {d : D} {t : String} (e : tyN d = some t) : t ∈ ["NoneType", "bool", "int", "str", "list", "tuple", "dict"] := by
  cases d <;> first | (cases e; decide) | cases e
noncomputable def zdx (T : String) (f : List Sl -> Option D) (ρ : List Sl) : Option D := (f ρ).bind (zhv T)
theorem zl4 {f : List Sl -> Option D} {T : String} {q1 : Pos} {y : Str} (hk : zhp X.K T) (hg : Gl X "isinstance") (hm : X.mg "isinstance" = none) (hy : bootBuiltins y = some (.type T)) (hgy : Gl X y) (hmy : X.mg y = none) (ha : DB c X e f)
    (hs : starEach [e, .Name y q1] X.env = (false, eval e X.env) :: starEach [.Name y q1] X.env := by rfl) (hs2 : starEach [.Name y q1] X.env = (false, eval (.Name y q1) X.env) :: starEach [] X.env := by rfl)
    (hn : y ≠ "__name__" := by decide) (hdb : (y == ("__debug__" : Str)) = false := by decide) (hpl : (backTo pos (starEach [.Name y q1] X.env)).any (·.1) = false := by rfl) :
    DE c X (.Call (.Name "isinstance" p) [e, .Name y q1] [] pos) (zdx T f) :=
  PE.imp (zja zpg hg hm boot_isinstance (zb7 ha (zb7 (zr1 (v := .ty T) hgy hmy hy rfl hn hdb) zcs hs2) hs) (by decide) (by decide) hs hpl) fun σ H Q q_ => by
    obtain ⟨Hf0, H0, Hf, ρ, d, st, ef, k⟩ := q_
    unfold zdx at ef
    cases e1 : f ρ with
    | none => rw [e1] at ef; cases ef
    | some x =>
      rw [e1] at ef
      replace ef : zhv T x = some d := ef
      unfold zhv at ef
      cases e2 : tyN x with
      | none => rw [e2] at ef; cases ef
      | some t =>
        rw [e2] at ef
        cases ef
        exact ⟨Hf0, H0, Hf, ρ, x, st, e1, fun v Hf' H' x1 r => ⟨v, T, .type t, _, rfl, zql e2 r, hk t (zq4 e2), k _ Hf' H' x1 rfl⟩⟩
end
noncomputable def tDG (G : Gc) (g : D -> List Sl -> Option (List Sl)) : TG := fun v σ H Q => ∃ Hf0 H0 Hf ρ d ρ', zab G Hf0 H0 Hf H σ ρ /\ Rep G Hf d v /\ g d ρ = some ρ' /\ ∀ σ', zab G Hf0 H0 Hf H σ' ρ' -> Q σ' H
noncomputable def zse (G : Gc) (g : List D -> List Sl -> Option (List Sl)) : TGs := fun vs σ H Q => ∃ Hf0 H0 Hf ρ ds ρ', zab G Hf0 H0 Hf H σ ρ /\ zaa G Hf ds vs /\ g ds ρ = some ρ' /\ ∀ σ', zab G Hf0 H0 Hf H σ' ρ' -> Q σ' H
structure DG (c : Str -> Addr) (X : Cx) (tg : Expr) (k : Nat) (g : D -> List Sl -> Option (List Sl)) : Prop where
  pg : PG X tg (tDG (Gx c X) g)
  len : ∀ d ρ ρ', g d ρ = some ρ' -> ρ'.length = ρ.length
  keep : ∀ d ρ ρ' i, g d ρ = some ρ' -> k <= i -> ρ'[i]? = ρ[i]?
structure DGs (c : Str -> Addr) (X : Cx) (tg : List Expr) (k : Nat) (g : List D -> List Sl -> Option (List Sl)) : Prop where
  pg : PGs X tg (zse (Gx c X) g)
  len : ∀ d ρ ρ', g d ρ = some ρ' -> ρ'.length = ρ.length
  keep : ∀ d ρ ρ' i, g d ρ = some ρ' -> k <= i -> ρ'[i]? = ρ[i]?
  many : ∀ ds ρ ρ', g ds ρ = some ρ' -> ds.length = tg.length
section
variable {c : Str -> Addr} {X : Cx} {e : Expr} {es : List Expr} {pos : Pos}
noncomputable def zci (i : Nat) (d : D) (ρ : List Sl) : Option (List Sl) := some (ρ.set i (.im d))
theorem zjb {i k : Nat} (h : PG X e (zdi i)) (hk : i < k) : DG c X e k (zci i) :=
  ⟨PG.imp h fun v σ H Q ⟨Hf0, H0, Hf, ρ, d, ρ', st, r, eg, q⟩ => by cases eg; exact q _ (st.setIm r), fun d ρ ρ' h => by cases h; simp, fun d ρ ρ' j h hj => by
    cases h
    rw [List.getElem?_set_ne (by omega)]⟩
theorem zfh (i k : Nat) {x : Str} (hN : X.N.Nodup) (hk : i < k := by decide) (hi : X.N[i]? = some x := by rfl) (hx : Loc X.env.scope x := by first | exact Or.inl rfl | exact Or.inr rfl) (hf : X.fn x = true \/ X.env.scope.names.lookup x = some .local := by first | exact .inl rfl | exact .inr rfl) : DG c X (.Name x pos) k (zci i) :=
  zjb (zju hN hi hx hf) hk
noncomputable def zkw (ds : List D) (ρ : List Sl) : Option (List Sl) := match ds with
  | [] => some ρ
  | _ => none
noncomputable def ze2 (g : D -> List Sl -> Option (List Sl)) (h : List D -> List Sl -> Option (List Sl)) (ds : List D) (ρ : List Sl) : Option (List Sl) := match ds with
  | d :: ds => (g d ρ).bind fun ρ1 => h ds ρ1
  | [] => none
theorem zqn {k : Nat} : DGs c X [] k zkw := by
  refine ⟨PGs.imp zow fun vs σ H Q ⟨Hf0, H0, Hf, ρ, ds, ρ', st, r, eg, q⟩ => ?_, fun d ρ ρ' h => ?_, fun d ρ ρ' i h _ => ?_, fun d ρ ρ' h => ?_⟩
  · cases ds with
    | nil => cases eg; exact ⟨r, q _ st⟩
    | cons d ds => cases eg
  · cases d with
    | nil => cases h; rfl
    | cons a b => cases h
  · cases d with
    | nil => cases h; rfl
    | cons a b => cases h
  · cases d with
    | nil => cases h; rfl
    | cons a b => cases h
theorem zfc {g : D -> List Sl -> Option (List Sl)} {h : List D -> List Sl -> Option (List Sl)} {ds : List D} {ρ ρ' : List Sl} (e : ze2 g h ds ρ = some ρ') : ∃ d r ρ1, ds = d :: r /\ g d ρ = some ρ1 /\ h r ρ1 = some ρ' := by
  cases ds with
  | nil => cases e
  | cons d r =>
    replace e : (g d ρ).bind _ = _ := e
    cases e1 : g d ρ with
    | none => rw [e1] at e; cases e
    | some ρ1 => rw [e1] at e; exact ⟨d, r, ρ1, rfl, e1, e⟩
theorem zki {k : Nat} {g : D -> List Sl -> Option (List Sl)} {h : List D -> List Sl -> Option (List Sl)} (h1 : DG c X e k g) (h2 : DGs c X es k h) (hs : (assignEach (e :: es) X.env).map (·.2) = assign e X.env :: (assignEach es X.env).map (·.2) := by rfl) : DGs c X (e :: es) k (ze2 g h) := by
  refine ⟨PGs.imp (zqw h1.pg h2.pg hs) fun vs σ H Q ⟨Hf0, H0, Hf, ρ, ds, ρ', st, r, eg, q⟩ => ?_, fun d ρ ρ' h => ?_, fun d ρ ρ' i h hi => ?_, fun d ρ ρ' h => ?_⟩
  · obtain ⟨d, dr, ρ1, rfl, e1, e2⟩ := zfc eg
    obtain ⟨v, vr, ev, rv, rr⟩ := r
    exact ⟨v, vr, ev, Hf0, H0, Hf, ρ, d, ρ1, st, rv, e1, fun σ1 st1 => ⟨Hf0, H0, Hf, ρ1, dr, ρ', st1, rr, e2, q⟩⟩
  · obtain ⟨d, dr, ρ1, rfl, e1, e2⟩ := zfc h
    rw [h2.len _ _ _ e2, h1.len _ _ _ e1]
  · obtain ⟨d, dr, ρ1, rfl, e1, e2⟩ := zfc h
    rw [h2.keep _ _ _ _ e2 hi, h1.keep _ _ _ _ e1 hi]
  · obtain ⟨d, dr, ρ1, rfl, e1, e2⟩ := zfc h
    rw [List.length_cons, List.length_cons, h2.many _ _ _ e2]
noncomputable def tpD : D -> Option (List D)
  | .tup xs => some xs
  | .kt xs => some xs
  | _ => none
theorem zk1 {G : Gc} {H : Hp} {d : D} {v : V} {ds : List D} (e : tpD d = some ds) (r : Rep G H d v) : ∃ a vs, v = .ref a /\ SqT G.K H a vs /\ zaa G H ds vs := by
  cases d with
  | tup xs => cases e; obtain ⟨a, vs, e1, q, r⟩ := r; exact ⟨a, vs, e1, SqT.of q, r⟩
  | kt xs => cases e; obtain ⟨a, vs, e1, q, r⟩ := r; exact ⟨a, vs, e1, q, r⟩
  | _ => cases e
noncomputable def zf1 (g : List D -> List Sl -> Option (List Sl)) (d : D) (ρ : List Sl) : Option (List Sl) := (tpD d).bind fun ds => g ds ρ
theorem zht {g : List D -> List Sl -> Option (List Sl)} {d : D} {ρ ρ' : List Sl} (h : zf1 g d ρ = some ρ') : ∃ ds, tpD d = some ds /\ g ds ρ = some ρ' := by
  unfold zf1 at h
  cases e : tpD d with
  | none => rw [e] at h; cases h
  | some ds => rw [e] at h; exact ⟨ds, rfl, h⟩
theorem zns {k : Nat} {g : List D -> List Sl -> Option (List Sl)} {kk : Nat} (hc : X.calm = true) (h : DGs c X es k g) (hn : (assignEach es X.env).length = es.length := by rfl) (hst : (assignEach es X.env).findIdx? (·.1) = none := by rfl) : DG c X (.Tuple es kk pos) k (zf1 g) := by
  refine ⟨PG.imp (zsm hc h.pg hn hst) fun v σ H Q ⟨Hf0, H0, Hf, ρ, d, ρ', st, r, eg, q⟩ => ?_, fun d ρ ρ' h' => ?_, fun d ρ ρ' i h' hi => ?_⟩
  · obtain ⟨ds, e1, e2⟩ := zht eg
    obtain ⟨a, vs, ea, qa, ra⟩ := zk1 e1 r
    exact ⟨a, vs, ea, st.sub.tup qa, by rw [<- ra.length]; exact h.many _ _ _ e2, Hf0, H0, Hf, ρ, ds, ρ', st, ra, e2, q⟩
  · obtain ⟨ds, e1, e2⟩ := zht h'
    exact h.len _ _ _ e2
  · obtain ⟨ds, e1, e2⟩ := zht h'
    exact h.keep _ _ _ _ e2 hi
end
noncomputable def zdr (G : Gc) (Hf : Hp) (J : It) (ds : List D) : Prop := ∀ Hf' H', zac Hf Hf' -> zac Hf' H' -> ∀ i : Nat,
  (∀ d, ds[i]? = some d -> J.go i H' /\ ∀ x H2, J.yld i H' x H2 -> ∃ Hf2, Ext Hf' H' Hf2 H2 /\ Rep G Hf2 d x) /\ (i = ds.length -> J.stop i H')
noncomputable def zjp (G : Gc) (Hf H : Hp) (J : It) (ds : List D) : Prop := ∀ Hf' H', Ext Hf H Hf' H' -> ∀ i : Nat,
  (∀ d, ds[i]? = some d -> J.go i H' /\ ∀ x H2, J.yld i H' x H2 -> ∃ Hf2, Ext Hf' H' Hf2 H2 /\ Rep G Hf2 d x) /\ (i = ds.length -> J.stop i H')
theorem zdr.toE {G : Gc} {Hf H : Hp} {J : It} {ds : List D} (h : zdr G Hf J ds) : zjp G Hf H J ds := fun Hf' H' x i => h Hf' H' x.f x.s i
noncomputable def tDI (G : Gc) (f : List Sl -> Option (List D)) : TI := fun σ H R => ∃ Hf0 H0 Hf ρ ds, zab G Hf0 H0 Hf H σ ρ /\ f ρ = some ds /\ ∀ J Hf' H', Ext Hf H Hf' H' -> zdr G Hf' J ds -> R J H'
noncomputable def zlj (G : Gc) (f : List Sl -> Option (List D)) : TI := fun σ H R => ∃ Hf0 H0 Hf ρ ds, zab G Hf0 H0 Hf H σ ρ /\ f ρ = some ds /\ ∀ J Hf' H', Ext Hf H Hf' H' -> zjp G Hf' H' J ds -> R J H'
noncomputable def DI (c : Str -> Addr) (X : Cx) (tg iter : Expr) (f : List Sl -> Option (List D)) : Prop := PI X tg iter (tDI (Gx c X) f)
noncomputable def DIe (c : Str -> Addr) (X : Cx) (tg iter : Expr) (f : List Sl -> Option (List D)) : Prop := PI X tg iter (zlj (Gx c X) f)
section
variable {c : Str -> Addr} {X : Cx} {tg e a b : Expr} {es : List Expr} {pos p : Pos}
theorem DI.de {f : List Sl -> Option (List D)} (h : DI c X tg e f) : DIe c X tg e f := PI.imp h fun σ H R q_ => by
  obtain ⟨Hf0, H0, Hf, ρ, ds, st, ef, k⟩ := q_
  exact (⟨Hf0, H0, Hf, ρ, ds, st, ef, fun J Hf' H' x i => k J Hf' H' x i.toE⟩)
theorem zpf {G : Gc} {Hf : Hp} {ds : List D} {l : Addr} {vs : List V} (q : SqT G.K Hf l vs) (r : zaa G Hf ds vs) : zdr G Hf (Itt G.K l) ds := fun Hf' H' f s i => by
  have q' : SqT G.K H' l vs := (f.trans s).tup q
  refine ⟨fun d ed => ?_, fun ei => ⟨vs, q', by rw [<- r.length, ei]; exact Nat.le_refl _⟩⟩
  obtain ⟨v, ev, rv⟩ := r.get ed
  refine ⟨⟨vs, v, q', ev⟩, fun x H2 ⟨e2, y⟩ => ?_⟩
  subst e2
  have := y vs q'
  rw [ev] at this
  cases this
  exact ⟨Hf', Ext.refl s, rv.up f⟩
theorem zg7 {f : List Sl -> Option D} (h : DE c X e f) : DI c X tg e (zdb f) := fun pins s σ H R I q_ => by
  obtain ⟨Hf0, H0, Hf, ρ, ds, st, ef, k⟩ := q_
  unfold zdb at ef
  cases e1 : f ρ with
  | none => rw [e1] at ef; cases ef
  | some d =>
    rw [e1] at ef
    replace ef : zcu d = some ds := ef
    have un : ∀ {l : Addr} {H' : Hp} {us vs : List V}, SqL X.K H' l us -> SqL X.K H' l vs -> us = vs \/ True := fun _ _ => .inr trivial
    cases e2 : lsD d with
    | some ds' =>
      have : ds' = ds := by cases d <;> first | (cases e2; done) | (cases e2; cases ef; rfl)
      subst this
      refine zre h pins s σ H R I ⟨Hf0, H0, Hf, ρ, d, st, e1, fun v Hf' H' x r => ?_⟩
      obtain ⟨a, vs, ea, q, rs⟩ := zf2 e2 r
      exact ⟨a, ea, ⟨vs, x.s.seq q⟩, k _ Hf' H' x fun Hf2 H2 f2 s2 i => by
        have q' : SqL X.K H2 a vs := (f2.trans s2).seq q
        refine ⟨fun d ed => ?_, fun ei => ⟨vs, q', by rw [<- rs.length, ei]; exact Nat.le_refl _⟩⟩
        obtain ⟨v, ev, rv⟩ := rs.get ed
        refine ⟨⟨vs, v, q', ev⟩, fun x H3 ⟨e3, y⟩ => ?_⟩
        subst e3
        have := y vs q'
        rw [ev] at this
        cases this
        exact ⟨Hf2, Ext.refl s2, rv.up f2⟩⟩
    | none =>
      have e3 : tpD d = some ds := by cases d <;> first | (cases e2; done) | (cases ef; done) | (cases ef; rfl)
      refine zs1 h pins s σ H R I ⟨Hf0, H0, Hf, ρ, d, st, e1, fun v Hf' H' x r => ?_⟩
      obtain ⟨a, vs, ea, q, rs⟩ := zk1 e3 r
      exact ⟨a, ea, ⟨vs, x.s.tup q⟩, k _ Hf' H' x (zpf q rs)⟩
noncomputable def rng (lo : Int) (n : Nat) : List D := (List.range n).map fun (i : Nat) => .int (lo + i)
theorem zs4 {G : Gc} {Hf : Hp} {lo : Int} {n : Nat} : zdr G Hf (Itr lo n) (rng lo n) := fun Hf' H' f s i => by
  refine ⟨fun d ed => ?_, fun ei => ?_⟩
  · unfold rng at ed
    rw [List.getElem?_map] at ed
    cases e : (List.range n)[i]? with
    | none => rw [e] at ed; cases ed
    | some j =>
      rw [e] at ed
      obtain ⟨hi, ej⟩ := List.getElem?_eq_some_iff.mp e
      rw [List.length_range] at hi
      rw [List.getElem_range] at ej
      subst ej
      cases ed
      exact ⟨hi, fun x H2 ⟨e2, y⟩ => by subst e2; exact ⟨Hf', Ext.refl s, y⟩⟩
  · unfold rng at ei
    rw [List.length_map, List.length_range] at ei
    exact Nat.le_of_eq ei.symm
noncomputable def zf9 : List D -> Option (List D)
  | [.int j] => if -(2 ^ 62) <= j /\ j < 2 ^ 62 then some (rng 0 j.toNat) else none
  | [.int i, .int j] => if -(2 ^ 62) <= i /\ i < 2 ^ 62 /\ -(2 ^ 62) <= j /\ j < 2 ^ 62 then some (rng i (j - i).toNat) else none
  | _ => none
noncomputable def zg0 : List D -> Option (List D)
  | [x, y] => (lsD x).bind fun xs => (lsD y).map fun ys => List.zipWith (fun a b => .tup [a, b]) xs ys
  | _ => none
noncomputable def zim (f : List Sl -> Option (List D)) (ρ : List Sl) : Option (List D) := (f ρ).bind zg0
theorem zr7 {f : List Sl -> Option (List D)} {elts : List Expr} {kx : Nat} {tpos : Pos} (hg : Gl X "zip") (hm : X.mg "zip" = none) (ha : DA c X [a, b] f) (hs : starEach [a, b] X.env = [(false, eval a X.env), (false, eval b X.env)] := by rfl) (hs2 : starEach [b] X.env = [(false, eval b X.env)] := by rfl) :
    DI c X (.Tuple elts kx tpos) (.Call (.Name "zip" p) [a, b] [] pos) (zim f) :=
  PI.imp (zr4 hg hm ha.pa hs hs2) fun σ H R q_ => by
    obtain ⟨Hf0, H0, Hf, ρ, ds, st, ef, k⟩ := q_
    unfold zim at ef
    cases e1 : f ρ with
    | none => rw [e1] at ef; cases ef
    | some as =>
      rw [e1] at ef
      replace ef : zg0 as = some ds := ef
      refine ⟨Hf0, H0, Hf, ρ, as, st, e1, fun vs Hf' H' x r => ?_⟩
      unfold zg0 at ef
      split at ef
      · rename_i dx dy
        cases ex : lsD dx with
        | none => rw [ex] at ef; cases ef
        | some xs =>
          rw [ex] at ef
          replace ef : (lsD dy).map _ = _ := ef
          cases ey : lsD dy with
          | none => rw [ey] at ef; cases ef
          | some ys =>
            rw [ey] at ef
            cases ef
            obtain ⟨v, v', ev, rv, rv'⟩ := r.two
            obtain ⟨l1, w1, el1, q1, r1⟩ := zf2 ex rv
            obtain ⟨l2, w2, el2, q2, r2⟩ := zf2 ey rv'
            subst el1 el2
            refine ⟨l1, l2, ev, ⟨w1, x.s.seq q1⟩, ⟨w2, x.s.seq q2⟩, k _ Hf' H' x fun Hf2 H2 f2 s2 i => ?_⟩
            have g1 : SqL X.K H2 l1 w1 := (f2.trans s2).seq q1
            have g2 : SqL X.K H2 l2 w2 := (f2.trans s2).seq q2
            have h1 := r1.length
            have h2 := r2.length
            refine ⟨fun d ed => ?_, fun ei => ⟨w1, w2, g1, g2, ?_⟩⟩
            · rw [List.getElem?_zipWith] at ed
              cases hx : xs[i]? with
              | none => rw [hx] at ed; cases ed
              | some x' =>
                cases hy : ys[i]? with
                | none => rw [hx, hy] at ed; cases ed
                | some y' =>
                  rw [hx, hy] at ed
                  cases ed
                  obtain ⟨u1, eu1, ru1⟩ := r1.get hx
                  obtain ⟨u2, eu2, ru2⟩ := r2.get hy
                  refine ⟨⟨w1, w2, u1, u2, g1, g2, eu1, eu2⟩, fun z H3 ⟨pp, z1, z2, ez, hp, eh, y1, y2⟩ => ?_⟩
                  subst ez eh
                  have a1 := y1 w1 g1
                  have a2 := y2 w2 g2
                  rw [eu1] at a1; cases a1
                  rw [eu2] at a2; cases a2
                  exact ⟨upd Hf2 pp (.tup [u1, u2]), Ext.new s2 hp, pp, [u1, u2], rfl, zau, .cons (ru1.up (f2.trans (zaw (s2.free hp)))) (.cons (ru2.up (f2.trans (zaw (s2.free hp)))) .nil)⟩
            · rw [List.length_zipWith] at ei
              by_cases hh : xs.length <= ys.length
              · exact .inl (by omega)
              · exact .inr (by omega)
      · cases ef
end
end L2
namespace L2
open PySem PySem.Spec PyProof.Rows
noncomputable def zba (k : Nat) (js : List Nat) (ρ : List Sl) : List Sl := List.replicate k .no ++ js.map fun j => (ρ[j]?).getD .no
section
variable {G : Gc} {Hf0 H0 Hf H : Hp} {σ : St} {ρ : List Sl}
theorem zab.weak {ρ' : List Sl} (h : zab G Hf0 H0 Hf H σ ρ) (hl : ρ'.length = ρ.length) (hw : ∀ (i : Nat) (s : Sl), ρ'[i]? = some s -> s = .no \/ ρ[i]? = some s) : zab G Hf0 H0 Hf H σ ρ' := by
  refine h.re h.ext hl (fun i v s a b => ?_) fun i s v a b c p => ?_
  · rcases hw i s b with e | e
    · subst e; trivial
    · exact h.at' i v s a e
  · rcases hw i s b with e | e
    · subst e; exact (p.calm rfl).elim
    · exact ⟨s, e, p⟩
theorem zf0 {α : Type} {k : Nat} {x : α} {l : List α} {i : Nat} {y : α} (h : (List.replicate k x ++ l)[i]? = some y) : (i < k /\ y = x) \/ (k <= i /\ l[i - k]? = some y) := by
  by_cases hi : i < k
  · left
    rw [List.getElem?_append_left (by simpa using hi), List.getElem?_replicate, if_pos hi] at h
    exact ⟨hi, (Option.some.inj h).symm⟩
  · right
    rw [List.getElem?_append_right (by simpa using Nat.le_of_not_lt hi), List.length_replicate] at h
    exact ⟨Nat.le_of_not_lt hi, h⟩
theorem ze6 {α β : Type} {f : α -> β} {l : List α} {i : Nat} {y : β} (h : (l.map f)[i]? = some y) : ∃ x, l[i]? = some x /\ y = f x := by
  rw [List.getElem?_map] at h
  cases e : l[i]? with
  | none => rw [e] at h; cases h
  | some x => rw [e] at h; exact ⟨x, rfl, (Option.some.inj h).symm⟩
theorem zqf {js : List Nat} (h : js.Nodup) {i j x : Nat} (a : js[i]? = some x) (b : js[j]? = some x) : i = j := by
  obtain ⟨h1, e1⟩ := List.getElem?_eq_some_iff.mp a
  obtain ⟨h2, e2⟩ := List.getElem?_eq_some_iff.mp b
  exact (List.getElem_inj h).mp (e1.trans e2.symm)
theorem zab.comp (k : Nat) {js : List Nat} (h : zab G Hf0 H0 Hf H σ ρ) (hj : js.Nodup) : zab G Hf0 H0 Hf H (zb5 k js σ) (zba k js ρ) := by
  have own : ∀ (i : Nat) (s : Sl), (zba k js ρ)[i]? = some s -> s.calm = false -> ∃ j, k <= i /\ js[i - k]? = some j /\ ρ[j]? = some s := fun i s a hs => by
    rcases zf0 a with ⟨_, e⟩ | ⟨hi, a⟩
    · subst e; cases hs
    · obtain ⟨j, ej, es⟩ := ze6 a
      cases e : ρ[j]? with
      | none => rw [e] at es; subst es; cases hs
      | some t => rw [e] at es; replace es : s = t := es; subst es; exact ⟨j, hi, ej, e⟩
  have val : ∀ (i : Nat) (v : Option V) (j : Nat), (zb5 k js σ)[i]? = some v -> k <= i -> js[i - k]? = some j -> v = (σ[j]?).getD none := fun i v j a hi ej => by
    rcases zf0 a with ⟨hi', _⟩ | ⟨_, a⟩
    · omega
    · obtain ⟨j', ej', es⟩ := ze6 a
      rw [ej] at ej'; cases ej'
      exact es
  refine ⟨h.ext, by simp [zb5, zba], fun i v s a b => ?_, fun i j s t y z l a b c d p q => ?_⟩
  · rcases zf0 b with ⟨_, e⟩ | ⟨hi, b⟩
    · subst e; trivial
    · obtain ⟨j, ej, es⟩ := ze6 b
      have ev := val i v j a hi ej
      cases e : ρ[j]? with
      | none => rw [e] at es; subst es; trivial
      | some t =>
        rw [e] at es
        replace es : s = t := es
        subst es
        obtain ⟨u, eu, q⟩ := h.slot e
        rw [eu] at ev
        replace ev : v = u := ev
        subst ev
        exact q
  · have hs : s.calm = false := by
      cases hc : s.calm with
      | true => exact (p.calm hc).elim
      | false => rfl
    have ht : t.calm = false := by
      cases hc : t.calm with
      | true => exact (q.calm hc).elim
      | false => rfl
    obtain ⟨i', hi, ei, e1⟩ := own i s a hs
    obtain ⟨j', hj', ej, e2⟩ := own j t b ht
    have v1 := val i _ i' c hi ei
    have v2 := val j _ j' d hj' ej
    obtain ⟨u1, eu1, _⟩ := h.slot e1
    obtain ⟨u2, eu2, _⟩ := h.slot e2
    rw [eu1] at v1
    rw [eu2] at v2
    replace v1 : some y = u1 := v1
    replace v2 : some z = u2 := v2
    subst v1 v2
    have := h.dj i' j' s t y z l e1 e2 eu1 eu2 p q
    subst this
    have := zqf hj ei ej
    omega
end
noncomputable def zbq (h : D -> Option (Option D)) : List D -> Option (List D)
  | [] => some []
  | d :: ds => (h d).bind fun o => (zbq h ds).map fun r => match o with
    | some y => y :: r
    | none => r
theorem znn {h : D -> Option (Option D)} {d : D} {ds r : List D} (e : zbq h (d :: ds) = some r) : ∃ o r', h d = some o /\ zbq h ds = some r' /\ r = (match o with | some y => y :: r' | none => r') := by
  unfold zbq at e
  cases e1 : h d with
  | none => rw [e1] at e; cases e
  | some o =>
    cases e2 : zbq h ds with
    | none => rw [e1, e2] at e; cases e
    | some r' =>
      rw [e1, e2] at e
      cases e
      refine ⟨o, r', rfl, rfl, ?_⟩
      cases o <;> rfl
noncomputable def zcj (g : D -> List Sl -> Option (List Sl)) (ft : List Sl -> Option Bool) (fe : List Sl -> Option D) (ρ : List Sl) (d : D) : Option (Option D) := (g d ρ).bind fun ρ1 => (ft ρ1).bind fun b => if b then (fe ρ1).map some else some none
noncomputable def zdy (k : Nat) (js : List Nat) (fi : List Sl -> Option (List D)) (g : D -> List Sl -> Option (List Sl)) (ft : List Sl -> Option Bool) (fe : List Sl -> Option D) (ρ : List Sl) : Option (List D) :=
  (fi ρ).bind fun ds => if ds.length <= 16777216 then zbq (zcj g ft fe (zba k js ρ)) ds else none
theorem zgq {α : Type} {l : List α} {i : Nat} (h : i < l.length) : ∃ x, l[i]? = some x /\ l.drop i = x :: l.drop (i + 1) := ⟨l[i], by simp [h], (List.drop_eq_getElem_cons h)⟩
noncomputable def DTs (c : Str -> Addr) (X : Cx) (ifs : List Expr) (f : List Sl -> Option Bool) : Prop := PTs X ifs (tDT (Gx c X) f)
section
variable {c : Str -> Addr} {X : Cx} {elt tg iter e : Expr} {ifs : List Expr} {scope : Scope} {pos : Pos} {Nc : List Str} {k : Nat} {js : List Nat}
  {fi : List Sl -> Option (List D)} {g : D -> List Sl -> Option (List Sl)} {ft : List Sl -> Option Bool} {fe : List Sl -> Option D}
theorem zjf {f : List Sl -> Option Bool} (h : DT c X e f) : DTs c X [e] f := znu h
theorem zsw {G : Gc} (hj : js.Nodup) (hk : ∀ d ρ ρ' i, g d ρ = some ρ' -> k <= i -> ρ'[i]? = ρ[i]?) (hlen : ∀ d ρ ρ', g d ρ = some ρ' -> ρ'.length = ρ.length) {σ : St} {H : Hp} {Q : VK} (h : tDO G (zdy k js fi g ft fe) σ H Q) :
    zjn k js (zlj G fi) (tDG G g) (tDT G ft) (tD G fe) σ H Q := by
  obtain ⟨Hf0, H0, Hf, ρ, rs, st, ef, kq⟩ := h
  unfold zdy at ef
  cases e1 : fi ρ with
  | none => rw [e1] at ef; cases ef
  | some ds =>
    rw [e1] at ef
    replace ef : (if ds.length <= 16777216 then zbq (zcj g ft fe (zba k js ρ)) ds else none) = some rs := ef
    by_cases hz : ds.length <= 16777216
    · rw [if_pos hz] at ef
      refine ⟨Hf0, H0, Hf, ρ, ds, st, e1, fun J Hf1 H1 x1 it => ?_⟩
      refine ⟨fun i m ys σ' H' => m = ds.length - i /\ i <= ds.length /\ ∃ Hf' as zal, Ext Hf1 H1 Hf' H' /\ zab G Hf0 H0 Hf' H' σ' (zba k js ρ) /\ zaa G Hf' as ys /\ zbq (zcj g ft fe (zba k js ρ)) (ds.drop i) = some zal /\ rs = as ++ zal /\ as.length <= i,
        ⟨ds.length, rfl, Nat.zero_le _, Hf1, [], rs, Ext.refl x1.s, (st.step x1).comp k hj, rfl, ef, rfl, Nat.le_refl _⟩, ?_⟩
      rintro i m ys σ' H' ⟨rfl, hi, Hf', as, zal, x2, st2, ra, ec, er, hal⟩
      have hys : ys.length <= sizeLine := by rw [sizeLine_eq, <- ra.length]; omega
      obtain ⟨it1, it2⟩ := it Hf' H' x2 i
      by_cases hlt : i < ds.length
      · obtain ⟨d, ed, edr⟩ := zgq hlt
        obtain ⟨go, yl⟩ := it1 d ed
        refine .inr ⟨go, hys, fun ys' σ2 H2 => ds.length - (i + 1) = ds.length - (i + 1) /\ i + 1 <= ds.length /\ ∃ Hf' as zal, Ext Hf1 H1 Hf' H2 /\ zab G Hf0 H0 Hf' H2 σ2 (zba k js ρ) /\ zaa G Hf' as ys' /\ zbq (zcj g ft fe (zba k js ρ)) (ds.drop (i + 1)) = some zal /\ rs = as ++ zal /\ as.length <= i + 1,
          fun ys' σ2 H2 w => ⟨ds.length - (i + 1), by omega, w⟩, fun x H2 y => ?_⟩
        obtain ⟨Hf2, x3, rx⟩ := yl x H2 y
        rw [edr] at ec
        obtain ⟨o, r', eo, ec', erest⟩ := znn ec
        unfold zcj at eo
        cases eg : g d (zba k js ρ) with
        | none => rw [eg] at eo; cases eo
        | some ρ1 =>
          rw [eg] at eo
          replace eo : (ft ρ1).bind _ = _ := eo
          cases et : ft ρ1 with
          | none => rw [et] at eo; cases eo
          | some b =>
            rw [et] at eo
            replace eo : (if b = true then (fe ρ1).map some else some none) = some o := eo
            refine ⟨Hf0, H0, Hf2, zba k js ρ, d, ρ1, st2.step x3, rx, eg, fun σ3 st3 => ⟨Hf0, H0, Hf2, ρ1, b, st3, et, fun Hf4 H4 x4 => ?_⟩⟩
            have back : ∀ {Hf5 H5 : Hp}, zab G Hf0 H0 Hf5 H5 σ3 ρ1 -> zab G Hf0 H0 Hf5 H5 σ3 (zba k js ρ) := fun {Hf5 H5} s5 => s5.weak (hlen _ _ _ eg).symm fun j s hs => by
              rcases zf0 hs with ⟨_, e⟩ | ⟨hj', _⟩
              · exact .inl e
              · exact .inr (by rw [hk _ _ _ _ eg hj']; exact hs)
            cases b with
            | true =>
              rw [if_pos rfl] at eo
              refine zo1 ?_
              cases ee : fe ρ1 with
              | none => rw [ee] at eo; cases eo
              | some y' =>
                rw [ee] at eo
                cases eo
                refine ⟨Hf0, H0, Hf4, ρ1, y', st3.step x4, ee, fun v Hf5 H5 x5 r5 => ?_⟩
                have x := (x3.trans x4).trans x5
                refine ⟨rfl, hlt, Hf5, as ++ [y'], r', x2.trans x, back ((st3.step x4).step x5), (ra.up x.f).append (.cons r5 .nil), ec', ?_, by rw [List.length_append, List.length_singleton]; omega⟩
                rw [er, erest, List.append_assoc]
                rfl
            | false =>
              rw [if_neg Bool.false_ne_true] at eo
              refine zsp ?_
              cases eo
              have x := x3.trans x4
              exact ⟨rfl, hlt, Hf4, as, r', x2.trans x, back (st3.step x4), ra.up x.f, ec', by rw [er, erest], by omega⟩
      · have ei : i = ds.length := by omega
        subst ei
        refine .inl ⟨it2 rfl, hys, fun l h1 h2 => ?_⟩
        rw [List.drop_eq_nil_of_le (Nat.le_refl _)] at ec
        cases ec
        rw [List.append_nil] at er
        subst er
        have x := x1.trans x2
        exact kq l ys Hf' (upd H' l (.lst ys)) (x.trans (Ext.tmp x.s h2)) (x.h.free h2) (x.s.free h2) zau ra
    · rw [if_neg hz] at ef
      cases ef
theorem zjk (k : Nat) (js : List Nat) (Nc : List Str) (hc : X.calm = true) (hi : DIe c X tg iter fi) (hg : ∀ cl C ex s₂ H₂, DG c (X.comp scope Nc cl C ex s₂ H₂) tg k g) (ht : ∀ cl C ex s₂ H₂, DTs c (X.comp scope Nc cl C ex s₂ H₂) ifs ft)
    (he : ∀ cl C ex s₂ H₂, DE c (X.comp scope Nc cl C ex s₂ H₂) elt fe) (ck : zf7 scope X.env.scope.names X.N Nc k js = true := by rfl) (hs : ∀ x, foldedSetIterable iter X.env x = pure x := by intro _; rfl) (hj : js.Nodup := by decide) :
    DO c X (.ListComp elt [⟨tg, iter, ifs, 0⟩] scope pos) (zdy k js fi g ft fe) :=
  PE.imp (zov (g := tDG (Gx c X) g) (tt := tDT (Gx c X) ft) (te := tD (Gx c X) fe) k js Nc hc hi (fun cl C ex s₂ H₂ => (hg cl C ex s₂ H₂).pg) ht he ck hs) fun σ H Q h =>
    zsw hj (hg [] 0 [] X.s₀ X.H₀).keep (hg [] 0 [] X.s₀ X.H₀).len h
end
section
variable {c : Str -> Addr} {X : Cx} {tg : Expr} {scope : Scope} {Nc : List Str} {cl : List (Str × Addr)} {C : Addr} {ex : List Addr} {s₂ : Shared} {H₂ : Hp}
theorem dvc (i : Nat) {x : Str} {pos : Pos} (hN : Nc[i]? = some x := by rfl) (hv : Vis scope x := by first | exact Or.inl rfl | exact Or.inr (Or.inl rfl) | exact Or.inr (Or.inr rfl)) (hd : (x == ("__debug__" : Str)) = false := by decide)
    (hcd : (x == ("__classdict__" : Str)) = false := by decide) : DE c (X.comp scope Nc cl C ex s₂ H₂) (.Name x pos) (zaf i) := zj2 (pvc i hN hv hd hcd)
theorem dgc (i k : Nat) {x : Str} {pos : Pos} (hk : i < k := by decide) (hN : Nc.Nodup := by decide +kernel) (hi : Nc[i]? = some x := by rfl) (hl : scope.names.lookup x = some .local := by rfl) : DG c (X.comp scope Nc cl C ex s₂ H₂) (.Name x pos) k (zci i) :=
  zjb (pgc i hN hi hl) hk
end
inductive Fl where
  | nx (ρ : List Sl)
  | bk (ρ : List Sl)
  | ct (ρ : List Sl)
  | rt (d : D)
  | rtO (ds : List D)
  | rtS (d : D) (ρ : List Sl)
  | rtT (o : O)
noncomputable def zgm (G : Gc) (Hf0 H0 Hf : Hp) (E : zcg) : Fl -> Prop
  | .nx ρ' => ∀ σ' Hf' H', zac Hf Hf' -> zab G Hf0 H0 Hf' H' σ' ρ' -> E.nx σ' H'
  | .bk ρ' => ∀ σ' Hf' H', zac Hf Hf' -> zab G Hf0 H0 Hf' H' σ' ρ' -> E.bk σ' H'
  | .ct ρ' => ∀ σ' Hf' H', zac Hf Hf' -> zab G Hf0 H0 Hf' H' σ' ρ' -> E.ct σ' H'
  | .rt d => ∀ v Hf' H', Ext Hf0 H0 Hf' H' -> Rep G Hf' d v -> E.rt v H'
  | .rtO ds => ∀ l vs Hf' H', Ext Hf0 H0 Hf' H' -> H0 l = none -> Hf' l = none -> H' l = some (.lst vs) -> zaa G Hf' ds vs -> E.rt (.ref l) H'
  | .rtS d ρ => ∀ v σ' Hf' H', zab G Hf0 H0 Hf' H' σ' ρ -> Rep G Hf' d v -> E.rt v H'
  | .rtT o => ∀ u fp Hf' H', Ext Hf0 H0 Hf' H' -> OT G Hf' H' o u fp -> fp.Nodup -> (∀ a ∈ fp, H0 a = none /\ Hf' a = none) -> E.rt u H'
noncomputable def tDS (G : Gc) (F : List Sl -> Option Fl) : TS := fun E σ H => ∃ Hf0 H0 Hf ρ o, zab G Hf0 H0 Hf H σ ρ /\ F ρ = some o /\ zgm G Hf0 H0 Hf E o
noncomputable def DS (c : Str -> Addr) (X : Cx) (st : Stmt) (F : List Sl -> Option Fl) : Prop := PS X st (tDS (Gx c X) F)
noncomputable def DSs (c : Str -> Addr) (X : Cx) (st : List Stmt) (F : List Sl -> Option Fl) : Prop := PSs X st (tDS (Gx c X) F)
noncomputable def zd4 (ρ : List Sl) : Option Fl := some (.nx ρ)
noncomputable def zan (F F' : List Sl -> Option Fl) (ρ : List Sl) : Option Fl := (F ρ).bind fun o => match o with
  | .nx ρ' => F' ρ'
  | o => some o
noncomputable def zcd (t : List Sl -> Option Bool) (F F' : List Sl -> Option Fl) (ρ : List Sl) : Option Fl := (t ρ).bind fun b => if b then F ρ else F' ρ
noncomputable def zbr (i : Nat) (f : List Sl -> Option D) (ρ : List Sl) : Option Fl := (f ρ).map fun d => .nx (ρ.set i (.im d))
noncomputable def zca (i : Nat) (f : List Sl -> Option (List D)) (ρ : List Sl) : Option Fl := (f ρ).map fun d => .nx (ρ.set i (.own d))
noncomputable def zb9 (f : List Sl -> Option D) (ρ : List Sl) : Option Fl := (f ρ).map .rt
noncomputable def zey (f : List Sl -> Option (List D)) (ρ : List Sl) : Option Fl := (f ρ).map .rtO
noncomputable def za8 (g : D -> List Sl -> Option (List Sl)) (F : List Sl -> Option Fl) : List D -> List Sl -> Option Fl
  | [], ρ => some (.nx ρ)
  | d :: ds, ρ => (g d ρ).bind fun ρ1 => (F ρ1).bind fun o => match o with
    | .nx ρ2 => za8 g F ds ρ2
    | .ct ρ2 => za8 g F ds ρ2
    | .bk ρ2 => some (.nx ρ2)
    | .rt d => some (.rt d)
    | .rtO d => some (.rtO d)
    | .rtS d ρ2 => some (.rtS d ρ2)
    | .rtT o => some (.rtT o)
noncomputable def zda (fi : List Sl -> Option (List D)) (g : D -> List Sl -> Option (List Sl)) (F : List Sl -> Option Fl) (ρ : List Sl) : Option Fl := (fi ρ).bind fun ds => za8 g F ds ρ
noncomputable def zgv (i : Nat) (ρ : List Sl) : List Sl := match ρ[i]? with
  | some (.own xs) => ρ.set i (.im (.lst xs))
  | some (.ownd ks xs) => ρ.set i (.im (.dic ks xs))
  | some (.obj c ns xs) => ρ.set i (.im (.ins c ns xs))
  | _ => ρ
noncomputable def zd5 (i : Nat) (F : List Sl -> Option Fl) (ρ : List Sl) : Option Fl := F (zgv i ρ)
noncomputable def zcp (i : Nat) (f : List Sl -> Option D) (ρ : List Sl) : Option Fl := (f ρ).bind fun d => match ρ[i]? with
  | some (.own xs) => if xs.length < 16777216 then some (.nx (ρ.set i (.own (xs ++ [d])))) else none
  | _ => none
section
variable {c : Str -> Addr} {X : Cx} {st : Stmt} {sts a b : List Stmt} {e cd tg iter : Expr} {pos : Pos} {F F' : List Sl -> Option Fl}
theorem zgi : DSs c X [] zd4 := PSs.imp znv fun E σ H q_ => by
  obtain ⟨Hf0, H0, Hf, ρ, o, so, ef, k⟩ := q_
  exact (by cases ef; exact k σ Hf H (zac.refl _) so)
theorem zgm.up {G : Gc} {Hf0 H0 Hf Hf' : Hp} {E : zcg} {o : Fl} (h : zgm G Hf0 H0 Hf E o) (s : zac Hf Hf') : zgm G Hf0 H0 Hf' E o := by
  cases o with
  | nx ρ => exact fun σ' Hf2 H2 s2 q => h σ' Hf2 H2 (s.trans s2) q
  | bk ρ => exact fun σ' Hf2 H2 s2 q => h σ' Hf2 H2 (s.trans s2) q
  | ct ρ => exact fun σ' Hf2 H2 s2 q => h σ' Hf2 H2 (s.trans s2) q
  | rt d => exact h
  | rtO d => exact h
  | rtS d ρ => exact h
  | rtT o => exact h
theorem zav (h1 : DS c X st F) (h2 : DSs c X sts F') : DSs c X (st :: sts) (zan F F') := PSs.imp (zsb h1 h2) fun E σ H q_ => by
  obtain ⟨Hf0, H0, Hf, ρ, o, so, ef, k⟩ := q_
  unfold zan at ef
  cases e1 : F ρ with
  | none => rw [e1] at ef; cases ef
  | some o1 =>
    rw [e1] at ef
    refine ⟨Hf0, H0, Hf, ρ, o1, so, e1, ?_⟩
    cases o1 with
    | nx ρ1 => exact fun σ1 Hf1 H1 s1 so1 => ⟨Hf0, H0, Hf1, ρ1, o, so1, ef, k.up s1⟩
    | bk ρ1 => cases ef; exact k
    | ct ρ1 => cases ef; exact k
    | rt d => cases ef; exact k
    | rtO d => cases ef; exact k
    | rtS d ρ1 => cases ef; exact k
    | rtT o' => cases ef; exact k
theorem za6 (h1 : DS c X st F) : DSs c X [st] F := zsn h1
theorem zeb {t : List Sl -> Option Bool} (hc : DT c X cd t) (ha : DSs c X a F) (hb : DSs c X b F') : DS c X (.If cd a b pos) (zcd t F F') := PS.imp (zti hc ha hb) fun E σ H q_ => by
  obtain ⟨Hf0, H0, Hf, ρ, o, so, ef, k⟩ := q_
  unfold zcd at ef
  cases e1 : t ρ with
  | none => rw [e1] at ef; cases ef
  | some x =>
    rw [e1] at ef
    refine ⟨Hf0, H0, Hf, ρ, x, so, e1, fun Hf1 H1 x1 => ?_⟩
    cases x with
    | true => rw [if_pos rfl]; exact ⟨Hf0, H0, Hf1, ρ, o, so.step x1, ef, k.up x1.f⟩
    | false => rw [if_neg Bool.false_ne_true]; exact ⟨Hf0, H0, Hf1, ρ, o, so.step x1, ef, k.up x1.f⟩
theorem zrl {te : TE} {i : Nat} {f : List Sl -> Option D} (hp : PS X st (zdw te (zdi i))) (hi : ∀ σ H Q, tD (Gx c X) f σ H Q -> te σ H Q) : DS c X st (zbr i f) := PS.imp hp fun E σ H q_ => by
  obtain ⟨Hf0, H0, Hf, ρ, o, so, ef, k⟩ := q_
  unfold zbr at ef
  cases e1 : f ρ with
  | none => rw [e1] at ef; cases ef
  | some d =>
    rw [e1] at ef
    cases ef
    exact hi _ _ _ ⟨Hf0, H0, Hf, ρ, d, so, e1, fun v Hf' H' x r => k _ Hf' H' x.f ((so.step x).setIm r)⟩
theorem znw {te : TE} {i : Nat} {f : List Sl -> Option (List D)} (hp : PS X st (zdw te (zdi i))) (hi : ∀ σ H Q, tDO (Gx c X) f σ H Q -> te σ H Q) : DS c X st (zca i f) := PS.imp hp fun E σ H q_ => by
  obtain ⟨Hf0, H0, Hf, ρ, o, so, ef, k⟩ := q_
  unfold zca at ef
  cases e1 : f ρ with
  | none => rw [e1] at ef; cases ef
  | some d =>
    rw [e1] at ef
    cases ef
    exact hi _ _ _ ⟨Hf0, H0, Hf, ρ, d, so, e1, fun l vs Hf' H' x hn hf hl r => k _ Hf' H' x.f (so.setOwn (s := .own d) rfl x hn hf ⟨vs, hl, r⟩)⟩
theorem zet (i : Nat) {x : Str} {f : List Sl -> Option D} {pos' : Pos} (hN : X.N.Nodup) (he : DE c X e f) (hi : X.N[i]? = some x := by rfl) (hx : Loc X.env.scope x := by first | exact Or.inl rfl | exact Or.inr rfl) (hs : swapsWith e (some (.Name x pos')) pos.line X.env = pure false := by rfl) (hf : X.fn x = true \/ X.env.scope.names.lookup x = some .local := by first | exact .inl rfl | exact .inr rfl) :
    DS c X (.Assign [.Name x pos'] e pos) (zbr i f) := zrl (zg1 hN hi hx he hs hf) fun _ _ _ h => h
theorem zgw (i : Nat) {x : Str} {f : List Sl -> Option (List D)} {pos' : Pos} (hN : X.N.Nodup) (he : DO c X e f) (hi : X.N[i]? = some x := by rfl) (hx : Loc X.env.scope x := by first | exact Or.inl rfl | exact Or.inr rfl) (hs : swapsWith e (some (.Name x pos')) pos.line X.env = pure false := by rfl) (hf : X.fn x = true \/ X.env.scope.names.lookup x = some .local := by first | exact .inl rfl | exact .inr rfl) :
    DS c X (.Assign [.Name x pos'] e pos) (zca i f) := znw (zg1 hN hi hx he hs hf) fun _ _ _ h => h
theorem zez {f : List Sl -> Option D} (he : DE c X e f) : DS c X (.Return (some e) pos) (zb9 f) := PS.imp (zgj he) fun E σ H q_ => by
  obtain ⟨Hf0, H0, Hf, ρ, o, so, ef, k⟩ := q_
  unfold zb9 at ef
  cases e1 : f ρ with
  | none => rw [e1] at ef; cases ef
  | some d =>
    rw [e1] at ef
    cases ef
    exact ⟨Hf0, H0, Hf, ρ, d, so, e1, fun v Hf' H' x r => k v Hf' H' (so.ext.trans x) r⟩
noncomputable def zcy (f : List Sl -> Option D) (ρ : List Sl) : Option Fl := (f ρ).map fun d => .rtS d ρ
theorem zhd {f : List Sl -> Option D} (he : DE c X e f) : DS c X (.Return (some e) pos) (zcy f) := PS.imp (zgj he) fun E σ H q_ => by
  obtain ⟨Hf0, H0, Hf, ρ, o, so, ef, k⟩ := q_
  unfold zcy at ef
  cases e1 : f ρ with
  | none => rw [e1] at ef; cases ef
  | some d =>
    rw [e1] at ef
    cases ef
    exact ⟨Hf0, H0, Hf, ρ, d, so, e1, fun v Hf' H' x r => k v σ Hf' H' (so.step x) r⟩
theorem zll {f : List Sl -> Option (List D)} (he : DO c X e f) : DS c X (.Return (some e) pos) (zey f) := PS.imp (zgj he) fun E σ H q_ => by
  obtain ⟨Hf0, H0, Hf, ρ, o, so, ef, k⟩ := q_
  unfold zey at ef
  cases e1 : f ρ with
  | none => rw [e1] at ef; cases ef
  | some d =>
    rw [e1] at ef
    cases ef
    exact ⟨Hf0, H0, Hf, ρ, d, so, e1, fun l vs Hf' H' x hn hf hl r => k l vs Hf' H' (so.ext.trans x) (so.ext.h.free hn) hf hl r⟩
theorem zlx {fi : List Sl -> Option (List D)} {g : D -> List Sl -> Option (List Sl)} {kk : Nat} (hp : PassesOwn (model X.prog X.w) X.A X.env X.xe) (hc : X.calm = true) (hi : DI c X tg iter fi) (hg : DG c X tg kk g) (hb : DSs c X a F) (hs : ∀ x, foldedSetIterable iter X.env x = pure x := by intro _; rfl) :
    DS c X (.For tg iter a [] pos) (zda fi g F) := PS.imp (zix hp hc hi hg.pg hb hs) fun E σ H q_ => by
  obtain ⟨Hf0, H0, Hf, ρ, o, so, ef, k⟩ := q_
  unfold zda at ef
  cases e1 : fi ρ with
  | none => rw [e1] at ef; cases ef
  | some ds =>
    rw [e1] at ef
    replace ef : za8 g F ds ρ = some o := ef
    refine ⟨Hf0, H0, Hf, ρ, ds, so, e1, fun J Hf1 H1 x1 it => ?_⟩
    refine ⟨fun i m σ' H' => m = ds.length - i /\ i <= ds.length /\ ∃ Hf' ρ', zab (Gx c X) Hf0 H0 Hf' H' σ' ρ' /\ zac Hf1 Hf' /\ za8 g F (ds.drop i) ρ' = some o, ⟨ds.length, rfl, Nat.zero_le _, Hf1, ρ, so.step x1, zac.refl _, ef⟩, ?_⟩
    rintro i m σ' H' ⟨rfl, hi', Hf', ρ', so', s1, em⟩
    obtain ⟨it1, it2⟩ := it Hf' H' s1 so'.sub i
    by_cases hlt : i < ds.length
    · obtain ⟨d, ed, edr⟩ := zgq hlt
      obtain ⟨go, yl⟩ := it1 d ed
      rw [edr] at em
      unfold za8 at em
      refine .inr ⟨go, fun σ2 H2 => ds.length - (i + 1) = ds.length - (i + 1) /\ i + 1 <= ds.length /\ ∃ Hf' ρ', zab (Gx c X) Hf0 H0 Hf' H2 σ2 ρ' /\ zac Hf1 Hf' /\ za8 g F (ds.drop (i + 1)) ρ' = some o, fun σ2 H2 w => ⟨ds.length - (i + 1), by omega, w⟩, fun x H2 y => ?_⟩
      obtain ⟨Hf2, x2, rx⟩ := yl x H2 y
      cases eg : g d ρ' with
      | none => rw [eg] at em; cases em
      | some ρ1 =>
        rw [eg] at em
        replace em : (F ρ1).bind _ = _ := em
        cases eF : F ρ1 with
        | none => rw [eF] at em; cases em
        | some o1 =>
          rw [eF] at em
          refine ⟨Hf0, H0, Hf2, ρ', d, ρ1, so'.step x2, rx, eg, fun σ3 so3 => ⟨Hf0, H0, Hf2, ρ1, o1, so3, eF, ?_⟩⟩
          have sf := s1.trans x2.f
          cases o1 with
          | nx ρ2 => exact fun σ4 Hf4 H4 s4 so4 => ⟨rfl, hlt, Hf4, ρ2, so4, sf.trans s4, em⟩
          | ct ρ2 => exact fun σ4 Hf4 H4 s4 so4 => ⟨rfl, hlt, Hf4, ρ2, so4, sf.trans s4, em⟩
          | bk ρ2 => cases em; exact fun σ4 Hf4 H4 s4 so4 => k σ4 Hf4 H4 ((x1.f.trans sf).trans s4) so4
          | rt d => cases em; exact k
          | rtO d => cases em; exact k
          | rtS d ρ2 => cases em; exact k
          | rtT o' => cases em; exact k
    · have ei : i = ds.length := by omega
      subst ei
      rw [List.drop_eq_nil_of_le (Nat.le_refl _)] at em
      cases em
      exact .inl ⟨it2 rfl, k σ' Hf' H' (x1.f.trans s1) so'⟩
theorem zmo {G : Gc} {i : Nat} {E : zcg} {σ : St} {H : Hp} (h : tDS G (zd5 i F) E σ H) : tDS G F E σ H := by
  obtain ⟨Hf0, H0, Hf, ρ, o, so, ef, k⟩ := h
  unfold zd5 zgv at ef
  split at ef
  · rename_i xs es
    obtain ⟨l, e1, h0, hf, vs, q, r⟩ := so.ownAt rfl es
    exact ⟨Hf0, H0, _, _, o, so.fixd (d := .lst xs) rfl es e1 q ⟨l, vs, rfl, zau, r.up (zaw hf)⟩, ef, k.up (zaw hf)⟩
  · rename_i ks xs es
    obtain ⟨l, e1, h0, hf, vs, q, z, r⟩ := so.ownAt rfl es
    exact ⟨Hf0, H0, _, _, o, so.fixd (d := .dic ks xs) rfl es e1 q ⟨l, vs, rfl, zau, z, r.up (zaw hf)⟩, ef, k.up (zaw hf)⟩
  · rename_i c' ns xs es
    obtain ⟨l, e1, h0, hf, dx, vs, q, z, r⟩ := so.ownAt rfl es
    exact ⟨Hf0, H0, _, _, o, so.fixd (d := .ins c' ns xs) rfl es e1 q ⟨l, dx, vs, rfl, zau, z, r.up (zaw hf)⟩, ef, k.up (zaw hf)⟩
  · exact ⟨Hf0, H0, Hf, ρ, o, so, ef, k⟩
theorem zkb (i : Nat) (h : DS c X st F) : DS c X st (zd5 i F) := PS.imp h fun _ _ _ => zmo
theorem zka {i : Nat} {f : List Sl -> Option D} (h : PS X st (zjt (tBM X.K "list" zjq (zbz i) (zih (tD (Gx c X) f) zhg)))) : DS c X st (zcp i f) := PS.imp h fun E σ H q_ => by
  obtain ⟨Hf0, H0, Hf, ρ, o, so, ef, k⟩ := q_
  unfold zcp at ef
  cases e1 : f ρ with
  | none => rw [e1] at ef; cases ef
  | some d =>
    rw [e1] at ef
    replace ef : (match ρ[i]? with | some (.own xs) => if xs.length < 16777216 then some (Fl.nx (ρ.set i (.own (xs ++ [d])))) else none | _ => none) = some o := ef
    split at ef
    · rename_i xs es
      split at ef
      · rename_i hl
        cases ef
        obtain ⟨l, e2, h0, hf, vs, q, r⟩ := so.ownAt rfl es
        refine ⟨_, e2, .inl ⟨rfl, _, SqL.of q⟩, Hf0, H0, Hf, ρ, d, so, e1, fun v Hf' H' x r' => ?_⟩
        have so' := so.step x
        have q' := x.h _ _ q
        refine ⟨l, vs, v, rfl, rfl, q', by rw [sizeLine_eq, <- r.length]; exact hl, k σ Hf' _ x.f (so'.mutd (s := .own xs) (s' := .own (xs ++ [d])) rfl rfl es e2 ⟨vs ++ [v], zau, (r.up x.f).append (.cons r' .nil)⟩)⟩
      · cases ef
    · cases ef
end
noncomputable def zgy : Fl -> Option D
  | .rt d => some d
  | .rtO ds => some (.lst ds)
  | .rtS d _ => some d
  | .nx _ => some .non
  | _ => none
noncomputable def zbg (n : Nat) (ds : List D) : List Sl := ds.map .im ++ List.replicate (n - ds.length) .no
noncomputable def zb6 (n : Nat) (F : List Sl -> Option Fl) (ds : List D) : Option D := (F (zbg n ds)).bind zgy
noncomputable def ze4 (n : Nat) (F : List Sl -> Option Fl) (ds : List D) : Option (List D) := (F (zbg n ds)).bind fun o => match o with
  | .rtO ds => some ds
  | _ => none
noncomputable def spD (G : Gc) (n : Nat) (m : List D -> Option D) : Sp := fun vs H Q _ => ∃ Hf ds d, zac Hf H /\ zaa G Hf ds vs /\ ds.length = n /\ m ds = some d /\ ∀ v Hf' H', Ext Hf H Hf' H' -> Rep G Hf' d v -> Q v H'
noncomputable def spO (G : Gc) (n : Nat) (m : List D -> Option (List D)) : Sp := fun vs H Q _ => ∃ Hf ds rs, zac Hf H /\ zaa G Hf ds vs /\ ds.length = n /\ m ds = some rs /\
  ∀ l us Hf' H', Ext Hf H Hf' H' -> H l = none -> Hf' l = none -> H' l = some (.lst us) -> zaa G Hf' rs us -> Q (.ref l) H'
theorem zab.start {G : Gc} {Hf H : Hp} {N : List Str} {ds : List D} {vs : List V} (s0 : zac Hf H) (r : zaa G Hf ds vs) : zab G Hf H Hf H (start N vs) (zbg N.length ds) := by
  have hl := r.length
  have im : ∀ (i : Nat) (s : Sl), (zbg N.length ds)[i]? = some s -> s = .no \/ ∃ d, ds[i]? = some d /\ s = .im d := fun i s b => by
    unfold zbg at b
    by_cases hi : i < ds.length
    · rw [List.getElem?_append_left (by simpa using hi)] at b
      obtain ⟨d, ed, es⟩ := ze6 b
      exact .inr ⟨d, ed, es⟩
    · rw [List.getElem?_append_right (by simpa using Nat.le_of_not_lt hi)] at b
      obtain ⟨_, e⟩ := List.getElem?_eq_some_iff.mp b
      rw [List.getElem_replicate] at e
      exact .inl e.symm
  refine ⟨Ext.refl s0, by simp [L2.start, zbg, hl], fun i v s a b => ?_, fun i j s t v w l a b c d p q => ?_⟩
  · rcases im i s b with e | ⟨d, ed, es⟩
    · subst e; trivial
    · subst es
      obtain ⟨u, eu, ru⟩ := r.get ed
      refine ⟨u, ?_, ru⟩
      have hi : i < vs.length := (List.getElem?_eq_some_iff.mp eu).1
      unfold L2.start at a
      rw [List.getElem?_append_left (by simpa using hi), List.getElem?_map, eu] at a
      exact (Option.some.inj a).symm
  · rcases im i s a with e | ⟨d, ed, es⟩
    · subst e; exact (p.calm rfl).elim
    · subst es; exact (p.calm rfl).elim
section
variable {P : Program} {w : World} {K : PySem.W.Frag} {mg : Str -> Option Value} {base : Heap} {c : Str -> Addr}
theorem zig {x qual : Str} {st : Stmt} {f : Addr} {fd : FuncData} {N ps : List Str} {k : Nat} {F : List Sl -> Option Fl} (Fn : Fun K x qual st f fd) (S : zbm N ps (zam st))
    (h : ∀ (cdv : Value) (A : Around) (outer : List Env) (s : Shared) (H : Hp) (E : XK), zai k (A.deeper (envOfC qual (zam st) s.heap.objs.size f cdv)) -> DSs c (zcb CX0 P w K mg base N qual (zam st) f cdv A outer s H E).nox (za9 st) F) :
    zak P w K mg base CX0 (k + 1) f fd ps (spD ⟨K, c⟩ ps.length (zb6 N.length F)) := by
  refine Fn.ok S (fun vs H Q E ⟨Hf, ds, d, s0, r, hl, _⟩ => by rw [<- r.length]; exact hl) fun cdv A outer s H vs Q E hr ⟨Hf, ds, d, s0, r, hl, e, kq⟩ => ⟨_, h cdv A outer s H E hr, ?_⟩
  unfold zb6 at e
  cases eF : F (zbg N.length ds) with
  | none => rw [eF] at e; cases e
  | some o =>
    rw [eF] at e
    replace e : zgy o = some d := e
    refine ⟨Hf, H, Hf, _, o, zab.start s0 r, eF, ?_⟩
    cases o with
    | nx ρ => cases e; exact fun σ' Hf' H' _ so => kq _ Hf' H' so.ext rfl
    | bk ρ => cases e
    | ct ρ => cases e
    | rt d => cases e; exact kq
    | rtO rs => cases e; exact fun l vs Hf' H' x hn hf hl r => kq _ (upd Hf' l (.lst vs)) H' (x.fix hn hf hl) ⟨l, vs, rfl, zau, r.up (zaw hf)⟩
    | rtS d ρ => cases e; exact fun v σ' Hf' H' so r => kq v Hf' H' so.ext r
    | rtT o => cases e
theorem zrs {x qual : Str} {st : Stmt} {f : Addr} {fd : FuncData} {N ps : List Str} {k : Nat} {F : List Sl -> Option Fl} (Fn : Fun K x qual st f fd) (S : zbm N ps (zam st))
    (h : ∀ (cdv : Value) (A : Around) (outer : List Env) (s : Shared) (H : Hp) (E : XK), zai k (A.deeper (envOfC qual (zam st) s.heap.objs.size f cdv)) -> DSs c (zcb CX0 P w K mg base N qual (zam st) f cdv A outer s H E).nox (za9 st) F) :
    zak P w K mg base CX0 (k + 1) f fd ps (spO ⟨K, c⟩ ps.length (ze4 N.length F)) := by
  refine Fn.ok S (fun vs H Q E ⟨Hf, ds, d, s0, r, hl, _⟩ => by rw [<- r.length]; exact hl) fun cdv A outer s H vs Q E hr ⟨Hf, ds, rs, s0, r, hl, e, kq⟩ => ⟨_, h cdv A outer s H E hr, ?_⟩
  unfold ze4 at e
  cases eF : F (zbg N.length ds) with
  | none => rw [eF] at e; cases e
  | some o =>
    rw [eF] at e
    refine ⟨Hf, H, Hf, _, o, zab.start s0 r, eF, ?_⟩
    cases o with
    | rtO rs' => cases e; exact kq
    | _ => cases e
end
section
variable {c : Str -> Addr} {X : Cx} {k : Nat} {f C : Addr} {fd : FuncData} {ps : List Str} {x : Str} {p pos apos : Pos} {e o : Expr} {es : List Expr} {fa : List Sl -> Option (List D)}
theorem zgg {m : List D -> Option D} (F : zak X.prog X.w X.K X.mg X.base CX0 k f fd ps (spD (Gx c X) ps.length m)) (hr : zai k X.A) (hg : Gl X x) (hm : X.mg x = some (.ref f)) (hk : PySem.W.keepIn X.K (.ref f) = true) (hb : za3 X.K fd ps []) (ha : DA c X (e :: es) fa)
    (hl : (e :: es).length = ps.length := by rfl) (hdb : (x == ("__debug__" : Str)) = false := by decide) (he : starEach (e :: es) X.env = (false, eval e X.env) :: starEach es X.env := by rfl) (hpl : (backTo pos (starEach es X.env)).any (·.1) = false := by rfl) :
    DE c X (.Call (.Name x p) (e :: es) [] pos) (zax m fa) := PE.imp (zes F hr hg hm hk hb .nil zep ha.pa hdb he hpl) fun σ H Q q_ => by
  obtain ⟨Hf0, H0, Hf, ρ, d, st, ef, kq⟩ := q_
  obtain ⟨ds, e1, e2⟩ := zk3 ef
  refine ⟨Hf0, H0, Hf, ρ, ds, st, e1, fun vs Hf' H' x r => ?_⟩
  dsimp only
  rw [List.append_nil]
  exact ⟨Hf', ds, d, x.s, r, (ha.len ρ ds e1).trans hl, e2, fun v Hf2 H2 x2 r2 => kq v Hf2 H2 (x.trans x2) r2⟩
noncomputable def zeg (m : List D -> Option (List D)) (f : List Sl -> Option (List D)) (ρ : List Sl) : Option (List D) := (f ρ).bind m
theorem zsh {m : List D -> Option (List D)} (F : zak X.prog X.w X.K X.mg X.base CX0 k f fd ps (spO (Gx c X) ps.length m)) (hr : zai k X.A) (hg : Gl X x) (hm : X.mg x = some (.ref f)) (hk : PySem.W.keepIn X.K (.ref f) = true) (hb : za3 X.K fd ps []) (ha : DA c X (e :: es) fa)
    (hl : (e :: es).length = ps.length := by rfl) (hdb : (x == ("__debug__" : Str)) = false := by decide) (he : starEach (e :: es) X.env = (false, eval e X.env) :: starEach es X.env := by rfl) (hpl : (backTo pos (starEach es X.env)).any (·.1) = false := by rfl) :
    DO c X (.Call (.Name x p) (e :: es) [] pos) (zeg m fa) := PE.imp (zes F hr hg hm hk hb .nil zep ha.pa hdb he hpl) fun σ H Q q_ => by
  obtain ⟨Hf0, H0, Hf, ρ, rs, st, ef, kq⟩ := q_
  unfold zeg at ef
  cases e1 : fa ρ with
  | none => rw [e1] at ef; cases ef
  | some ds =>
    rw [e1] at ef
    refine ⟨Hf0, H0, Hf, ρ, ds, st, e1, fun vs Hf' H' x r => ?_⟩
    dsimp only
    rw [List.append_nil]
    exact ⟨Hf', ds, rs, x.s, r, (ha.len ρ ds e1).trans hl, ef, fun l us Hf2 H2 x2 hn hf hl' r2 => kq l us Hf2 H2 (x.trans x2) (x.h.free hn) hf hl' r2⟩
noncomputable def ze0 (m : List D -> Option D) (f : List Sl -> Option (List D)) (ρ : List Sl) : Option D := (f ρ).bind fun ds => (m ds).bind fun d => if d.scalar then some d else none
theorem zp1 {m : List D -> Option D} (F : zak X.prog X.w X.K X.mg X.base CX0 k f fd ps (spD (Gx c X) ps.length m)) (hr : zai k X.A) (hg : Gl X x) (hm : X.mg x = some (.ref f)) (hk : PySem.W.keepIn X.K (.ref f) = true) (hb : za3 X.K fd ps []) (ha : DAB c X (e :: es) fa)
    (hl : (e :: es).length = ps.length := by rfl) (hdb : (x == ("__debug__" : Str)) = false := by decide) (he : starEach (e :: es) X.env = (false, eval e X.env) :: starEach es X.env := by rfl) (hpl : (backTo pos (starEach es X.env)).any (·.1) = false := by rfl) :
    DE c X (.Call (.Name x p) (e :: es) [] pos) (ze0 m fa) := PE.imp (zes F hr hg hm hk hb .nil zep ha.pa hdb he hpl) fun σ H Q q_ => by
  obtain ⟨Hf0, H0, Hf, ρ, d, st, ef, kq⟩ := q_
  unfold ze0 at ef
  cases e1 : fa ρ with
  | none => rw [e1] at ef; cases ef
  | some ds =>
    rw [e1] at ef
    replace ef : (m ds).bind _ = _ := ef
    cases e2 : m ds with
    | none => rw [e2] at ef; cases ef
    | some d' =>
      rw [e2] at ef
      replace ef : (if d'.scalar = true then some d' else none) = some d := ef
      split at ef
      · rename_i hs
        cases ef
        refine ⟨Hf0, H0, Hf, ρ, ds, st, e1, fun vs Hf' H' x r => ?_⟩
        dsimp only
        rw [List.append_nil]
        exact ⟨H', ds, _, zac.refl _, r, (ha.len ρ ds e1).trans hl, e2, fun v Hf2 H2 x2 r2 => kq v Hf' H2 (x.trans (Ext.grow x.s x2.h)) (r2.sc hs)⟩
      · cases ef
end
end L2
namespace L2
open PySem PySem.Spec PyProof.Rows
section
variable {c : Str -> Addr} {X : Cx} {k : Nat} {f C : Addr} {fd : FuncData} {ps : List Str} {x fl cn : Str} {p pos apos : Pos} {e o : Expr} {es : List Expr} {fo : List Sl -> Option D} {fa : List Sl -> Option (List D)}
end
section
variable {c : Str -> Addr} {X : Cx} {cn fl : Str} {e o : Expr} {sts : List Stmt} {pos pos' : Pos} {m : List Sl -> Option D} {fs : List (Str × (List Sl -> Option D))}
end
section
variable {P : Program} {w : World} {K : PySem.W.Frag} {mg : Str -> Option Value} {base : Heap} {c : Str -> Addr}
end
section
variable {c : Str -> Addr} {X : Cx} {k : Nat} {f : Addr} {fd : FuncData} {ps : List Str} {x cn : Str} {p pos : Pos} {e : Expr} {es : List Expr} {fa : List Sl -> Option (List D)}
end
end L2
namespace L2
open PySem PySem.Spec PyProof.Rows
theorem zm2 {i : Nat} {f : List Sl -> Option D} {ρ : List Sl} {d : D} (h : f ρ = some d) : zbr i f ρ = some (.nx (ρ.set i (.im d))) := by
  unfold zbr
  rw [h]
  rfl
theorem zrw {i : Nat} {f : List Sl -> Option (List D)} {ρ : List Sl} {d : List D} (h : f ρ = some d) : zca i f ρ = some (.nx (ρ.set i (.own d))) := by
  unfold zca
  rw [h]
  rfl
theorem zpu {f : List Sl -> Option D} {ρ : List Sl} {d : D} (h : f ρ = some d) : zb9 f ρ = some (.rt d) := by
  unfold zb9
  rw [h]
  rfl
theorem zqe {n : Nat} {F : List Sl -> Option Fl} {ds : List D} {d : List D} (h : F (zbg n ds) = some (.rtO d)) : zb6 n F ds = some (.lst d) := by
  unfold zb6
  rw [h]
  rfl
theorem zc8 {m : List D -> Option D} {f : List Sl -> Option (List D)} {ρ : List Sl} {ds : List D} {d : D} (h : f ρ = some ds) (h' : m ds = some d) : zax m f ρ = some d := by
  unfold zax
  rw [h]
  exact h'
theorem zmi {α : Type} {h : D -> Option (Option D)} (f : α -> D) (p : α -> Bool) (q : α -> D) : ∀ (xs : List α), (∀ x ∈ xs, h (f x) = some (if p x then some (q x) else none)) -> zbq h (xs.map f) = some ((xs.filter p).map q)
  | [], _ => rfl
  | x :: xs, hh => by
    rw [List.map_cons]
    unfold zbq
    rw [hh x List.mem_cons_self, zmi f p q xs fun y hy => hh y (List.mem_cons_of_mem _ hy)]
    cases hp : p x with
    | true => rw [List.filter_cons_of_pos hp]; rfl
    | false => rw [List.filter_cons_of_neg (by rw [hp]; exact Bool.false_ne_true)]; rfl
theorem zrn {α : Type} {k : Nat} {js : List Nat} {fi : List Sl -> Option (List D)} {g : D -> List Sl -> Option (List Sl)} {ft : List Sl -> Option Bool} {fe : List Sl -> Option D} {ρ : List Sl} (xs : List α) (f : α -> D) (p : α -> Bool) (q : α -> D)
    (hi : fi ρ = some (xs.map f)) (hz : xs.length <= 16777216) (hh : ∀ x ∈ xs, zcj g ft fe (zba k js ρ) (f x) = some (if p x then some (q x) else none)) : zdy k js fi g ft fe ρ = some ((xs.filter p).map q) := by
  unfold zdy
  rw [hi]
  show (if (xs.map f).length <= 16777216 then _ else none) = _
  rw [List.length_map, if_pos hz]
  exact zmi f p q xs hh
theorem znx (lo : Int) (n : Nat) : rng lo n = (List.range n).map fun (i : Nat) => D.int (lo + i) := rfl
noncomputable def zc0 : Nat -> D -> Prop
  | 0, _ => False
  | n + 1, d => match d with
    | .lst xs => ∀ x ∈ xs, zc0 n x
    | .tup xs => ∀ x ∈ xs, zc0 n x
    | d => d.scalar = true
theorem zc0.mono : ∀ (n : Nat) (d : D), zc0 n d -> zc0 (n + 1) d
  | 0, _, h => h.elim
  | n + 1, d, h => by
    cases d with
    | lst xs => exact fun x hx => zc0.mono n x (h x hx)
    | tup xs => exact fun x hx => zc0.mono n x (h x hx)
    | _ => exact h
theorem zi6 (i j : Int) : dEq (.int i) (.int j) = some (.bl (i == j)) := rfl
theorem zn9 (i j : Str) : dEq (.str i) (.str j) = some (.bl (i == j)) := rfl
theorem zn4 (i j : Bool) : dEq (.bl i) (.bl j) = some (.bl (i == j)) := rfl
theorem zk0 (i j : Int) : dNe (.int i) (.int j) = some (.bl (!(i == j))) := rfl
theorem zhh (i j : Str) : dNe (.str i) (.str j) = some (.bl (!(i == j))) := rfl
end L2
namespace L2
open PySem PySem.Spec PyProof.Rows
theorem zap {m : D -> D -> Option D} {f g : List Sl -> Option D} {ρ : List Sl} {x y d : D} (h1 : f ρ = some x) (h2 : g ρ = some y) (h3 : m x y = some d) : m2 m f g ρ = some d := by
  unfold m2
  rw [h1, h2]
  exact h3
theorem zbt {f : List Sl -> Option D} {ρ : List Sl} {b : Bool} (h : f ρ = some (.bl b)) : mB f ρ = some b := by
  unfold mB
  rw [h]
  rfl
theorem zhr {f : List Sl -> Option D} {ρ : List Sl} {d : D} {b : Bool} (h : f ρ = some d) (h' : zhf d = some b) : zb8 f ρ = some b := by
  unfold zb8
  rw [h]
  exact h'
theorem zjd {f : List Sl -> Option Bool} {ρ : List Sl} {b : Bool} (h : f ρ = some b) : zch f ρ = some (!b) := by
  unfold zch
  rw [h]
  rfl
theorem zo0 {f g : List Sl -> Option Bool} {ρ : List Sl} {r : Option Bool} (h : f ρ = some true) (h' : g ρ = r) : zcr f g ρ = r := by
  unfold zcr
  rw [h]
  exact h'
theorem zom {f g : List Sl -> Option Bool} {ρ : List Sl} (h : f ρ = some false) : zcr f g ρ = some false := by
  unfold zcr
  rw [h]
  rfl
theorem zoi {f g : List Sl -> Option Bool} {ρ : List Sl} (h : f ρ = some true) : mOr f g ρ = some true := by
  unfold mOr
  rw [h]
  rfl
theorem zqv {f g : List Sl -> Option Bool} {ρ : List Sl} {r : Option Bool} (h : f ρ = some false) (h' : g ρ = r) : mOr f g ρ = r := by
  unfold mOr
  rw [h]
  exact h'
theorem zlz {f g : List Sl -> Option Bool} {ρ : List Sl} {a b : Bool} (h : f ρ = some a) (h' : g ρ = some b) : zcr f g ρ = some (a && b) := by
  cases a with
  | true => exact zo0 h h'
  | false => exact zom h
theorem zri {f g : List Sl -> Option Bool} {ρ : List Sl} {a b : Bool} (h : f ρ = some a) (h' : g ρ = some b) : mOr f g ρ = some (a || b) := by
  cases a with
  | true => exact zoi h
  | false => exact zqv h h'
theorem zk7 {f g : List Sl -> Option D} {ρ : List Sl} {a b : Bool} (h : f ρ = some (.bl a)) (h' : g ρ = some (.bl b)) : zcn f g ρ = some (.bl (a && b)) := by
  unfold zcn
  rw [zbt h]
  cases a with
  | true => exact h'
  | false => rfl
theorem zm8 {f g : List Sl -> Option D} {ρ : List Sl} {a b : Bool} (h : f ρ = some (.bl a)) (h' : g ρ = some (.bl b)) : vOr f g ρ = some (.bl (a || b)) := by
  unfold vOr
  rw [zbt h]
  cases a with
  | true => rfl
  | false => exact h'
theorem zpx {f : List Sl -> Option D} {ρ : List Sl} {a : Bool} (h : f ρ = some (.bl a)) : zko f ρ = some (.bl (!a)) := by
  unfold zko
  rw [zbt h]
  rfl
theorem zb0 {f : List Sl -> Option D} {g : List Sl -> Option (List D)} {ρ : List Sl} {d : D} {ds : List D} (h : f ρ = some d) (h' : g ρ = some ds) : zah f g ρ = some (d :: ds) := by
  unfold zah
  rw [h, h']
  rfl
theorem zs3 {f : List Sl -> Option (List D)} {ρ : List Sl} {ds : List D} (h : f ρ = some ds) : zke f ρ = some (.tup ds) := by
  unfold zke
  rw [h]
  rfl
theorem zi5 {f : List Sl -> Option (List D)} {ρ : List Sl} {ds : List D} (h : f ρ = some ds) : zbo f ρ = some (.lst ds) := by
  unfold zbo
  rw [h]
  rfl
theorem zgz {f : List Sl -> Option (List D)} {g : List Sl -> Option D} {ρ : List Sl} {ds : List D} {i : Int} {r : Option D} (h : f ρ = some ds) (h' : g ρ = some (.int i)) (h2 : atI ds i = r) : mIx f g ρ = r := by
  unfold mIx
  rw [h, h']
  exact h2
theorem zd1 {C : Int -> Int -> Prop} [∀ i j, Decidable (C i j)] {g : Int -> Int -> D} {i j : Int} (h : C i j) : dI C g (.int i) (.int j) = some (g i j) := by
  show (if C i j then some (g i j) else none) = _
  rw [if_pos h]
theorem znl {i : Nat} {f : List Sl -> Option D} {ρ : List Sl} {d : D} {xs : List D} (h : f ρ = some d) (h' : ρ[i]? = some (.own xs)) (hl : xs.length < 16777216) : zcp i f ρ = some (.nx (ρ.set i (.own (xs ++ [d])))) := by
  unfold zcp
  rw [h]
  show (match ρ[i]? with | some (.own xs) => if xs.length < 16777216 then some (Fl.nx (ρ.set i (.own (xs ++ [d])))) else none | _ => none) = _
  rw [h']
  show (if xs.length < 16777216 then _ else none) = _
  rw [if_pos hl]
theorem zsq {g : D -> List Sl -> Option (List Sl)} {ft : List Sl -> Option Bool} {fe : List Sl -> Option D} {ρ ρ1 : List Sl} {d y : D} {b : Bool} (h1 : g d ρ = some ρ1) (h2 : ft ρ1 = some b) (h3 : b = true -> fe ρ1 = some y) : zcj g ft fe ρ d = some (if b then some y else none) := by
  unfold zcj
  rw [h1]
  show (ft ρ1).bind _ = _
  rw [h2]
  show (if b = true then (fe ρ1).map some else some none) = _
  cases b with
  | true => rw [h3 rfl]; rfl
  | false => rfl
theorem zgp {f : List Sl -> Option D} {ρ : List Sl} {d : D} {ds : List D} (h : f ρ = some d) (h' : zcu d = some ds) : zdb f ρ = some ds := by
  unfold zdb
  rw [h]
  exact h'
end L2
namespace L2
open PySem PySem.Spec PyProof.Rows
end L2
namespace L2
open PySem PySem.Spec PyProof.Rows
noncomputable def itD (z : Int × Int) : D := .tup [.int z.1, .int z.2]
noncomputable def InN (n : Nat) (its : List (Int × Int)) : Prop := ∀ z ∈ its, 0 <= z.1 /\ z.1 < (n : Int) /\ 0 <= z.2
noncomputable def Prt.toD : Prt -> D
  | .inn t => .tup [.str "in", .int t]
  | .out t => .tup [.str "out", .int t]
  | .least k its => .tup [.str "least", .int k, .lst (its.map itD)]
  | .most k its => .tup [.str "most", .int k, .lst (its.map itD)]
noncomputable def Prt.obj : Prt -> D
  | .inn t => .ins "In" ["thing"] [.int t]
  | .out t => .ins "Out" ["thing"] [.int t]
  | .least k its => .ins "Least" ["bound", "pieces"] [.int k, .lst (its.map itD)]
  | .most k its => .ins "Most" ["bound", "pieces"] [.int k, .lst (its.map itD)]
noncomputable def Prt.Ok (n : Nat) : Prt -> Prop
  | .inn t => 0 <= t /\ t < (n : Int)
  | .out t => 0 <= t /\ t < (n : Int)
  | .least _ its => InN n its /\ its.length <= 100000
  | .most _ its => InN n its /\ its.length <= 100000
end L2
namespace L2
open PySem PySem.Spec PyProof.Rows
section
variable {c : Str -> Addr} {X : Cx}
noncomputable def zea : List D -> Option (List Bool)
  | [] => some []
  | .bl b :: ds => (zea ds).map fun r => b :: r
  | _ => none
theorem zru (bs : List Bool) : zea (bs.map D.bl) = some bs := by
  induction bs with
  | nil => rfl
  | cons n ns ih => rw [List.map_cons, zea, ih]; rfl
noncomputable def zi2 : List D -> Option D
  | [d] => (lsD d).bind fun ds => (zea ds).map fun bs => .bl (bs.all id)
  | _ => none
theorem zqo (bs : List Bool) : zi2 [.lst (bs.map D.bl)] = some (.bl (bs.all id)) := by
  show (zea (bs.map D.bl)).map _ = _
  rw [zru]
  rfl
end
end L2
namespace L2
open PySem PySem.Spec PyProof.Rows
inductive Wrd where
  | make | may | never
  deriving DecidableEq
noncomputable def Wrd.s : Wrd -> Str
  | .make => "make"
  | .may => "may"
  | .never => "never"
structure Rul where
  w : Wrd
  hd : Int
  ps : List Prt
noncomputable def Rul.hdD (r : Rul) : D := match r.w with
  | .never => .non
  | _ => .int r.hd
noncomputable def Rul.toD (r : Rul) : D := .tup [.str r.w.s, r.hdD, .lst (r.ps.map Prt.toD)]
structure Rul.Ok (n : Nat) (r : Rul) : Prop where
  hd : r.w ≠ .never -> 0 <= r.hd /\ r.hd < (n : Int)
  ps : ∀ p ∈ r.ps, p.Ok n
  len : r.ps.length <= 100000
theorem znr {α : Type} (f : α -> Bool) (xs : List α) : (xs.map fun x => D.bl (f x)) = (xs.map f).map D.bl := by
  rw [List.map_map]
  rfl
theorem all_map (f : Prt -> Bool) (xs : List Prt) : zi2 [.lst (xs.map fun x => D.bl (f x))] = some (.bl (xs.all f)) := by
  rw [znr, zqo, List.all_map]
  rfl
end L2
namespace L2
open PySem PySem.Spec PyProof.Rows
structure zkp (es es' : List (Option Bool)) : Prop where
  len : es'.length = es.length
  at' : ∀ i, es.getD i none = none \/ es'.getD i none = es.getD i none
structure zj9 (ws ws' : List Bool) : Prop where
  len : ws'.length = ws.length
  at' : ∀ i, ws.getD i false = true -> ws'.getD i false = true
theorem zkp.refl (es : List (Option Bool)) : zkp es es := ⟨rfl, fun _ => .inr rfl⟩
theorem zj9.refl (ws : List Bool) : zj9 ws ws := ⟨rfl, fun _ h => h⟩
end L2
namespace L2
open PySem PySem.Spec PyProof.Rows
section
variable {X : Cx} {elts : List Expr} {kx : Nat} {tpos : Pos}
end
section
variable {c : Str -> Addr} {X : Cx} {a : Expr} {pos p : Pos}
end
section
variable {c : Str -> Addr} {X : Cx} {st : Stmt} {e a b i' value : Expr} {pos pos' p' : Pos}
end
end L2
namespace L2
open PySem PySem.Spec PyProof.Rows
noncomputable def zdp (i : Nat) (fk fv : List Sl -> Option D) (ρ : List Sl) : Option Fl := (fv ρ).bind fun d => (fk ρ).bind fun x => match x with
  | .int k => (match ρ[i]? with
    | some (.own xs) => (ixN xs.length k).map fun j => .nx (ρ.set i (.own (xs.set j d)))
    | _ => none)
  | _ => none
section
variable {c : Str -> Addr} {X : Cx} {st : Stmt} {e a b i' value : Expr} {pos pos' : Pos}
theorem zoz {i : Nat} {fk fv : List Sl -> Option D} (hp : PS X st (zdw (tD (Gx c X) fv) (zij (zbz i) (tD (Gx c X) fk) zir))) : DS c X st (zdp i fk fv) := PS.imp hp fun E σ H q_ => by
  obtain ⟨Hf0, H0, Hf, ρ, o, so, ef, k⟩ := q_
  unfold zdp at ef
  cases e1 : fv ρ with
  | none => rw [e1] at ef; cases ef
  | some d =>
    rw [e1] at ef
    cases e2 : fk ρ with
    | none => rw [e2] at ef; cases ef
    | some x =>
      rw [e2] at ef
      obtain ⟨ky, rfl⟩ : ∃ ky, x = .int ky := by cases x <;> first | exact ⟨_, rfl⟩ | cases ef
      replace ef : (match ρ[i]? with | some (.own xs) => (ixN xs.length ky).map fun j => Fl.nx (ρ.set i (.own (xs.set j d))) | _ => none) = some o := ef
      split at ef
      · rename_i xs es
        cases ej : ixN xs.length ky with
        | none => rw [ej] at ef; cases ef
        | some j =>
          rw [ej] at ef
          cases ef
          refine ⟨Hf0, H0, Hf, ρ, d, so, e1, fun v Hf1 H1 x1 r1 => ?_⟩
          have so1 := so.step x1
          obtain ⟨l, el, h0, hf, vs, q, r⟩ := so1.ownAt rfl es
          refine ⟨_, el, Hf0, H0, Hf1, ρ, .int ky, so1, e2, fun y Hf2 H2 x2 r2 => ?_⟩
          have so2 := so1.step x2
          have q2 := x2.h _ _ q
          refine ⟨l, vs, ky, j, rfl, r2, q2, by rw [<- r.length]; exact ej, ?_⟩
          exact k σ Hf2 _ (x1.f.trans x2.f) (so2.mutd (s := .own xs) (s' := .own (xs.set j d)) rfl rfl es el ⟨vs.set j v, zau, (r.up x2.f).set j (r1.up x2.f)⟩)
      · cases ef
theorem znh {i : Nat} {fk fv : List Sl -> Option D} (ho : PE X e (zbz i)) (hk : DE c X i' fk) (hv : DE c X value fv) (hs : swapsWithSole [.Subscript e i' pos'] value pos.line X.env = pure false := by rfl) (hw : swappedStores [.Subscript e i' pos'] value X.env = pure none := by rfl)
    (h1 : (assignEach [.Subscript e i' pos'] X.env).map (·.2) = [assign (.Subscript e i' pos') X.env] := by rfl)
    (ha : ∀ v, assign (.Subscript e i' pos') X.env v = (do
      let ov <- holding [v] (eval e X.env)
      let iv <- holding [v, ov] (eval i' X.env)
      standAt pos'
      holding [v, ov, iv] (setItem ov iv v)
      release [v, ov, iv] []) := by intro _; rfl) :
    DS c X (.Assign [.Subscript e i' pos'] value pos) (zdp i fk fv) := zoz (zi4 hv (zlp ho hk zk5 ha) hs hw h1)
end
section
variable {c : Str -> Addr} {X : Cx}
open Classical in
end
end L2
namespace L2
open PySem PySem.Spec PyProof.Rows
noncomputable def Ris (xs : Array Nat) : Prop := xs.toList.Pairwise (· < ·)
end L2
namespace L2
open PySem PySem.Spec PyProof.Rows
noncomputable def zdm (P : Program) (w : World) (h : Heap) (a : Addr) (led : Bool) (S : Int -> Bool) (n : Nat) : Prop :=
  ∃ o ents ep tb, h.get? a = some o /\ o.ExactSet /\ o.data = .set ents ep tb /\ ElemsOf (intKind P w) ents.toList /\ (∀ k, S k = true ↔ ∃ e ∈ ents.toList, (intKind P w).is k e.2 = true)
    /\ ents.size < scanBound /\ tb.fits ents.size = true /\ ents.size = n /\ Ris tb.place /\ tb.led = led
section
variable {P : Program} {w : World} {A : Around} {E : Value -> Shared -> Prop} {s : Shared}
theorem zdm.stay {h h' : Heap} {a : Addr} {led : Bool} {S : Int -> Bool} {n : Nat} (q : zdm P w h a led S n) (k : ∀ o, h.get? a = some o -> h'.get? a = some o) : zdm P w h' a led S n := by
  obtain ⟨o, ents, ep, tb, ho, r⟩ := q
  exact ⟨o, ents, ep, tb, k o ho, r⟩
theorem zdm.congr {h : Heap} {a : Addr} {led : Bool} {S S' : Int -> Bool} {n n' : Nat} (q : zdm P w h a led S n) (e : ∀ k, S k = S' k) (en : n = n') : zdm P w h a led S' n' := by
  have : S = S' := funext e
  subst this en
  exact q
end
end L2
namespace L2
open PySem PySem.Spec PyProof.Rows
set_option maxRecDepth 100000
section
variable {P : Program} {w : World} {A : Around} {R : Result -> Shared -> Prop} {I : Addr} {fp wr : List Addr} {G : Array GenState -> Array GenState -> Prop} {n : Nat} {Pv : Nat -> Value -> Prop} {St : Nat -> Shared -> Prop}
end
section
variable {P : Program} {w : World} {A : Around} {E : Value -> Shared -> Prop} {s : Shared}
end
end L2
namespace L2
open PySem PySem.Spec PyProof.Rows
set_option maxRecDepth 100000
section
variable {P : Program} {w : World} {A : Around} {E : Value -> Shared -> Prop} {s : Shared}
end
end L2
namespace L2
open PySem PySem.Spec PyProof.Rows
set_option maxRecDepth 100000
section
variable {P : Program} {w : World} {A : Around} {E : Value -> Shared -> Prop}
end
end L2
namespace L2
open PySem PySem.Spec PyProof.Rows
set_option maxRecDepth 100000
section
variable {P : Program} {w : World} {A : Around} {E : Value -> Shared -> Prop} {s : Shared}
end
end L2
namespace L2
open PySem PySem.Spec PyProof.Rows
set_option maxRecDepth 100000
section
variable {P : Program} {w : World} {A : Around} {E : Value -> Shared -> Prop} {s : Shared} {a : Addr} {o : Obj} {ents : Array (Int × Value)} {ep : Nat} {tb : SetTable}
end
section
variable {P : Program} {w : World} {a I T : Addr} {o : Obj} {ents : Array (Int × Value)} {ep n : Nat} {tb : SetTable}
end
end L2
namespace L2
open PySem PySem.Spec PyProof.Rows
set_option maxRecDepth 100000
section
variable {P : Program} {w : World} {A : Around} {E : Value -> Shared -> Prop} {s : Shared} {a : Addr}
end
end L2
namespace L2
open PySem PySem.Spec PyProof.Rows
set_option maxRecDepth 100000
section
variable {P : Program} {w : World} {A : Around} {E : Value -> Shared -> Prop} {s : Shared} {a : Addr}
end
end L2
namespace L2
open PySem PySem.Spec PyProof.Rows
section
variable {X : Cx} {pins : List (Addr × Obj)} {σ : St} {H : Hp} {s : Shared}
end
end L2
namespace L2
open PySem PySem.Spec PyProof.Rows
section
variable {X : Cx} {e : Expr} {te : TE} {p p2 pos pos2 : Pos}
end
section
variable {c : Str -> Addr} {X : Cx} {e : Expr} {p p2 pos pos2 : Pos}
end
end L2
namespace L2
open PySem PySem.Spec PyProof.Rows
noncomputable def wp (F : List Sl -> Option Fl) (ρ : List Sl) (K : Fl -> Prop) : Prop := ∃ o, F ρ = some o /\ K o
noncomputable def zj6 (F : List Sl -> Option Fl) (K : Fl -> Prop) : Fl -> Prop
  | .nx ρ => wp F ρ K
  | o => K o
noncomputable def zlu (J : List Sl -> Prop) (K : Fl -> Prop) : Fl -> Prop
  | .nx ρ => J ρ
  | .ct ρ => J ρ
  | .bk ρ => K (.nx ρ)
  | o => K o
noncomputable def zhi (Q : D -> Prop) (o : Fl) : Prop := ∃ d, zgy o = some d /\ Q d
theorem zas {F F' : List Sl -> Option Fl} {ρ : List Sl} {K : Fl -> Prop} (h : wp F ρ (zj6 F' K)) : wp (zan F F') ρ K := by
  obtain ⟨o, e, k⟩ := h
  unfold wp zan
  rw [e]
  cases o with
  | nx ρ' => exact k
  | _ => exact ⟨_, rfl, k⟩
theorem zgb {ρ : List Sl} {K : Fl -> Prop} (h : K (.nx ρ)) : wp zd4 ρ K := ⟨_, rfl, h⟩
theorem zdv {i : Nat} {f : List Sl -> Option D} {ρ : List Sl} {d : D} {K : Fl -> Prop} (h : f ρ = some d) (k : K (.nx (ρ.set i (.im d)))) : wp (zbr i f) ρ K := ⟨_, zm2 h, k⟩
theorem zfw {i : Nat} {f : List Sl -> Option (List D)} {ρ : List Sl} {d : List D} {K : Fl -> Prop} (h : f ρ = some d) (k : K (.nx (ρ.set i (.own d)))) : wp (zca i f) ρ K := ⟨_, zrw h, k⟩
theorem zhk {f : List Sl -> Option D} {ρ : List Sl} {d : D} {K : Fl -> Prop} (h : f ρ = some d) (k : K (.rt d)) : wp (zb9 f) ρ K := ⟨_, zpu h, k⟩
theorem zq1 {f : List Sl -> Option (List D)} {ρ : List Sl} {d : List D} {K : Fl -> Prop} (h : f ρ = some d) (k : K (.rtO d)) : wp (zey f) ρ K := ⟨_, by unfold zey; rw [h]; rfl, k⟩
theorem zlc {F : List Sl -> Option Fl} {ρ : List Sl} {o : Fl} {K : Fl -> Prop} (h : F ρ = some o) (k : K o) : wp F ρ K := ⟨_, h, k⟩
theorem zdh {t : List Sl -> Option Bool} {F F' : List Sl -> Option Fl} {ρ : List Sl} {b : Bool} {K : Fl -> Prop} (h : t ρ = some b) (kT : b = true -> wp F ρ K) (kF : b = false -> wp F' ρ K) : wp (zcd t F F') ρ K := by
  unfold wp zcd
  rw [h]
  cases b with
  | true => exact kT rfl
  | false => exact kF rfl
theorem zj3 {i : Nat} {F : List Sl -> Option Fl} {ρ ρ' : List Sl} {K : Fl -> Prop} (e : zgv i ρ = ρ') (h : wp F ρ' K) : wp (zd5 i F) ρ K := by
  subst e
  exact h
theorem zjs {i : Nat} {f : List Sl -> Option D} {ρ : List Sl} {d : D} {xs : List D} {K : Fl -> Prop} (h : f ρ = some d) (h' : ρ[i]? = some (.own xs)) (hl : xs.length < 16777216) (k : K (.nx (ρ.set i (.own (xs ++ [d]))))) : wp (zcp i f) ρ K := ⟨_, znl h h' hl, k⟩
theorem zmj {α : Type} {g : D -> List Sl -> Option (List Sl)} {F : List Sl -> Option Fl} {K : Fl -> Prop} (f : α -> D) (I : List α -> List Sl -> Prop) : ∀ (post pre : List α) (ρ : List Sl), I pre ρ ->
    (∀ pre' x post' ρ, pre ++ post = pre' ++ x :: post' -> I pre' ρ -> ∃ ρ1, g (f x) ρ = some ρ1 /\ wp F ρ1 (zlu (I (pre' ++ [x])) K)) -> (∀ ρ', I (pre ++ post) ρ' -> K (.nx ρ')) -> wp (za8 g F (post.map f)) ρ K
  | [], pre, ρ, h, _, hk => ⟨_, rfl, hk ρ (by rw [List.append_nil]; exact h)⟩
  | x :: post, pre, ρ, h, hs, hk => by
    obtain ⟨ρ1, e1, o, e2, k2⟩ := hs pre x post ρ rfl h
    unfold wp
    rw [List.map_cons]
    unfold za8
    rw [e1, Option.bind_some, e2, Option.bind_some]
    have go : ∀ ρ2, I (pre ++ [x]) ρ2 -> wp (za8 g F (post.map f)) ρ2 K := fun ρ2 h2 =>
      zmj f I post (pre ++ [x]) ρ2 h2 (by rw [List.append_assoc]; exact hs) (by rw [List.append_assoc]; exact hk)
    cases o with
    | nx ρ2 => exact go ρ2 k2
    | ct ρ2 => exact go ρ2 k2
    | bk ρ2 => exact ⟨_, rfl, k2⟩
    | rt d => exact ⟨_, rfl, k2⟩
    | rtO d => exact ⟨_, rfl, k2⟩
    | rtS d ρ2 => exact ⟨_, rfl, k2⟩
    | rtT o => exact ⟨_, rfl, k2⟩
theorem zhb {α : Type} {fi : List Sl -> Option (List D)} {g : D -> List Sl -> Option (List Sl)} {F : List Sl -> Option Fl} {ρ : List Sl} {K : Fl -> Prop} (xs : List α) (f : α -> D) (I : List α -> List Sl -> Prop) (hi : fi ρ = some (xs.map f)) (h0 : I [] ρ)
    (hs : ∀ pre x post ρ, xs = pre ++ x :: post -> I pre ρ -> ∃ ρ1, g (f x) ρ = some ρ1 /\ wp F ρ1 (zlu (I (pre ++ [x])) K)) (hk : ∀ ρ', I xs ρ' -> K (.nx ρ')) : wp (zda fi g F) ρ K := by
  obtain ⟨o, e, k⟩ := zmj f I xs [] ρ h0 hs hk
  refine ⟨o, ?_, k⟩
  unfold zda
  rw [hi]
  exact e
theorem znz {n : Nat} {F : List Sl -> Option Fl} {ds : List D} {Q : D -> Prop} (h : wp F (zbg n ds) (zhi Q)) : ∃ d, zb6 n F ds = some d /\ Q d := by
  obtain ⟨o, e, d, e', q⟩ := h
  refine ⟨d, ?_, q⟩
  unfold zb6
  rw [e]
  exact e'
theorem zkg {n : Nat} {F : List Sl -> Option Fl} {ds : List D} {r : D} (h : wp F (zbg n ds) (zhi fun d => d = r)) : zb6 n F ds = some r := by
  obtain ⟨d, e, q⟩ := znz h
  rw [e, q]
theorem zje {Q : D -> Prop} {d : D} (h : Q d) : zhi Q (.rt d) := ⟨d, rfl, h⟩
theorem zmb {m : List D -> Option D} {f : List Sl -> Option (List D)} {ρ : List Sl} {ds : List D} {d : D} (h : f ρ = some ds) (h' : m ds = some d) (hs : d.scalar = true) : ze0 m f ρ = some d := by
  unfold ze0
  rw [h, Option.bind_some, h', Option.bind_some, if_pos hs]
theorem zev {i j : Int} (h : 0 < j) : zdg (.int i) (.int j) = some (.int (i % j)) := zd1 h
theorem zi8 {i j : Int} (h : zej i j) : zg6 (.int i) (.int j) = some (.int (i / j)) := zd1 h
theorem zpb {i j : Int} (h : zcx i j) : zp3 (.int i) (.int j) = some (.int (i * j)) := zd1 h
theorem ziu {i j : Int} (h : zem i j) : zfr (.int i) (.int j) = some (.int (i ^ j.toNat)) := zd1 h
theorem zod {i j : Int} (h : 0 <= j) : zmw (.int i) (.int j) = some (.int (i / 2 ^ j.toNat)) := zd1 h
theorem zik {i j : Int} : zbh (.int i) (.int j) = some (.int (i + j)) := rfl
theorem zgo {i j : Int} : ze5 (.int i) (.int j) = some (.int (i - j)) := rfl
theorem zog {i j : Int} : zm0 (.int i) (.int j) = some (.int (Builtin.bitAnd i j)) := rfl
theorem zl6 {i j : Int} : dLt (.int i) (.int j) = some (.bl (decide (i < j))) := rfl
theorem zon {i j : Int} : dLe (.int i) (.int j) = some (.bl (decide (i <= j))) := rfl
theorem zrq {i j : Int} : dGt (.int i) (.int j) = some (.bl (decide (j < i))) := rfl
theorem zpk {i j : Int} : dGe (.int i) (.int j) = some (.bl (decide (j <= i))) := rfl
theorem zjy {α : Type} (xs : List α) (f : α -> D) : za7 [.lst (xs.map f)] = some (.int xs.length) := by
  show some (D.int ((xs.map f).length : Int)) = _
  rw [List.length_map]
theorem zlv {α : Type} (xs : List α) (f : α -> D) : za7 [.kl (xs.map f)] = some (.int xs.length) := by
  show some (D.int ((xs.map f).length : Int)) = _
  rw [List.length_map]
theorem zk8 {α : Type} (f : α -> D) (xs : List α) (lo hi : Option Int) : zc4 (xs.map f) lo hi = ((xs.drop (HT.sIx xs.length 0 lo)).take (HT.sIx xs.length xs.length hi - HT.sIx xs.length 0 lo)).map f := by
  unfold zc4
  rw [List.length_map, List.map_take, List.map_drop]
theorem zsr {α : Type} {f : List Sl -> Option D} {l h : List Sl -> Option (Option Int)} {ρ : List Sl} {g : α -> D} {xs : List α} {lo hi : Option Int} (e : f ρ = some (.lst (xs.map g))) (e1 : l ρ = some lo) (e2 : h ρ = some hi) : mSl f l h ρ = some (((xs.drop (HT.sIx xs.length 0 lo)).take (HT.sIx xs.length xs.length hi - HT.sIx xs.length 0 lo)).map g) := by
  unfold mSl
  rw [e, Option.bind_some]
  show (l ρ).bind (fun lo => (h ρ).map fun hi => zc4 (xs.map g) lo hi) = _
  rw [e1, Option.bind_some, e2, <- zk8]
  rfl
theorem zma {α : Type} {f : List Sl -> Option D} {l h : List Sl -> Option (Option Int)} {ρ : List Sl} {g : α -> D} {xs : List α} {lo hi : Option Int} (e : f ρ = some (.kl (xs.map g))) (e1 : l ρ = some lo) (e2 : h ρ = some hi) : mSl f l h ρ = some (((xs.drop (HT.sIx xs.length 0 lo)).take (HT.sIx xs.length xs.length hi - HT.sIx xs.length 0 lo)).map g) := by
  unfold mSl
  rw [e, Option.bind_some]
  show (l ρ).bind (fun lo => (h ρ).map fun hi => zc4 (xs.map g) lo hi) = _
  rw [e1, Option.bind_some, e2, <- zk8]
  rfl
theorem zok {α : Type} (xs : List α) (f : α -> D) : dEq (.lst (xs.map f)) (.lst []) = some (.bl xs.isEmpty) := by cases xs <;> rfl
theorem zi7 {α : Type} (xs : List α) (f : α -> D) : dNe (.lst (xs.map f)) (.lst []) = some (.bl (!xs.isEmpty)) := by cases xs <;> rfl
end L2
namespace L2
open PySem PySem.Spec PyProof.Rows
theorem zaa.sc {G : Gc} {H H' : Hp} : ∀ {ds : List D} {vs : List V}, ds.all D.scalar = true -> zaa G H ds vs -> zaa G H' ds vs
  | [], _, _, h => h
  | d :: ds, _, hs, ⟨v, r, e, h1, h2⟩ => by
    rw [List.all_cons, Bool.and_eq_true] at hs
    exact ⟨v, r, e, h1.sc hs.1, zaa.sc hs.2 h2⟩
section
variable {c : Str -> Addr} {X : Cx} {e : Expr} {es : List Expr} {x : Str} {p pos : Pos} {k : Nat} {f : Addr} {fd : FuncData} {ps : List Str} {fa : List Sl -> Option (List D)}
end
theorem zqg {m : List D -> Option (List D)} {f : List Sl -> Option (List D)} {ρ : List Sl} {ds rs : List D} (h : f ρ = some ds) (h' : m ds = some rs) : zeg m f ρ = some rs := by
  unfold zeg
  rw [h, Option.bind_some, h']
end L2
namespace L2
open PySem PySem.Spec PyProof.Rows
theorem zi3 {k : Int} {n : Nat} (h : k.natAbs < 2 ^ n) : Builtin.Int.intBits k <= n := by
  unfold Builtin.Int.intBits
  split
  · exact Nat.zero_le _
  · rename_i hk
    have : k.natAbs ≠ 0 := fun z => hk (by rw [Int.natAbs_eq_zero.mp z]; rfl)
    exact (Nat.log2_lt this).mpr h
noncomputable def zco (i j : Int) : Prop := zcx i j \/ (i.natAbs < 2 ^ 200 /\ j.natAbs < 2 ^ 200)
theorem zco.ok {i j : Int} (h : zco i j) : IntMulOk i j := by
  rcases h with h | ⟨h1, h2⟩
  · exact h.ok
  · have a := zi3 h1
    have b := zi3 h2
    unfold IntMulOk
    have : Builtin.Int.intTooBig (Builtin.Int.intBits i + Builtin.Int.intBits j) = false := by
      unfold Builtin.Int.intTooBig
      have c : (400 : Int) <= bitsLine := by decide
      exact decide_eq_false (by omega)
    rw [this, Bool.and_false]
    exact Bool.false_ne_true
noncomputable instance {i j : Int} : Decidable (zco i j) := by unfold zco; infer_instance
noncomputable abbrev zib : D -> D -> Option D := dI zco fun i j => .int (i * j)
section
variable {c : Str -> Addr} {X : Cx}
theorem zpr : OpR X (binaryOp .Mult) (rI zco fun i j => .int (i * j)) := opI fun _ _ _ _ _ _ _ hc q => mul_int q hc.ok
theorem zr3 : OpD c X (binaryOp .Mult) zib := zfk zpr fun _ _ _ _ => rfl
end
theorem zk9 {i j : Int} (h : zco i j) : zib (.int i) (.int j) = some (.int (i * j)) := zd1 h
end L2
namespace L2
open PySem PySem.Spec PyProof.Rows
noncomputable def zbu (H : Hp) (l : Addr) : Hp := fun a => if a = l then none else H a
theorem zh0 {H : Hp} {l : Addr} : zbu H l l = none := by unfold zbu; rw [if_pos rfl]
theorem zh4 {H : Hp} {l a : Addr} (h : a ≠ l) : zbu H l a = H a := by unfold zbu; rw [if_neg h]
theorem zms {H : Hp} {l : Addr} : zac (zbu H l) H := fun a o e => by
  by_cases h : a = l
  · subst h; rw [zh0] at e; cases e
  · rw [zh4 h] at e; exact e
theorem zi0 {F H : Hp} {l : Addr} (s : zac F H) (h : F l = none) : zac F (zbu H l) := fun a o e => by
  rw [zh4 (zaz e h)]; exact s a o e
section
variable {P : Program} {w : World} {K : PySem.W.Frag} {mg : Str -> Option Value} {base : Heap} {c : Str -> Addr}
end
noncomputable def tDX (G : Gc) (f : List Sl -> Option (D × List Sl)) : TE := fun σ H Q => ∃ Hf0 H0 Hf ρ d ρ', zab G Hf0 H0 Hf H σ ρ /\ f ρ = some (d, ρ') /\ ∀ v Hf' H', zac Hf Hf' -> zab G Hf0 H0 Hf' H' σ ρ' -> Rep G Hf' d v -> Q v H'
noncomputable def DX (c : Str -> Addr) (X : Cx) (e : Expr) (f : List Sl -> Option (D × List Sl)) : Prop := PE X e (tDX (Gx c X) f)
noncomputable def zr5 (G : Gc) (f : List Sl -> Option (List D × List Sl)) : TI := fun σ H R => ∃ Hf0 H0 Hf ρ ds ρ', zab G Hf0 H0 Hf H σ ρ /\ f ρ = some (ds, ρ') /\ ∀ J Hf' H', zac Hf Hf' -> zab G Hf0 H0 Hf' H' σ ρ' -> zdr G Hf' J ds -> R J H'
noncomputable def DXi (c : Str -> Addr) (X : Cx) (tg iter : Expr) (f : List Sl -> Option (List D × List Sl)) : Prop := PI X tg iter (zr5 (Gx c X) f)
noncomputable def zee (fi : List Sl -> Option (List D × List Sl)) (g : D -> List Sl -> Option (List Sl)) (F : List Sl -> Option Fl) (ρ : List Sl) : Option Fl := (fi ρ).bind fun p => za8 g F p.1 p.2
section
variable {c : Str -> Addr} {X : Cx} {k : Nat} {f C : Addr} {fd : FuncData} {ps : List Str} {x : Str} {p pos apos : Pos} {e o tg iter : Expr} {es : List Expr} {fa ga : List Sl -> Option (List D)} {i : Nat}
theorem zso {fi : List Sl -> Option (List D × List Sl)} {g : D -> List Sl -> Option (List Sl)} {F : List Sl -> Option Fl} {a : List Stmt} {kk : Nat} (hp : PassesOwn (model X.prog X.w) X.A X.env X.xe) (hc : X.calm = true) (hi : DXi c X tg iter fi) (hg : DG c X tg kk g) (hb : DSs c X a F) (hs : ∀ x, foldedSetIterable iter X.env x = pure x := by intro _; rfl) :
    DS c X (.For tg iter a [] pos) (zee fi g F) := PS.imp (zix hp hc hi hg.pg hb hs) fun E σ H q_ => by
  obtain ⟨Hf0, H0, Hf, ρ, o, so, ef, k⟩ := q_
  unfold zee at ef
  cases e1 : fi ρ with
  | none => rw [e1] at ef; cases ef
  | some pp =>
    obtain ⟨ds, ρn⟩ := pp
    rw [e1] at ef
    replace ef : za8 g F ds ρn = some o := ef
    refine ⟨Hf0, H0, Hf, ρ, ds, ρn, so, e1, fun J Hf1 H1 f1 so1 it => ?_⟩
    refine ⟨fun i m σ' H' => m = ds.length - i /\ i <= ds.length /\ ∃ Hf' ρ', zab (Gx c X) Hf0 H0 Hf' H' σ' ρ' /\ zac Hf1 Hf' /\ za8 g F (ds.drop i) ρ' = some o, ⟨ds.length, rfl, Nat.zero_le _, Hf1, ρn, so1, zac.refl _, ef⟩, ?_⟩
    rintro i m σ' H' ⟨rfl, hi', Hf', ρ', so', s1, em⟩
    obtain ⟨it1, it2⟩ := it Hf' H' s1 so'.sub i
    by_cases hlt : i < ds.length
    · obtain ⟨d, ed, edr⟩ := zgq hlt
      obtain ⟨go, yl⟩ := it1 d ed
      rw [edr] at em
      unfold za8 at em
      refine .inr ⟨go, fun σ2 H2 => ds.length - (i + 1) = ds.length - (i + 1) /\ i + 1 <= ds.length /\ ∃ Hf' ρ', zab (Gx c X) Hf0 H0 Hf' H2 σ2 ρ' /\ zac Hf1 Hf' /\ za8 g F (ds.drop (i + 1)) ρ' = some o, fun σ2 H2 w => ⟨ds.length - (i + 1), by omega, w⟩, fun x H2 y => ?_⟩
      obtain ⟨Hf2, x2, rx⟩ := yl x H2 y
      cases eg : g d ρ' with
      | none => rw [eg] at em; cases em
      | some ρ1 =>
        rw [eg] at em
        replace em : (F ρ1).bind _ = _ := em
        cases eF : F ρ1 with
        | none => rw [eF] at em; cases em
        | some o1 =>
          rw [eF] at em
          refine ⟨Hf0, H0, Hf2, ρ', d, ρ1, so'.step x2, rx, eg, fun σ3 so3 => ⟨Hf0, H0, Hf2, ρ1, o1, so3, eF, ?_⟩⟩
          have sf := s1.trans x2.f
          cases o1 with
          | nx ρ2 => exact fun σ4 Hf4 H4 s4 so4 => ⟨rfl, hlt, Hf4, ρ2, so4, sf.trans s4, em⟩
          | ct ρ2 => exact fun σ4 Hf4 H4 s4 so4 => ⟨rfl, hlt, Hf4, ρ2, so4, sf.trans s4, em⟩
          | bk ρ2 => cases em; exact fun σ4 Hf4 H4 s4 so4 => k σ4 Hf4 H4 ((f1.trans sf).trans s4) so4
          | rt d => cases em; exact k
          | rtO d => cases em; exact k
          | rtS d ρ2 => cases em; exact k
          | rtT o' => cases em; exact k
    · have ei : i = ds.length := by omega
      subst ei
      rw [List.drop_eq_nil_of_le (Nat.le_refl _)] at em
      cases em
      exact .inl ⟨it2 rfl, k σ' Hf' H' (f1.trans s1) so'⟩
end
theorem zn2 {fi : List Sl -> Option (List D × List Sl)} {g : D -> List Sl -> Option (List Sl)} {F : List Sl -> Option Fl} {ρ ρ' : List Sl} {ds : List D} {K : Fl -> Prop} (h : fi ρ = some (ds, ρ')) (k : wp (zda (fun _ => some ds) g F) ρ' K) : wp (zee fi g F) ρ K := by
  obtain ⟨o, e, q⟩ := k
  exact ⟨o, by unfold zee; rw [h]; exact e, q⟩
end L2
namespace L2
open PySem PySem.Spec PyProof.Rows
noncomputable def spM (G : Gc) (n0 n : Nat) (m : Addr -> List D -> List D -> List D -> Option (List D × D)) : Sp := fun vs H Q _ => ∃ Hf ds0 ds1 xs ys d l us vs0 vs1, vs = vs0 ++ .ref l :: vs1 /\ zac Hf H /\ Hf l = none /\ H l = some (.lst us) /\ zaa G Hf ds0 vs0 /\ zaa G Hf ds1 vs1 /\ zaa G Hf xs us /\ ds0.length = n0 /\ ds0.length + 1 + ds1.length = n /\ m l ds0 ds1 xs = some (ys, d) /\
  ∀ v Hf' H' us', Ext Hf (zbu H l) Hf' H' -> Hf' l = none -> H' l = some (.lst us') -> zaa G Hf' ys us' -> Rep G Hf' d v -> Q v H'
noncomputable def zfl (N : Nat) (l : Addr) (ds0 ds1 xs : List D) : List Sl := (zbg N (ds0 ++ .non :: ds1)).set ds0.length (.pin l xs)
open Classical in
noncomputable def zby (l : Addr) (i : Nat) (ρ : List Sl) : Option (List D) := match ρ[i]? with
  | some (.pin l' ys) => if l' = l then some ys else none
  | _ => none
theorem zl1 {l : Addr} {i : Nat} {ρ : List Sl} {ys : List D} (h : zby l i ρ = some ys) : ρ[i]? = some (.pin l ys) := by
  unfold zby at h
  split at h
  · rename_i l' zs e
    split at h
    · rename_i q
      cases h
      rw [e, q]
    · cases h
  · cases h
noncomputable def zc9 (N : Nat) (F : List Sl -> Option Fl) (l : Addr) (ds0 ds1 xs : List D) : Option (List D × D) := (F (zfl N l ds0 ds1 xs)).bind fun o => match o with
  | .nx ρ => (zby l ds0.length ρ).map fun ys => (ys, .non)
  | .rtS d ρ => (zby l ds0.length ρ).map fun ys => (ys, d)
  | _ => none
theorem zol {N : List Str} {vs0 vs1 : List V} {l : Addr} : (L2.start N (vs0 ++ .non :: vs1)).set vs0.length (some (.ref l)) = L2.start N (vs0 ++ .ref l :: vs1) := by
  unfold L2.start
  simp [List.set_append, List.length_append]
theorem zab.startM {G : Gc} {Hf H : Hp} {N : List Str} {ds0 ds1 xs : List D} {vs0 vs1 us : List V} {l : Addr} (s0 : zac Hf H) (hf : Hf l = none) (hl : H l = some (.lst us)) (r0 : zaa G Hf ds0 vs0) (r1 : zaa G Hf ds1 vs1) (rx : zaa G Hf xs us) :
    zab G Hf (zbu H l) Hf H (L2.start N (vs0 ++ .ref l :: vs1)) (zfl N.length l ds0 ds1 xs) := by
  have st0 := zab.start (N := N) (zi0 s0 hf) (r0.append (.cons (d := .non) (v := .non) rfl r1))
  have := st0.setOwn (i := ds0.length) (l := l) (s := .pin l xs) rfl (Ext.grow (zi0 s0 hf) zms) zh0 hf ⟨rfl, us, hl, rx⟩
  rw [r0.length, zol, <- r0.length] at this
  exact this
section
variable {P : Program} {w : World} {K : PySem.W.Frag} {mg : Str -> Option Value} {base : Heap} {c : Str -> Addr}
theorem zhz {x qual : Str} {st : Stmt} {f : Addr} {fd : FuncData} {N ps : List Str} {k n0 : Nat} {F : List Sl -> Option Fl} (Fn : Fun K x qual st f fd) (S : zbm N ps (zam st))
    (h : ∀ (cdv : Value) (A : Around) (outer : List Env) (s : Shared) (H : Hp) (E : XK), zai k (A.deeper (envOfC qual (zam st) s.heap.objs.size f cdv)) -> DSs c (zcb CX0 P w K mg base N qual (zam st) f cdv A outer s H E).nox (za9 st) F) :
    zak P w K mg base CX0 (k + 1) f fd ps (spM ⟨K, c⟩ n0 ps.length (zc9 N.length F)) := by
  refine Fn.ok S (fun vs H Q E ⟨Hf, ds0, ds1, xs, ys, d, l, us, vs0, vs1, ev, s0, hf, hu, r0, r1, rx, hn, hl, _⟩ => by rw [ev, List.length_append, List.length_cons, <- r0.length, <- r1.length]; omega) fun cdv A outer s H vs Q E hr ⟨Hf, ds0, ds1, xs, ys, d, l, us, vs0, vs1, ev, s0, hf, hu, r0, r1, rx, hn, hl, e, kq⟩ => ⟨_, h cdv A outer s H E hr, ?_⟩
  subst ev
  unfold zc9 at e
  cases eF : F (zfl N.length l ds0 ds1 xs) with
  | none => rw [eF] at e; cases e
  | some o =>
    rw [eF, Option.bind_some] at e
    refine ⟨Hf, zbu H l, Hf, _, o, zab.startM s0 hf hu r0 r1 rx, eF, ?_⟩
    cases o with
    | nx ρ =>
      replace e : (zby l ds0.length ρ).map (fun ys => (ys, D.non)) = some (ys, d) := e
      cases ep : zby l ds0.length ρ with
      | none => rw [ep] at e; cases e
      | some zs =>
        rw [ep] at e
        cases e
        intro σ' Hf' H' _ so
        obtain ⟨l', e1, h0, hf', e2, us', hu', rx'⟩ := so.ownAt (s := .pin l ys) rfl (zl1 ep)
        subst e2
        exact kq .non Hf' H' us' so.ext hf' hu' rx' rfl
    | rtS d' ρ =>
      replace e : (zby l ds0.length ρ).map (fun ys => (ys, d')) = some (ys, d) := e
      cases ep : zby l ds0.length ρ with
      | none => rw [ep] at e; cases e
      | some zs =>
        rw [ep] at e
        cases e
        intro v σ' Hf' H' so r
        obtain ⟨l', e1, h0, hf', e2, us', hu', rx'⟩ := so.ownAt (s := .pin l ys) rfl (zl1 ep)
        subst e2
        exact kq v Hf' H' us' so.ext hf' hu' rx' r
    | _ => cases e
end
theorem zab.giveS {G : Gc} {Hf0 H0 Hf H : Hp} {σ : St} {ρ : List Sl} {i : Nat} {l : Addr} {s : Sl} (hs : s.isOwn = true) (h : zab G Hf0 H0 Hf H σ ρ) (e : ρ[i]? = some s) (el : σ[i]? = some (some (.ref l))) : zab G Hf0 H0 Hf (zbu H l) σ (ρ.set i .no) := by
  refine h.chg e el (fun b u hb => ?_) trivial fun a p => (p.calm rfl).elim
  by_cases hl : b = l
  · subst hl; exact .inl ((Holds.own hs).mpr rfl)
  · exact .inr (by rw [zh4 hl]; exact hb)
theorem zab.back {G : Gc} {Hf0 H0 Hf H Hf' H' : Hp} {σ : St} {ρ : List Sl} {i : Nat} {l : Addr} {s s' : Sl} (hs : s.isOwn = true) (hs' : s'.isOwn = true) (h : zab G Hf0 H0 Hf H σ ρ) (e : ρ[i]? = some s) (el : σ[i]? = some (some (.ref l))) (x : Ext Hf (zbu H l) Hf' H') (hf : Hf' l = none) (ho : zbb G Hf' H' l s') : zab G Hf0 H0 Hf' H' σ (ρ.set i s') := by
  have := (h.giveS hs e el).setOwn (i := i) (l := l) hs' x zh0 hf ho
  rw [List.set_set] at this
  have e2 : σ.set i (some (.ref l)) = σ := by
    apply List.ext_getElem?
    intro j
    by_cases hj : i = j
    · subst hj
      rw [List.getElem?_set_self (List.getElem?_eq_some_iff.mp el).1, el]
    · rw [List.getElem?_set_ne hj]
  rw [e2] at this
  exact this
section
variable {c : Str -> Addr} {X : Cx} {k n0 : Nat} {f : Addr} {fd : FuncData} {ps : List Str} {x : Str} {p pos pos' : Pos} {e : Expr} {es : List Expr} {fa : List Sl -> Option (List D × List D)} {i : Nat}
open Classical in
noncomputable def zfe (i : Nat) (ρ : List Sl) : Option (List D) := match ρ[i]? with
  | some (.pin _ xs) => some xs
  | _ => none
theorem zlw (i : Nat) {x : Str} (hN : X.N[i]? = some x := by rfl) (hv : Vis X.env.scope x := by first | exact Or.inl rfl | exact Or.inr (Or.inl rfl) | exact Or.inr (Or.inr rfl)) (hd : (x == ("__debug__" : Str)) = false := by decide)
    (hcd : (x == ("__classdict__" : Str)) = false := by decide) : DC c X (.Name x pos) (zfe i) := PE.imp (zc1 hN hv hd hcd) fun σ H Q q_ => by
  obtain ⟨Hf0, H0, Hf, ρ, d, st, ef, k⟩ := q_
  unfold zfe at ef
  split at ef
  · rename_i l xs es
    cases ef
    obtain ⟨l', e1, _, _, _, vs, q, r⟩ := st.ownAt (s := .pin l d) rfl es
    exact ⟨_, e1, k l' vs Hf H (Ext.refl st.sub) (.inl (SqL.of q)) r⟩
  · cases ef
end
theorem zh7 {f : List Sl -> Option D} {ρ : List Sl} {d : D} {K : Fl -> Prop} (h : f ρ = some d) (k : K (.rtS d ρ)) : wp (zcy f) ρ K := ⟨_, by unfold zcy; rw [h]; rfl, k⟩
theorem zrk {l : Addr} {i : Nat} {ρ : List Sl} {ys : List D} (h : ρ[i]? = some (.pin l ys)) : zby l i ρ = some ys := by
  unfold zby
  rw [h]
  exact if_pos rfl
theorem zid {N : Nat} {F : List Sl -> Option Fl} {l : Addr} {ds0 ds1 xs ys : List D} {d : D} {ρ : List Sl} (h : F (zfl N l ds0 ds1 xs) = some (.rtS d ρ)) (h' : ρ[ds0.length]? = some (.pin l ys)) : zc9 N F l ds0 ds1 xs = some (ys, d) := by
  unfold zc9
  rw [h, Option.bind_some]
  show (zby l ds0.length ρ).map _ = _
  rw [zrk h']
  rfl
end L2
namespace L2
open PySem PySem.Spec PyProof.Rows
noncomputable def zdl (i : Nat) (fk fv : List Sl -> Option D) (ρ : List Sl) : Option Fl := (fv ρ).bind fun d => (fk ρ).bind fun x => match x with
  | .int k => (match ρ[i]? with
    | some (.pin l xs) => (ixN xs.length k).map fun j => .nx (ρ.set i (.pin l (xs.set j d)))
    | _ => none)
  | _ => none
section
variable {c : Str -> Addr} {X : Cx} {st : Stmt} {e a b i' value : Expr} {pos pos' : Pos}
theorem zm6 {i : Nat} {fk fv : List Sl -> Option D} (hp : PS X st (zdw (tD (Gx c X) fv) (zij (zbz i) (tD (Gx c X) fk) zir))) : DS c X st (zdl i fk fv) := PS.imp hp fun E σ H q_ => by
  obtain ⟨Hf0, H0, Hf, ρ, o, so, ef, k⟩ := q_
  unfold zdl at ef
  cases e1 : fv ρ with
  | none => rw [e1] at ef; cases ef
  | some d =>
    rw [e1] at ef
    cases e2 : fk ρ with
    | none => rw [e2] at ef; cases ef
    | some x =>
      rw [e2] at ef
      obtain ⟨ky, rfl⟩ : ∃ ky, x = .int ky := by cases x <;> first | exact ⟨_, rfl⟩ | cases ef
      replace ef : (match ρ[i]? with | some (.pin l xs) => (ixN xs.length ky).map fun j => Fl.nx (ρ.set i (.pin l (xs.set j d))) | _ => none) = some o := ef
      split at ef
      · rename_i l0 xs es
        cases ej : ixN xs.length ky with
        | none => rw [ej] at ef; cases ef
        | some j =>
          rw [ej] at ef
          cases ef
          refine ⟨Hf0, H0, Hf, ρ, d, so, e1, fun v Hf1 H1 x1 r1 => ?_⟩
          have so1 := so.step x1
          obtain ⟨l, el, h0, hf, eq, vs, q, r⟩ := so1.ownAt (s := .pin l0 xs) rfl es
          subst eq
          refine ⟨_, el, Hf0, H0, Hf1, ρ, .int ky, so1, e2, fun y Hf2 H2 x2 r2 => ?_⟩
          have so2 := so1.step x2
          have q2 := x2.h _ _ q
          refine ⟨l, vs, ky, j, rfl, r2, q2, by rw [<- r.length]; exact ej, ?_⟩
          exact k σ Hf2 _ (x1.f.trans x2.f) (so2.mutd (s := .pin l xs) (s' := .pin l (xs.set j d)) rfl rfl es el ⟨rfl, vs.set j v, zau, (r.up x2.f).set j (r1.up x2.f)⟩)
      · cases ef
theorem zo3 {i : Nat} {fk fv : List Sl -> Option D} (ho : PE X e (zbz i)) (hk : DE c X i' fk) (hv : DE c X value fv) (hs : swapsWithSole [.Subscript e i' pos'] value pos.line X.env = pure false := by rfl) (hw : swappedStores [.Subscript e i' pos'] value X.env = pure none := by rfl)
    (h1 : (assignEach [.Subscript e i' pos'] X.env).map (·.2) = [assign (.Subscript e i' pos') X.env] := by rfl)
    (ha : ∀ v, assign (.Subscript e i' pos') X.env v = (do
      let ov <- holding [v] (eval e X.env)
      let iv <- holding [v, ov] (eval i' X.env)
      standAt pos'
      holding [v, ov, iv] (setItem ov iv v)
      release [v, ov, iv] []) := by intro _; rfl) :
    DS c X (.Assign [.Subscript e i' pos'] value pos) (zdl i fk fv) := zm6 (zi4 hv (zlp ho hk zk5 ha) hs hw h1)
end
theorem zph {i : Nat} {fk fv : List Sl -> Option D} {ρ : List Sl} {d : D} {xs : List D} {l : Addr} {k : Int} {K : Fl -> Prop} (hv : fv ρ = some d) (hk : fk ρ = some (.int k)) (h' : ρ[i]? = some (.pin l xs)) (h0 : 0 <= k) (h1 : k < xs.length) (q : K (.nx (ρ.set i (.pin l (xs.set k.toNat d))))) : wp (zdl i fk fv) ρ K := ⟨_, by
  unfold zdl
  rw [hv, Option.bind_some, hk, Option.bind_some, h']
  show (ixN xs.length k).map _ = _
  unfold ixN
  rw [if_pos h0, if_pos h1]
  rfl, q⟩
end L2
namespace L2
open PySem PySem.Spec PyProof.Rows
noncomputable abbrev Xe := List Sl -> Option (D × List Sl)
noncomputable abbrev Xa := List Sl -> Option (List D × List Sl)
noncomputable def mX (f : List Sl -> Option D) : Xe := fun ρ => (f ρ).map fun d => (d, ρ)
noncomputable def mX2 (m : D -> D -> Option D) (f g : Xe) : Xe := fun ρ => (f ρ).bind fun p => (g p.2).bind fun q => (m p.1 q.1).map fun d => (d, q.2)
noncomputable def zbw : Xa := fun ρ => some ([], ρ)
noncomputable def zbi (f : Xe) (g : Xa) : Xa := fun ρ => (f ρ).bind fun p => (g p.2).map fun q => (p.1 :: q.1, q.2)
theorem zps {f : List Sl -> Option D} {ρ ρ' : List Sl} {d : D} (h : mX f ρ = some (d, ρ')) : f ρ = some d /\ ρ' = ρ := by
  unfold mX at h
  cases e : f ρ with
  | none => rw [e] at h; cases h
  | some d' => rw [e] at h; cases h; exact ⟨rfl, rfl⟩
theorem zkc {m : D -> D -> Option D} {f g : Xe} {ρ ρ' : List Sl} {d : D} (h : mX2 m f g ρ = some (d, ρ')) : ∃ x y ρ1, f ρ = some (x, ρ1) /\ g ρ1 = some (y, ρ') /\ m x y = some d := by
  unfold mX2 at h
  cases e1 : f ρ with
  | none => rw [e1] at h; cases h
  | some p =>
    rw [e1, Option.bind_some] at h
    cases e2 : g p.2 with
    | none => rw [e2] at h; cases h
    | some q =>
      rw [e2, Option.bind_some] at h
      cases e3 : m p.1 q.1 with
      | none => rw [e3] at h; cases h
      | some z => rw [e3] at h; cases h; exact ⟨p.1, q.1, p.2, rfl, e2, e3⟩
theorem zkv {f : Xe} {g : Xa} {ρ ρ' : List Sl} {ds : List D} (h : zbi f g ρ = some (ds, ρ')) : ∃ d r ρ1, f ρ = some (d, ρ1) /\ g ρ1 = some (r, ρ') /\ ds = d :: r := by
  unfold zbi at h
  cases e1 : f ρ with
  | none => rw [e1] at h; cases h
  | some p =>
    rw [e1, Option.bind_some] at h
    cases e2 : g p.2 with
    | none => rw [e2] at h; cases h
    | some q => rw [e2] at h; cases h; exact ⟨p.1, q.1, p.2, rfl, e2, rfl⟩
noncomputable def zsz (G : Gc) (f : Xa) : TA := fun σ H Q => ∃ Hf0 H0 Hf ρ ds ρ', zab G Hf0 H0 Hf H σ ρ /\ f ρ = some (ds, ρ') /\ ∀ vs Hf' H', zac Hf Hf' -> zab G Hf0 H0 Hf' H' σ ρ' -> zaa G Hf' ds vs -> Q vs H'
structure DAX (c : Str -> Addr) (X : Cx) (es : List Expr) (f : Xa) : Prop where
  pa : PA X es (zsz (Gx c X) f)
  len : ∀ ρ ds ρ', f ρ = some (ds, ρ') -> ds.length = es.length
section
variable {c : Str -> Addr} {X : Cx} {st : Stmt} {e a b : Expr} {es : List Expr} {pos pos' p : Pos}
theorem DE.dx {f : List Sl -> Option D} (h : DE c X e f) : DX c X e (mX f) := PE.imp h fun σ H Q q_ => by
  obtain ⟨Hf0, H0, Hf, ρ, d, ρ', st, ef, k⟩ := q_
  obtain ⟨e1, rfl⟩ := zps ef
  exact ⟨Hf0, H0, Hf, _, d, st, e1, fun v Hf' H' x r => k v Hf' H' x.f (st.step x) r⟩
theorem zm7 {op : Operator} {m : D -> D -> Option D} {f g : Xe} (ho : OpD c X (binaryOp op) m) (ha : DX c X a f) (hb : DX c X b g) : DX c X (.BinOp a op b pos) (mX2 m f g) := PE.imp (zkq ho ha hb) fun σ H Q q_ => by
  obtain ⟨Hf0, H0, Hf, ρ, d, ρ', st, ef, k⟩ := q_
  obtain ⟨x, y, ρ1, e1, e2, e3⟩ := zkc ef
  exact ⟨Hf0, H0, Hf, ρ, x, ρ1, st, e1, fun v Hf1 H1 f1 st1 r1 => ⟨Hf0, H0, Hf1, ρ1, y, ρ', st1, e2, fun u Hf2 H2 f2 st2 r2 => ⟨Hf2, x, y, d, st2.sub, r1.up f2, r2, e3, fun w Hf3 H3 x3 r3 => k w Hf3 H3 ((f1.trans f2).trans x3.f) (st2.step x3) r3⟩⟩⟩
theorem zc2 : DAX c X [] zbw := ⟨PA.imp zcs fun σ H Q ⟨Hf0, H0, Hf, ρ, ds, ρ', st, ef, k⟩ => by cases ef; exact k [] Hf H (zac.refl _) st rfl, fun ρ ds ρ' h => by cases h; rfl⟩
theorem zeh {f : Xe} {g : Xa} (ha : DX c X e f) (hr : DAX c X es g) (hs : starEach (e :: es) X.env = (false, eval e X.env) :: starEach es X.env := by rfl) : DAX c X (e :: es) (zbi f g) := by
  refine ⟨PA.imp (zb7 ha hr.pa hs) fun σ H Q ⟨Hf0, H0, Hf, ρ, ds, ρ', st, ef, k⟩ => ?_, fun ρ ds ρ' h => ?_⟩
  · obtain ⟨d, r, ρ1, e1, e2, rfl⟩ := zkv ef
    exact ⟨Hf0, H0, Hf, ρ, d, ρ1, st, e1, fun v Hf1 H1 f1 st1 r1 => ⟨Hf0, H0, Hf1, ρ1, r, ρ', st1, e2, fun vs Hf2 H2 f2 st2 r2 => k _ Hf2 H2 (f1.trans f2) st2 (.cons (r1.up f2) r2)⟩⟩
  · obtain ⟨d, r, ρ1, e1, e2, rfl⟩ := zkv h
    simp [hr.len ρ1 r ρ' e2]
end
noncomputable def tMX (G : Gc) (i : Nat) (f : Xa) : TA := fun σ H Q => ∃ Hf0 H0 Hf ρ ds ρ' l, zab G Hf0 H0 Hf H σ ρ /\ σ[i]? = some (some (.ref l)) /\ f ρ = some (ds, ρ') /\ ∀ vs Hf' H', zac Hf Hf' -> zab G Hf0 H0 Hf' H' σ ρ' -> zaa G Hf' ds vs -> Q (.ref l :: vs) H'
structure DMX (c : Str -> Addr) (X : Cx) (es : List Expr) (i : Nat) (f : Xa) : Prop where
  pa : PA X es (tMX (Gx c X) i f)
  len : ∀ ρ ds ρ', f ρ = some (ds, ρ') -> ds.length + 1 = es.length
noncomputable def zb3 (i : Nat) (m : Addr -> List D -> List D -> List D -> Option (List D × D)) (f : Xa) : Xe := fun ρ => match ρ[i]? with
  | some (.pin _ _) => (f ρ).bind fun p => match p.2[i]? with
    | some (.pin l xs) => (m l [] p.1 xs).map fun q => (q.2, p.2.set i (.pin l q.1))
    | _ => none
  | _ => none
open Classical in
noncomputable def zde (i : Nat) (m : Addr -> List D -> List D -> List D -> Option (List D × D)) (f : Xa) : Xe := fun ρ => match ρ[i]? with
  | some (.own _) => (f ρ).bind fun p => match p.2[i]? with
    | some (.own xs) => if h : ∃ q, ∀ l, m l [] p.1 xs = some q then some (h.choose.2, p.2.set i (.own h.choose.1)) else none
    | _ => none
  | _ => none
section
variable {c : Str -> Addr} {X : Cx} {k : Nat} {f : Addr} {fd : FuncData} {ps : List Str} {x : Str} {p pos pos' : Pos} {e : Expr} {es : List Expr} {fa : Xa} {i : Nat}
theorem zdn (i : Nat) {x : Str} {g : Xa} (hr : DAX c X es g) (hN : X.N[i]? = some x := by rfl) (hv : Vis X.env.scope x := by first | exact Or.inl rfl | exact Or.inr (Or.inl rfl) | exact Or.inr (Or.inr rfl)) (hd : (x == ("__debug__" : Str)) = false := by decide)
    (hcd : (x == ("__classdict__" : Str)) = false := by decide) (hs : starEach (.Name x pos :: es) X.env = (false, eval (.Name x pos) X.env) :: starEach es X.env := by rfl) : DMX c X (.Name x pos :: es) i g :=
  ⟨PA.imp (zb7 (zc1 hN hv hd hcd) hr.pa hs) fun σ H Q ⟨Hf0, H0, Hf, ρ, ds, ρ', l, st, el, ef, k⟩ => ⟨_, el, Hf0, H0, Hf, ρ, ds, ρ', st, ef, fun vs Hf' H' f1 st1 r => k vs Hf' H' f1 st1 r⟩, fun ρ ds ρ' h => by
    rw [List.length_cons, hr.len ρ ds ρ' h]⟩
theorem zfj {m : Addr -> List D -> List D -> List D -> Option (List D × D)} (F : zak X.prog X.w X.K X.mg X.base CX0 k f fd ps (spM (Gx c X) 0 ps.length m)) (hr : zai k X.A) (hg : Gl X x) (hm : X.mg x = some (.ref f)) (hk : PySem.W.keepIn X.K (.ref f) = true) (hb : za3 X.K fd ps []) (ha : DMX c X (e :: es) i fa)
    (hl : (e :: es).length = ps.length := by rfl) (hdb : (x == ("__debug__" : Str)) = false := by decide) (he : starEach (e :: es) X.env = (false, eval e X.env) :: starEach es X.env := by rfl) (hpl : (backTo pos (starEach es X.env)).any (·.1) = false := by rfl) :
    DX c X (.Call (.Name x p) (e :: es) [] pos) (zb3 i m fa) := PE.imp (zes F hr hg hm hk hb .nil zep ha.pa hdb he hpl) fun σ H Q q_ => by
  obtain ⟨Hf0, H0, Hf, ρ, d, ρ', st, ef, kq⟩ := q_
  unfold zb3 at ef
  split at ef
  · rename_i l0 xs0 eo0
    cases e1 : fa ρ with
    | none => rw [e1] at ef; cases ef
    | some pp =>
      obtain ⟨ds, ρ1⟩ := pp
      rw [e1, Option.bind_some] at ef
      dsimp only at ef
      split at ef
      · rename_i l xs eo
        cases e2 : m l [] ds xs with
        | none => rw [e2] at ef; cases ef
        | some q =>
          rw [e2] at ef
          cases ef
          obtain ⟨l1, el, _, _, _, _, _, _⟩ := st.ownAt (s := .pin l0 xs0) rfl eo0
          refine ⟨Hf0, H0, Hf, ρ, ds, ρ1, l1, st, el, e1, fun vs Hf' H' f1 st1 r => ?_⟩
          dsimp only
          rw [List.append_nil]
          obtain ⟨l2, el2, h02, hf2, eq2, us2, hu2, rx2⟩ := st1.ownAt (s := .pin l xs) rfl eo
          subst eq2
          rw [el] at el2
          cases el2
          have hn : 0 + 1 + ds.length = ps.length := by
            have := (ha.len ρ ds _ e1).trans hl
            omega
          exact ⟨Hf', [], ds, xs, q.1, q.2, l1, us2, [], vs, rfl, st1.sub, hf2, hu2, rfl, r, rx2, rfl, hn, e2, fun v Hf3 H3 us3 x3 hf3 hu3 rx3 r3 => kq v Hf3 H3 (f1.trans x3.f) (st1.back (s := .pin l1 xs) (s' := .pin l1 q.1) rfl rfl eo el x3 hf3 ⟨rfl, us3, hu3, rx3⟩) r3⟩
      · cases ef
  · cases ef
theorem zjm {m : Addr -> List D -> List D -> List D -> Option (List D × D)} (F : zak X.prog X.w X.K X.mg X.base CX0 k f fd ps (spM (Gx c X) 0 ps.length m)) (hr : zai k X.A) (hg : Gl X x) (hm : X.mg x = some (.ref f)) (hk : PySem.W.keepIn X.K (.ref f) = true) (hb : za3 X.K fd ps []) (ha : DMX c X (e :: es) i fa)
    (hl : (e :: es).length = ps.length := by rfl) (hdb : (x == ("__debug__" : Str)) = false := by decide) (he : starEach (e :: es) X.env = (false, eval e X.env) :: starEach es X.env := by rfl) (hpl : (backTo pos (starEach es X.env)).any (·.1) = false := by rfl) :
    DX c X (.Call (.Name x p) (e :: es) [] pos) (zde i m fa) := PE.imp (zes F hr hg hm hk hb .nil zep ha.pa hdb he hpl) fun σ H Q q_ => by
  obtain ⟨Hf0, H0, Hf, ρ, d, ρ', st, ef, kq⟩ := q_
  unfold zde at ef
  split at ef
  · rename_i xs0 eo0
    cases e1 : fa ρ with
    | none => rw [e1] at ef; cases ef
    | some pp =>
      obtain ⟨ds, ρ1⟩ := pp
      rw [e1, Option.bind_some] at ef
      dsimp only at ef
      split at ef
      · rename_i xs eo
        split at ef
        · rename_i hq
          have e2 := hq.choose_spec
          generalize hq.choose = q at ef e2
          cases ef
          obtain ⟨l1, el, _, _, _, _, _⟩ := st.ownAt (s := .own xs0) rfl eo0
          refine ⟨Hf0, H0, Hf, ρ, ds, ρ1, l1, st, el, e1, fun vs Hf' H' f1 st1 r => ?_⟩
          dsimp only
          rw [List.append_nil]
          obtain ⟨l2, el2, h02, hf2, us2, hu2, rx2⟩ := st1.ownAt (s := .own xs) rfl eo
          rw [el] at el2
          cases el2
          have hn : 0 + 1 + ds.length = ps.length := by
            have := (ha.len ρ ds _ e1).trans hl
            omega
          exact ⟨Hf', [], ds, xs, q.1, q.2, l1, us2, [], vs, rfl, st1.sub, hf2, hu2, rfl, r, rx2, rfl, hn, e2 l1, fun v Hf3 H3 us3 x3 hf3 hu3 rx3 r3 => kq v Hf3 H3 (f1.trans x3.f) (st1.back (s := .own xs) (s' := .own q.1) rfl rfl eo el x3 hf3 ⟨us3, hu3, rx3⟩) r3⟩
        · cases ef
      · cases ef
  · cases ef
end
noncomputable def zdd (i : Nat) (f : Xe) (ρ : List Sl) : Option Fl := (f ρ).map fun p => .nx (p.2.set i (.im p.1))
noncomputable def zd8 (f : Xe) (ρ : List Sl) : Option Fl := (f ρ).map fun p => .rtS p.1 p.2
noncomputable def zgk : D -> D -> Option D
  | .int i, .int j => some (.int (i + j))
  | .str a, .str b => if a.length + b.length <= 16777216 then some (.str (a ++ b)) else none
  | _, _ => none
noncomputable def zcw (i : Nat) (f : Xe) (ρ : List Sl) : Option Fl := match ρ[i]? with
  | some (.im x) => (f ρ).bind fun p => (zgk x p.1).map fun z => .nx (p.2.set i (.im z))
  | _ => none
section
variable {c : Str -> Addr} {X : Cx} {st : Stmt} {e a b : Expr} {pos pos' p : Pos} {as bs : List Stmt} {F F' : List Sl -> Option Fl}
theorem zh8 (i : Nat) {x : Str} {f : Xe} {pos' : Pos} (hN : X.N.Nodup) (he : DX c X e f) (hi : X.N[i]? = some x := by rfl) (hx : Loc X.env.scope x := by first | exact Or.inl rfl | exact Or.inr rfl) (hs : swapsWith e (some (.Name x pos')) pos.line X.env = pure false := by rfl) (hf : X.fn x = true \/ X.env.scope.names.lookup x = some .local := by first | exact .inl rfl | exact .inr rfl) :
    DS c X (.Assign [.Name x pos'] e pos) (zdd i f) := PS.imp (zg1 hN hi hx he hs hf) fun E σ H q_ => by
  obtain ⟨Hf0, H0, Hf, ρ, o, so, ef, k⟩ := q_
  unfold zdd at ef
  cases e1 : f ρ with
  | none => rw [e1] at ef; cases ef
  | some p =>
    rw [e1] at ef
    cases ef
    exact ⟨Hf0, H0, Hf, ρ, p.1, p.2, so, e1, fun v Hf' H' s so' r => k _ Hf' H' s (so'.setIm r)⟩
theorem zsi {f : Xe} (he : DX c X e f) : DS c X (.Return (some e) pos) (zd8 f) := PS.imp (zgj he) fun E σ H q_ => by
  obtain ⟨Hf0, H0, Hf, ρ, o, so, ef, k⟩ := q_
  unfold zd8 at ef
  cases e1 : f ρ with
  | none => rw [e1] at ef; cases ef
  | some p =>
    rw [e1] at ef
    cases ef
    exact ⟨Hf0, H0, Hf, ρ, p.1, p.2, so, e1, fun v Hf' H' s so' r => k v σ Hf' H' so' r⟩
theorem zmp : PIp X .Add (rD (Gx c X) zgk) := fun pins s σ H x y v u Q I rx ry ⟨Hf, dx, dy, d, s0, r1, r2, e, k⟩ => by
  cases dx <;> cases dy <;> first | (cases e; done) | skip
  · cases r1
    cases r2
    cases e
    exact ztg pins s σ H _ _ v u Q I rx ry ⟨_, _, rfl, rfl, k _ Hf H (Ext.refl s0) rfl⟩
  · cases r1
    cases r2
    replace e : (if _ then some (D.str _) else none) = some d := e
    split at e
    · rename_i hl
      cases e
      exact zsl pins s σ H _ _ v u Q I rx ry ⟨_, _, rfl, rfl, by rw [sizeLine_eq]; exact hl, k _ Hf H (Ext.refl s0) rfl⟩
    · cases e
theorem zhe (i : Nat) {x : Str} {f : Xe} {pos' : Pos} (hN : X.N.Nodup) (he : DX c X e f) (hi : X.N[i]? = some x := by rfl) (hx : Loc X.env.scope x := by first | exact Or.inl rfl | exact Or.inr rfl) (hf : X.fn x = true \/ X.env.scope.names.lookup x = some .local := by first | exact .inl rfl | exact .inr rfl) :
    DS c X (.AugAssign (.Name x pos') .Add e pos) (zcw i f) := PS.imp (zpv hN hi hx he (zmp (c := c)) hf) fun E σ H q_ => by
  obtain ⟨Hf0, H0, Hf, ρ, o, so, ef, k⟩ := q_
  unfold zcw at ef
  split at ef
  · rename_i d es
    cases e1 : f ρ with
    | none => rw [e1] at ef; cases ef
    | some p =>
      rw [e1, Option.bind_some] at ef
      cases e2 : zgk d p.1 with
      | none => rw [e2] at ef; cases ef
      | some z =>
        rw [e2] at ef
        cases ef
        obtain ⟨v, ev, w, ew, rw'⟩ := so.slot es
        cases ew
        exact ⟨_, ev, Hf0, H0, Hf, ρ, p.1, p.2, so, e1, fun u Hf' H' s so' r => ⟨Hf', d, p.1, z, so'.sub, rw'.up s, r, e2, fun y Hf2 H2 x2 r2 => k _ Hf2 H2 (s.trans x2.f) ((so'.step x2).setIm r2)⟩⟩
  · cases ef
end
noncomputable def zc5 : D -> D -> Option D
  | .str z, .int i => if 0 <= i /\ i < 2 ^ 63 /\ i < (z.length : Int) then (z.cps[i.toNat]?).map fun ch => .str ⟨#[ch]⟩ else none
  | _, _ => none
noncomputable def zdz (f : Xa) : Xa := fun ρ => (f ρ).bind fun p => (zf9 p.1).map fun ds => (ds, p.2)
section
variable {c : Str -> Addr} {X : Cx} {e a b tg : Expr} {pos p : Pos}
theorem zjc {x y d : D} (h : zc5 x y = some d) : ∃ z i ch, x = .str z /\ y = .int i /\ 0 <= i /\ i < 2 ^ 63 /\ i < (z.length : Int) /\ z.cps[i.toNat]? = some ch /\ d = .str ⟨#[ch]⟩ := by
  unfold zc5 at h
  split at h
  · rename_i z i
    split at h
    · rename_i hc
      cases e : z.cps[i.toNat]? with
      | none => rw [e] at h; cases h
      | some ch => rw [e] at h; cases h; exact ⟨z, i, ch, rfl, rfl, hc.1, hc.2.1, hc.2.2, e, rfl⟩
    · cases h
  · cases h
theorem zmz {f g : List Sl -> Option D} (ha : DE c X a f) (hb : DE c X b g) (hs : zg8 b := by exact fun _ _ => rfl) : DE c X (.Subscript a b pos) (m2 zc5 f g) := PE.imp (zjz ha hb hs) fun σ H Q q_ => two (m := zc5) (fun vx vy H Q q => by
  obtain ⟨Hf, x, y, d, s0, r1, r2, e, k⟩ := q
  obtain ⟨z, i, ch, rfl, rfl, h0, h1, h2, h3, rfl⟩ := zjc e
  exact ⟨z, i, ch, r1, r2, h0, h1, h2, h3, k _ Hf H (Ext.refl s0) rfl⟩) q_
theorem zrt {f g : Xe} (ha : DX c X a f) (hb : DX c X b g) (hs : zg8 b := by exact fun _ _ => rfl) : DX c X (.Subscript a b pos) (mX2 zc5 f g) := PE.imp (zjz ha hb hs) fun σ H Q q_ => by
  obtain ⟨Hf0, H0, Hf, ρ, d, ρ', st, ef, k⟩ := q_
  obtain ⟨x, y, ρ1, e1, e2, e3⟩ := zkc ef
  obtain ⟨z, i, ch, rfl, rfl, h0, h1, h2, h3, rfl⟩ := zjc e3
  exact ⟨Hf0, H0, Hf, ρ, _, ρ1, st, e1, fun v Hf1 H1 f1 st1 r1 => ⟨Hf0, H0, Hf1, ρ1, _, ρ', st1, e2, fun u Hf2 H2 f2 st2 r2 => ⟨z, i, ch, r1, r2, h0, h1, h2, h3, k _ Hf2 H2 (f1.trans f2) st2 rfl⟩⟩⟩
theorem zpo {f : Xa} (hg : Gl X "range") (hm : X.mg "range" = none) (ha : DAX c X [a] f) (hs : starEach [a] X.env = [(false, eval a X.env)] := by rfl) : DXi c X tg (.Call (.Name "range" p) [a] [] pos) (zdz f) :=
  PI.imp (zsv hg hm ha.pa hs) fun σ H R q_ => by
    obtain ⟨Hf0, H0, Hf, ρ, ds, ρ', st, ef, k⟩ := q_
    unfold zdz at ef
    cases e1 : f ρ with
    | none => rw [e1] at ef; cases ef
    | some q =>
      obtain ⟨as, ρ1⟩ := q
      rw [e1, Option.bind_some] at ef
      dsimp only at ef
      cases e2 : zf9 as with
      | none => rw [e2] at ef; cases ef
      | some ds' =>
        rw [e2] at ef
        cases ef
        have hl := ha.len ρ as _ e1
        refine ⟨Hf0, H0, Hf, ρ, as, _, st, e1, fun vs Hf' H' s1 st1 r => ?_⟩
        unfold zf9 at e2
        split at e2
        · split at e2
          · rename_i j hj
            cases e2
            obtain ⟨v, ev, rv⟩ := r.one
            cases (show v = V.int j from rv)
            exact ⟨j, ev, hj.1, hj.2, k _ Hf' H' s1 st1 zs4⟩
          · cases e2
        · cases hl
        · cases e2
end
end L2
namespace L2
open PySem PySem.Spec PyProof.Rows
section
variable {X : Cx} {s : Shared} {H : Hp} {σ : St} {pins : List (Addr × Obj)}
theorem zia {M : Model} {A : Around} {E : Value -> Shared -> Prop} {i : Nat} {x : Str} {v : V} {u : Value} {Q : Unit -> Shared -> Prop} (J : Inv X pins σ H s) (nd : X.N.Nodup) (ix : X.N[i]? = some x) (lc : X.env.scope.names.lookup x = some .local) (rv : zae v u)
    (h : ∀ z, Inv X pins (σ.set i (some v)) H z -> z.toks = s.toks + 1 -> (∃ m, z.heap.Ns X.env.locals m /\ m x = some u) -> Q () z) : wpAny M A (storeName X.env x u) Q E s := by
  obtain ⟨m, mn, ml⟩ := id J.loc
  have calm : (X.env.scope.kind == .class || (X.env.scope.kind == .module && X.env.locals != X.env.globals)) = false := by rw [J.ok.kind]; rfl
  have below : i < σ.length := by rw [J.len]; exact (List.getElem?_eq_some_iff.mp ix).1
  refine wpAny_storeName_local lc mn (fun g gn gs => ?_) calm
  have far : ∀ {b : Addr} {o : Obj}, X.s₀.heap.get? b = some o -> g.get? b = s.heap.get? b := fun {b o} e => gs.2 b (Nat.ne_of_lt (Nat.lt_of_lt_of_le (Heap.lt_size e) J.ok.above))
  have tr : HOk X.prog X.w H g := fun b ob e => by
    refine (J.hok b ob e).stay (fun c w' hc q => (gs.2 c ?_).trans q) (fun _ q => q) fun _ _ q => q
    rintro rfl
    rcases hc with rfl | hc
    · rw [J.free] at e; cases e
    · rw [J.free] at hc; cases hc
  refine h _ ⟨J.ok, J.os, J.bare, ⟨fun b o e n hb hx => (far e).trans (J.base.keep b o e n hb hx), fun b o e n hb hx => ?_, J.base.free, fun b o e hx => ?_, J.base.tups, J.base.frzs, J.base.tbls⟩, ⟨_, gn, fun j y w' e1 e2 e3 => ?_⟩, fun y c e => ?_, J.free, J.freeC, fun p hp => ?_, tr, by simpa using J.len⟩ rfl ⟨_, gn, by simp⟩
  · obtain ⟨sl, q⟩ := J.base.slot b o e n hb hx
    exact ⟨sl, (far e).trans q⟩
  · obtain ⟨o', q⟩ := J.base.there b o e hx
    exact ⟨o', (far e).trans q⟩
  · by_cases same : j = i
    · subst same
      rw [ix] at e1
      cases e1
      rw [List.getElem?_set_self below] at e2
      cases e2
      exact ⟨u, rv, .inl ⟨lc, by simp⟩⟩
    · rw [List.getElem?_set_ne (Ne.symm same)] at e2
      obtain ⟨u', r', q⟩ := ml j y w' e1 e2 e3
      refine ⟨u', r', ?_⟩
      rcases q with ⟨kd, ez⟩ | ⟨kd, c, ez, z⟩
      · refine .inl ⟨kd, ?_⟩
        have other : y ≠ x := fun e => same (zif nd e1 (e ▸ ix))
        simp [other, ez]
      · exact .inr ⟨kd, c, ez, z.sameBut gs (J.cne y c ez)⟩
  · obtain ⟨w', z⟩ := J.cell y c e
    exact ⟨w', z.sameBut gs (J.cne y c e)⟩
  · obtain ⟨e, n, ne, nf, d⟩ := J.pin p hp
    exact ⟨(gs.2 p.1 ne).trans e, n, ne, nf, d⟩
end
noncomputable def zd7 (ch : Nat) : Str := Str.empty ++ (" " : Str) ++ ⟨#[ch]⟩ ++ (" " : Str)
noncomputable def zao (z : Str) (ch : Nat) : Str := Txt.replace z ⟨#[ch]⟩ (zd7 ch)
noncomputable def zd9 (z : Str) (cs : List Nat) : Bool := (List.range cs.length).all fun k => decide (4 * ((cs.take k).foldl zao z).length + 3 <= 16777216)
section
variable {X : Cx} {pins : List (Addr × Obj)} {σ : St} {H : Hp} {s : Shared} {i j : Nat} {x y g : Str} {gx z : Str} {t0 : Tok} {D : zcg} {py pg px p1 p2 p3 p4 p5 p6 p7 p8 p9 p10 pf : Pos} {k1 k2 : Nat}
noncomputable abbrev ze8 (x y : Str) (p1 p2 p3 p4 p5 p6 p7 p8 p9 : Pos) (k1 k2 : Nat) : Expr := .Call (.Attribute (.Name x p1) "replace" p2) [.Name y p3, .JoinedStr [.Constant (.str " ") k1 p4, .FormattedValue (.Name y p5) (-1) none p6, .Constant (.str " ") k2 p7] p8] [] p9
theorem zm4 {ch : Nat} {u : Tok} {m : Str -> Option Value} {Q : Value -> Shared -> Prop} {E : Value -> Shared -> Prop} (I : Inv X pins σ H s) (hi : X.N[i]? = some x) (lx : X.env.scope.names.lookup x = some .local) (ly : X.env.scope.names.lookup y = some .local)
    (hz : σ[i]? = some (some (.str z))) (hn : s.heap.Ns X.env.locals m) (hy : m y = some (.str ⟨#[ch]⟩ u)) (u0 : u ≠ 0) (ub : u < s.toks) (sz : 4 * z.length + 3 <= 16777216)
    (q : ∀ t' tk, s.toks <= tk -> Q (.str (zao z ch) t') { s with toks := tk })
    (dx : (x == ("__debug__" : Str)) = false := by decide) (dy : (y == ("__debug__" : Str)) = false := by decide)
    (hbase : attributeBase (.Name x p1) "replace" X.env (eval (.Name x p1) X.env) = eval (.Name x p1) X.env := by rfl)
    (hfew : ((backTo p9 (starEach [.Name y p3, .JoinedStr [.Constant (.str " ") k1 p4, .FormattedValue (.Name y p5) (-1) none p6, .Constant (.str " ") k2 p7] p8] X.env)).all (fun x => !x.1) && (backToKw p9 (keywordEach [] X.env)).all (fun x => x.1.isSome)
      && decide (([.Name y p3, .JoinedStr [.Constant (.str " ") k1 p4, .FormattedValue (.Name y p5) (-1) none p6, .Constant (.str " ") k2 p7] p8] : List Expr).length + ([] : List Keyword).length + (if ([] : List Keyword).isEmpty then 0 else 1) < 30)) = true := by rfl)
    (hline : (p2.endLine == p9.line) = true := by rfl) : wpAny (model X.prog X.w) X.A (eval (ze8 x y p1 p2 p3 p4 p5 p6 p7 p8 p9 k1 k2) X.env) Q E s := by
  obtain ⟨m', mn, ml⟩ := id I.loc
  obtain ⟨w, rw', l⟩ := ml i x _ hi hz (.inl lx)
  obtain ⟨tz, rfl⟩ := rw'
  have hx : m' x = some (.str z tz) := by
    rcases l with ⟨_, h⟩ | ⟨hk, _⟩
    · exact h
    · rcases hk with hk | hk <;> (rw [show X.env.kindOf x = some .local from lx] at hk; cases hk)
  refine wpAny_Call_method_late hbase hfew hline rfl (wpAny_Name (wpAny_loadName_local I.ok.kind lx mn hx ?_) dx)
  refine ⟨"str", "str.replace", F.plainAttrs_str, F.slot_str_replace, F.type_str_replace, typeIs_str _ _ _, (fun _ e => by cases e), ?_⟩
  refine Calls.callWith_builtin rfl (Calls.evalArgs_plain ?_)
  refine Calls.spliced_cons (wpAny_Name (wpAny_loadName_local I.ok.kind ly hn hy ?_) dy)
  show wpAny _ _ (spliced [(false, eval (.JoinedStr [.Constant (.str " ") k1 p4, .FormattedValue (.Name y p5) (-1) none p6, .Constant (.str " ") k2 p7] p8) X.env)]) _ _ s
  refine Calls.spliced_cons ?_
  have lit : ∀ {w : Str} {kk : Nat} {pp : Pos} {s1 : Shared} {R : Value -> Shared -> Prop}, R (.str w s1.toks) { s1 with toks := s1.toks + 1 } -> wpAny (model X.prog X.w) X.A (eval (.Constant (.str w) kk pp) X.env) R E s1 := fun h => Calls.Constant_str h
  have fin : ∀ (tk : Nat), s.toks <= tk -> wpAny (model X.prog X.w) X.A (joinParts (Str.empty ++ (" " : Str) ++ ⟨#[ch]⟩) [eval (.Constant (.str " ") k2 p7) X.env]) (fun v s₁ => wpAny (model X.prog X.w) X.A (call (.builtin "str.replace") [.str z tz, .str ⟨#[ch]⟩ u, v]) Q E s₁) E { s with toks := tk } := fun tk ht => by
    refine joinParts_cons (lit ⟨by show 3 <= sizeLine; decide, ?_⟩)
    refine joinParts_nil ?_ (by show 3 <= sizeLine; decide)
    refine wpAny_mono (wpAny_toks_of (n := s.toks) (Nat.le_succ_of_le (Nat.le_succ_of_le ht)) (SC.replace (Q := fun v s' => ∃ t', v = .str (zao z ch) t' /\ ∃ k, s' = { s with toks := k }) u0 ?_ ?_ ?_ ?_ fun t2 k => ⟨t2, rfl, k, rfl⟩)) (fun v s1 ⟨hb, t', e1, k, e2⟩ => by subst e1 e2; exact q t' k hb) fun _ _ e => e.2
    · show tk + 1 ≠ 0; omega
    · exact Nat.ne_of_lt (Nat.lt_succ_of_lt (Nat.lt_of_lt_of_le ub ht))
    · cases e : ((⟨#[ch]⟩ : Str) == Str.empty ++ (" " : Str) ++ ⟨#[ch]⟩ ++ (" " : Str)) with
      | false => rfl
      | true => exact absurd (congrArg Str.length (eq_of_beq e)) (by show ¬ 1 = 3; decide)
    · show z.length + (z.length + 1) * 3 <= _; omega
  refine JoinedStr_many (joinParts_cons (lit ⟨by show 1 <= sizeLine; decide, ?_⟩))
  refine joinParts_cons (FormattedValue_plain (wpAny_Name (wpAny_loadName_local I.ok.kind ly hn hy ?_) dy))
  have more : ∀ (tk : Nat), s.toks <= tk -> (Str.empty ++ (" " : Str) ++ (⟨#[ch]⟩ : Str)).length <= sizeLine /\ wpAny (model X.prog X.w) X.A (joinParts (Str.empty ++ (" " : Str) ++ ⟨#[ch]⟩) [eval (.Constant (.str " ") k2 p7) X.env]) (fun u' s₁ => wpAny (model X.prog X.w) X.A (spliced []) (fun us s' => wpAny (model X.prog X.w) X.A (call (.builtin "str.replace") ([.str z tz] ++ .str ⟨#[ch]⟩ u :: u' :: us)) Q E s') E s₁) E { s with toks := tk } := fun tk ht => ⟨by show 2 <= sizeLine; decide, thn (fin tk ht) fun v s1 h1 => Calls.spliced_nil h1⟩
  exact wpAny_formatField_str (more _ (Nat.le_succ _)) (more _ (Nat.le_succ_of_le (Nat.le_succ _))) (by show 1 <= sizeLine; decide)
noncomputable abbrev zme (x y g : Str) (py pg px p1 p2 p3 p4 p5 p6 p7 p8 p9 p10 pf : Pos) (k1 k2 : Nat) : Stmt := .For (.Name y py) (.Name g pg) [.Assign [.Name x px] (ze8 x y p1 p2 p3 p4 p5 p6 p7 p8 p9 k1 k2) p10] [] pf
theorem zqu (hp : PassesOwn (model X.prog X.w) X.A X.env X.xe) (hc : X.calm = true) (nd : X.N.Nodup) (hi : X.N[i]? = some x) (hj : X.N[j]? = some y) (hij : i ≠ j) (lx : X.env.scope.names.lookup x = some .local) (ly : X.env.scope.names.lookup y = some .local)
    (hg : Gl X g) (hm : X.mg g = some (.str gx t0)) (as : gx.cps.all (· < 128) = true) (I : Inv X pins σ H s) (tk : 1 <= s.toks) (hz : σ[i]? = some (some (.str z))) (sz : zd9 z gx.cps.toList = true) (hj' : j < σ.length) (ch0 : Nat) (hne : gx.cps.toList.getLast? = some ch0)
    (q : D.nx ((σ.set i (some (.str (gx.cps.toList.foldl zao z)))).set j (some (.str ⟨#[ch0]⟩))) H)
    (dx : (x == ("__debug__" : Str)) = false := by decide) (dy : (y == ("__debug__" : Str)) = false := by decide) (dg : (g == ("__debug__" : Str)) = false := by decide)
    (hbase : attributeBase (.Name x p1) "replace" X.env (eval (.Name x p1) X.env) = eval (.Name x p1) X.env := by rfl)
    (hfew : ((backTo p9 (starEach [.Name y p3, .JoinedStr [.Constant (.str " ") k1 p4, .FormattedValue (.Name y p5) (-1) none p6, .Constant (.str " ") k2 p7] p8] X.env)).all (fun x => !x.1) && (backToKw p9 (keywordEach [] X.env)).all (fun x => x.1.isSome)
      && decide (([.Name y p3, .JoinedStr [.Constant (.str " ") k1 p4, .FormattedValue (.Name y p5) (-1) none p6, .Constant (.str " ") k2 p7] p8] : List Expr).length + ([] : List Keyword).length + (if ([] : List Keyword).isEmpty then 0 else 1) < 30)) = true := by rfl)
    (hline : (p2.endLine == p9.line) = true := by rfl) (hsw : swapsWith (ze8 x y p1 p2 p3 p4 p5 p6 p7 p8 p9 k1 k2) (some (.Name x px)) p10.line X.env = pure false := by rfl) (hs : ∀ v, foldedSetIterable (.Name g pg) X.env v = pure v := by intro _; rfl) :
    wpAny (model X.prog X.w) X.A (exec (zme x y g py pg px p1 p2 p3 p4 p5 p6 p7 p8 p9 p10 pf k1 k2) X.env) (SP X pins D) X.xe s := by
  refine wpAny_For (zky I hg hm (wpAny_pyIter_ascii as ?_) dg) hs
  generalize hL : gx.cps.toList = L at sz hne q
  have hgx : ∀ k, gx.cps[k]? = L[k]? := fun k => by rw [<- hL, Array.getElem?_toList]
  generalize hit : s.heap.objs.size = it
  have I2 : Inv X pins σ H { s with heap := s.heap.push { cls := .type "str_ascii_iterator", data := .fields #[.str gx t0, .int 0 0] } } := I.kept (t' := s.toks) fun b o e => Heap.get?_push_of_some _ e
  have fp : zbp X pins H it := by rw [<- hit]; exact I.fpOk (Nat.le_refl _) (I.hok.fresh (Nat.le_refl _))
  have st2 : (s.heap.push { cls := .type "str_ascii_iterator", data := .fields #[.str gx t0, .int 0 0] }).IsStrIter it "str_ascii_iterator" gx t0 0 := by rw [<- hit]; exact ⟨_, Heap.get?_push_size _ rfl, rfl, rfl⟩
  have szk : ∀ k, k < L.length -> 4 * ((L.take k).foldl zao z).length + 3 <= 16777216 := fun k hk => of_decide_eq_true (List.all_eq_true.mp sz k (List.mem_range.mpr hk))
  let At : Nat -> St := fun k => match k with
    | 0 => σ
    | k + 1 => (σ.set i (some (.str ((L.take (k + 1)).foldl zao z)))).set j (some (.str ⟨#[L.getD k 0]⟩))
  have hi' : i < σ.length := (List.getElem?_eq_some_iff.mp hz).1
  have hAt : ∀ k, k <= L.length -> (At k)[i]? = some (some (.str ((L.take k).foldl zao z))) := fun k hk => by
    cases k with
    | zero => exact hz
    | succ k => show ((σ.set i _).set j _)[i]? = _; rw [List.getElem?_set_ne (Ne.symm hij), List.getElem?_set_self hi']
  have hNx : ∀ k ch, L[k]? = some ch -> ((At k).set j (some (.str ⟨#[ch]⟩))).set i (some (.str (zao ((L.take k).foldl zao z) ch))) = At (k + 1) := fun k ch e => by
    have e1 : (L.take (k + 1)).foldl zao z = zao ((L.take k).foldl zao z) ch := by rw [List.take_add_one, e, List.foldl_append]; rfl
    have e2 : L.getD k 0 = ch := by rw [List.getD_eq_getElem?_getD, e]; rfl
    show _ = (σ.set i (some (.str ((L.take (k + 1)).foldl zao z)))).set j (some (.str ⟨#[L.getD k 0]⟩))
    rw [e1, e2]
    cases k with
    | zero => exact (List.set_comm _ _ hij).symm
    | succ k =>
      show ((((σ.set i _).set j _).set j _).set i _) = _
      rw [List.set_set, List.set_comm _ _ (Ne.symm hij), List.set_set]
  refine codeAny_forLoop_any (fun n s' => ∃ k, k <= L.length /\ n = L.length - k /\ Inv X pins (At k) H s' /\ s'.heap.IsStrIter it "str_ascii_iterator" gx t0 k /\ 1 <= s'.toks) ?_ L.length ⟨0, Nat.zero_le _, rfl, I2, st2, tk⟩
  rintro n s3 ⟨k, hk, rfl, I3, st3, tk3⟩
  obtain ⟨f0, f1, f2, f3, f4, f5⟩ := fp
  cases e : L[k]? with
  | none =>
    have hkl : k = L.length := Nat.le_antisymm hk (List.getElem?_eq_none_iff.mp e)
    refine wpAny_pyNext_ascii_end (I.ok.hd hc) st3 ((hgx k).trans e) fun h' eb => ?_
    refine wpAny_execs_nil ⟨_, H, I3.turned (t' := s3.toks) (fun b o hb e => eb b o hb e) f0 f1 f3 f4 f5, ?_⟩
    subst hkl
    cases L with
    | nil => cases hne
    | cons a L =>
      show D.nx ((σ.set i (some (.str (((a :: L).take (L.length + 1)).foldl zao z)))).set j (some (.str ⟨#[(a :: L).getD L.length 0]⟩))) H
      have e1 : (a :: L).getD L.length 0 = ch0 := by
        rw [List.getLast?_eq_getElem?] at hne
        exact (List.getD_eq_getElem?_getD).trans (congrArg (fun o => Option.getD o 0) hne)
      rw [List.take_of_length_le (by simp), e1]
      exact q
  | some ch =>
    refine wpAny_pyNext_ascii_item st3 ((hgx k).trans e) fun h' st' sb => ?_
    have I4 : Inv X pins (At k) H { s3 with heap := h', toks := s3.toks + 1 } := I3.turned (fun b o hb e => (sb.2 b hb).trans e) f0 f1 f3 f4 f5
    obtain ⟨o, eo, oc, od⟩ := id st'
    refine zfo (s := { s3 with heap := h', toks := s3.toks + 1 }) eo oc od (by decide) ?_
    have I5 := I4.pinned (fp := [it]) (fun b hb => by cases List.mem_singleton.mp hb; exact ⟨f0, f1, f2, f3, f4, f5⟩) (fun b hb => by cases List.mem_singleton.mp hb; exact ⟨o, eo, fun v z => by rw [od] at z; cases z⟩)
    refine wpAny_passesOwn hp (wpAny_assign_Name (zia I5 nd hj ly (v := .str ⟨#[ch]⟩) ⟨_, rfl⟩ fun s6 I6 t6 ⟨m, mn, my⟩ => ?_))
    refine wpAny_passesOwn hp (wpAny_execs_cons (wpAny_Assign_Name (zm4 I6 hi lx ly (z := (L.take k).foldl zao z) ?_ mn my (Nat.ne_of_gt tk3) (by rw [t6]; exact Nat.lt_succ_of_lt (Nat.lt_succ_self _)) (szk k (List.getElem?_eq_some_iff.mp e).1) (fun t' tk' ht => ?_) dx dy hbase hfew hline) hsw))
    · rw [List.getElem?_set_ne (Ne.symm hij)]; exact hAt k hk
    · refine zia (I6.tok tk') nd hi lx (v := .str (zao ((L.take k).foldl zao z) ch)) ⟨_, rfl⟩ fun s7 I7 t7 _ => ?_
      refine wpAny_execs_nil ?_
      refine ⟨L.length - (k + 1), by have := (List.getElem?_eq_some_iff.mp e).1; omega, k + 1, (List.getElem?_eq_some_iff.mp e).1, rfl, ?_, ?_, ?_⟩
      · rw [<- hNx k ch e]; exact I7.unpinned
      · exact ⟨o, (I7.pin (it, o) (List.mem_append_right _ (List.mem_append_right _ (zek (List.mem_singleton.mpr rfl) eo)))).1, oc, od⟩
      · rw [t7]; exact Nat.le_add_left _ _
end
noncomputable def zei (i j : Nat) (gx : Str) (f : List Sl -> Option D) (ρ : List Sl) : Option Fl := (f ρ).bind fun d => match d, gx.cps.toList.getLast? with
  | .str z, some ch => if zd9 z gx.cps.toList = true then some (.nx ((ρ.set i (.im (.str (gx.cps.toList.foldl zao z)))).set j (.im (.str ⟨#[ch]⟩)))) else none
  | _, _ => none
section
variable {c : Str -> Addr} {X : Cx} {i j : Nat} {x y g : Str} {gx : Str} {e : Expr} {p0 pq py pg px p1 p2 p3 p4 p5 p6 p7 p8 p9 p10 pf : Pos} {k1 k2 : Nat} {zal : List Stmt} {F : List Sl -> Option Fl} {f : List Sl -> Option D}
theorem zl3 (i j : Nat) (hp : PassesOwn (model X.prog X.w) X.A X.env X.xe) (hc : X.calm = true) (nd : X.N.Nodup) (hg : Gl X g) (hm : ∃ t0, X.mg g = some (.str gx t0)) (he : DE c X e f) (hr : DSs c X zal F) (hi : X.N[i]? = some x := by rfl) (hj : X.N[j]? = some y := by rfl) (hij : i ≠ j := by decide) (lx : X.env.scope.names.lookup x = some .local := by rfl) (ly : X.env.scope.names.lookup y = some .local := by rfl)
    (as : gx.cps.all (· < 128) = true := by decide +kernel)
    (dx : (x == ("__debug__" : Str)) = false := by decide) (dy : (y == ("__debug__" : Str)) = false := by decide) (dg : (g == ("__debug__" : Str)) = false := by decide) (hw : swapsWith e (some (.Name x pq)) p0.line X.env = pure false := by rfl)
    (hbase : attributeBase (.Name x p1) "replace" X.env (eval (.Name x p1) X.env) = eval (.Name x p1) X.env := by rfl)
    (hfew : ((backTo p9 (starEach [.Name y p3, .JoinedStr [.Constant (.str " ") k1 p4, .FormattedValue (.Name y p5) (-1) none p6, .Constant (.str " ") k2 p7] p8] X.env)).all (fun x => !x.1) && (backToKw p9 (keywordEach [] X.env)).all (fun x => x.1.isSome)
      && decide (([.Name y p3, .JoinedStr [.Constant (.str " ") k1 p4, .FormattedValue (.Name y p5) (-1) none p6, .Constant (.str " ") k2 p7] p8] : List Expr).length + ([] : List Keyword).length + (if ([] : List Keyword).isEmpty then 0 else 1) < 30)) = true := by rfl)
    (hline : (p2.endLine == p9.line) = true := by rfl) (hsw : swapsWith (ze8 x y p1 p2 p3 p4 p5 p6 p7 p8 p9 k1 k2) (some (.Name x px)) p10.line X.env = pure false := by rfl) (hs : ∀ v, foldedSetIterable (.Name g pg) X.env v = pure v := by intro _; rfl) :
    DSs c X (.Assign [.Name x pq] e p0 :: zme x y g py pg px p1 p2 p3 p4 p5 p6 p7 p8 p9 p10 pf k1 k2 :: zal) (zan (zei i j gx f) F) := by
  intro pins s σ H E I q_
  obtain ⟨t0, hm⟩ := hm
  obtain ⟨Hf0, H0, Hf, ρ, o, so, ef, k⟩ := q_
  unfold zan zei at ef
  cases e1 : f ρ with
  | none => rw [e1] at ef; cases ef
  | some d =>
    rw [e1, Option.bind_some] at ef
    cases d <;> first | (cases ef; done) | skip
    rename_i z
    cases e2 : gx.cps.toList.getLast? with
    | none => rw [e2] at ef; cases ef
    | some ch =>
      rw [e2] at ef
      dsimp only at ef
      split at ef
      · rename_i sz
        refine wpAny_execs_cons (wpAny_Assign_Name (thn (he pins s σ H _ I ⟨Hf0, H0, Hf, ρ, _, so, e1, fun v Hf' H' x r => (⟨Hf', r, x.f, so.step x⟩ : ∃ Hf', Rep (Gx c X) Hf' (.str z) v /\ zac Hf Hf' /\ zab (Gx c X) Hf0 H0 Hf' H' σ ρ)⟩) fun u s1 ⟨v, H1, I1, r1, Hf1, rz, sm, so1⟩ => ?_) hw)
        cases (show v = V.str z from rz)
        refine zia I1 nd hi lx r1 fun s2 I2 t2 _ => ?_
        have hlen : i < σ.length := by rw [I.len]; exact (List.getElem?_eq_some_iff.mp hi).1
        have hlj : j < (σ.set i (some (V.str z))).length := by rw [List.length_set, I.len]; exact (List.getElem?_eq_some_iff.mp hj).1
        refine wpAny_execs_cons (thn (zqu (D := { nx := fun σ' H' => tDS (Gx c X) F E σ' H', rt := fun _ _ => False, bk := fun _ _ => False, ct := fun _ _ => False }) hp hc nd hi hj hij lx ly hg hm as I2 (by rw [t2]; exact Nat.le_add_left _ _) (List.getElem?_set_self hlen) sz hlj ch e2 ?_ dx dy dg hbase hfew hline hsw hs) fun fl s3 h3 => ?_)
        · refine ⟨Hf0, H0, Hf1, _, o, ?_, ef, k.up sm⟩
          rw [List.set_set]
          exact (so1.setIm (d := .str (gx.cps.toList.foldl zao z)) rfl).setIm (d := .str ⟨#[ch]⟩) rfl
        · cases fl with
          | next => obtain ⟨σ3, H3, I3, q3⟩ := h3; exact hr pins s3 σ3 H3 E I3 q3
          | ret v => obtain ⟨_, _, _, _, _, z⟩ := h3; exact z.elim
          | brk => obtain ⟨_, _, _, z⟩ := h3; exact z.elim
          | cont => obtain ⟨_, _, _, z⟩ := h3; exact z.elim
      · cases ef
end
end L2
namespace L2
open PySem PySem.Spec PyProof.Rows
noncomputable def zfd (x y : Str) : List Str := PySem.Builtin.Str.partsBetween x (PySem.Builtin.Str.occurrences x y 0 x.length (x.length + 1)) y.length
noncomputable def zew (x y : D) : Option D := match x, y with
  | .str a, .str b => if b.length ≠ 0 /\ a.length <= 16777216 /\ (zfd a b).length <= 16777216 then some (.lst ((Txt.split a b).map .str)) else none
  | _, _ => none
noncomputable def zlk : V -> List V -> Hp -> VK -> Prop := fun x vs H Q => ∃ a b, x = .str a /\ vs = [.str b] /\ b.length ≠ 0 /\ a.length <= sizeLine /\ (zfd a b).length <= sizeLine /\ ∀ p, H p = none -> Q (.ref p) (upd H p (.lst ((Txt.split a b).map V.str)))
theorem zl0 : ∀ (l : List (Str × Tok)), zad ((l.map (·.1)).map V.str) (strValues l)
  | [] => .nil
  | (x, t) :: l => .cons ⟨t, rfl⟩ (zl0 l)
theorem zjv {G : Gc} {H : Hp} : ∀ (l : List Str), zaa G H (l.map D.str) (l.map V.str)
  | [] => rfl
  | _ :: l => .cons rfl (zjv l)
section
variable {c : Str -> Addr} {X : Cx}
open PySem.Builtin PySem.Builtin.Str in
theorem zlb : MtR X "str.split" zlk := by
  rintro pins s σ H x xs v us Q I rx rv ⟨a, b, rfl, rfl, hb, ha, hp, q⟩
  obtain ⟨t, rfl⟩ := rx
  obtain ⟨u, rfl, t', rfl⟩ := rv.one
  have hb' : (b.length == 0) = false := by simpa using hb
  have fin : ∀ (l : List (Str × Tok)) (tk : Nat), l.map (·.1) = Txt.split a b -> (strValues l).length <= sizeLine -> EP X pins σ Q (.ref s.heap.objs.size) { s with heap := s.heap.push { cls := .type "list", data := .seq (strValues l).toArray }, toks := tk } := fun l tk e hl => by
    refine ⟨.ref _, _, I.lnew (t' := tk) (zl0 l) ?_, rfl, ?_⟩
    · rw [List.length_map, List.length_map]
      simpa [strValues] using hl
    · rw [e]; exact q _ I.fresh
  cases h1 : (decide (a.length < b.length) || decide (strKind a < strKind b))
  · cases hf : (occurrences a b 0 a.length (a.length + 1)).isEmpty
    · refine call_meets F.slot_str_split (typeIs_str _ _ _) F.entry_str_split (F.args_str_split_2 _ _) (meets_str_split_sep a b t t' h1 hb' hf ha hp) ?_
      rw [strsFrom_eq]
      refine fin (numbered s.toks _) _ ((numbered_texts _ _).trans ((if_neg (ne_true_of_eq_false h1)).trans (if_neg (ne_true_of_eq_false hf))).symm) ?_
      have := congrArg List.length (numbered_texts s.toks (partsBetween a (occurrences a b 0 a.length (a.length + 1)) b.length))
      rw [List.length_map] at this
      unfold strValues
      rw [List.length_map, this]
      exact hp
    · exact call_meets F.slot_str_split (typeIs_str _ _ _) F.entry_str_split (F.args_str_split_2 _ _) (meets_str_split_not_found a b t t' h1 hb' hf)
        (fin [(a, t)] s.toks ((if_neg (ne_true_of_eq_false h1)).trans (if_pos hf)).symm (by show 1 <= sizeLine; decide))
  · exact call_meets F.slot_str_split (typeIs_str _ _ _) F.entry_str_split (F.args_str_split_2 _ _) (meets_str_split_cannot_occur a b t t' h1)
      (fin [(a, t)] s.toks (if_pos h1).symm (by show 1 <= sizeLine; decide))
theorem zld {e : Expr} {f g : List Sl -> Option D} (h : PE X e (tBM X.K "str" zlk (tD (Gx c X) f) (zih (tD (Gx c X) g) zhg))) : DE c X e (m2 zew f g) := PE.imp h fun σ H Q q_ => by
  obtain ⟨Hf0, H0, Hf, ρ, d, st, ef, k⟩ := q_
  obtain ⟨x, y, e1, e2, e3⟩ := zhs ef
  unfold zew at e3
  split at e3
  · rename_i a b
    split at e3
    · rename_i hc
      cases e3
      refine ⟨Hf0, H0, Hf, ρ, _, st, e1, fun v Hf1 H1 x1 r1 => ?_⟩
      cases (show v = V.str a from r1)
      exact ⟨rfl, Hf0, H0, Hf1, ρ, _, st.step x1, e2, fun u Hf2 H2 x2 r2 => ⟨a, b, rfl, by rw [show u = V.str b from r2], hc.1, by rw [sizeLine_eq]; exact hc.2.1, by rw [sizeLine_eq]; exact hc.2.2, fun p hp => k _ (upd Hf2 p (.lst _)) _ ((x1.trans x2).trans (Ext.new x2.s hp)) ⟨p, _, rfl, zau, zjv _⟩⟩⟩
    · cases e3
  · cases e3
noncomputable def zed (x y : D) : Option D := match x, y with
  | .str a, .int n => if a.length = 1 /\ 0 <= n /\ n <= 1000 then some (.str ⟨(List.replicate n.toNat (a.cps.getD 0 0)).toArray⟩) else none
  | _, _ => none
theorem zls (z : Str) (n : Nat) (h : z.length = 1) : (List.replicate n z.cps).foldl (· ++ ·) #[] = (List.replicate n (z.cps.getD 0 0)).toArray := by
  have hz : z.cps = #[z.cps.getD 0 0] := by
    obtain ⟨⟨l⟩⟩ := z
    match l, h with
    | [c], _ => rfl
  induction n with
  | zero => rfl
  | succ n ih =>
    rw [List.replicate_succ', List.foldl_append, ih, List.replicate_succ']
    show _ ++ z.cps = _
    generalize z.cps.getD 0 0 = ch at hz
    rw [hz]
    apply Array.toList_inj.mp
    simp
theorem zla : OpD c X (binaryOp .Mult) zed := by
  rintro pins s σ H vx vy v u Q I rx ry ⟨Hf, x, y, d, s0, r1, r2, e, k⟩
  unfold zed at e
  split at e
  · rename_i a n
    split at e
    · rename_i hc
      cases e
      cases (show vx = V.str a from r1)
      cases (show vy = V.int n from r2)
      obtain ⟨t, rfl⟩ := rx
      obtain ⟨t', rfl⟩ := ry
      have fin : ∀ (tk : Nat) (t2 : Tok), EP X pins σ Q (.str ⟨(List.replicate n.toNat (a.cps.getD 0 0)).toArray⟩ t2) { s with toks := tk } := fun tk t2 => ⟨.str _, H, I.tok tk, ⟨t2, rfl⟩, k _ Hf H (Ext.refl s0) rfl⟩
      refine P.mul_str ?_ ?_ ?_ ?_
      · rw [decide_eq_false (by omega), decide_eq_false (by omega)]; rfl
      · intro h1 _
        rw [hc.1]
        have : (2 ^ 63 - 1 : Int) / n ≥ 1 := Int.le_ediv_of_mul_le (by omega) (by omega)
        omega
      · intro _ _
        rw [hc.1]
        unfold PySem.Builtin.Str.tooLong sizeLine
        exact decide_eq_false (show ¬ _ by omega)
      · by_cases h1 : n < 1
        · rw [if_pos h1]
          have e0 : n.toNat = 0 := by omega
          refine ⟨by decide, ?_⟩
          rw [e0] at fin
          exact fin _ _
        · rw [if_neg h1]
          by_cases h2 : n = 1
          · rw [if_pos (by simp [h2])]
            have e1 : (⟨(List.replicate n.toNat (a.cps.getD 0 0)).toArray⟩ : Str) = a := by
              have := zls a n.toNat hc.1
              rw [<- this, h2]
              show (⟨#[] ++ a.cps⟩ : Str) = a
              rw [Array.empty_append]
            rw [e1] at fin
            exact fin s.toks t
          · rw [if_neg (by simp [h2, hc.1]), zls a _ hc.1]
            refine ⟨?_, fin _ _⟩
            show (List.replicate n.toNat _).toArray.size <= _
            rw [List.size_toArray, List.length_replicate, sizeLine_eq]
            omega
    · cases e
  · cases e
end
end L2
namespace N_k71
open PySem PySem.Spec PyProof.Rows L2
noncomputable def top (i : Nat) : Stmt := PySem.Challenge.pw_standstill_k71_words.main.body.getD i (.Pass ⟨0, 0, 0, 0⟩)
noncomputable abbrev s_0 : Stmt := top 2
noncomputable abbrev s_2 : Stmt := top 4
noncomputable abbrev s_4 : Stmt := top 5
noncomputable abbrev s_5 : Stmt := top 6
noncomputable abbrev s_3 : Stmt := top 7
noncomputable abbrev s_1 : Stmt := top 8
theorem zge : zbm ["line", "spaced", "sign"] ["line"] (zam s_0) := ⟨rfl, rfl, rfl, by decide +kernel, rfl, by decide +kernel, by decide +kernel⟩
theorem zpm : zbm ["_law_state", "_law_many"] ["_law_state", "_law_many"] (zam s_2) := ⟨rfl, rfl, rfl, by decide +kernel, rfl, by decide +kernel, by decide +kernel⟩
theorem zdu : zbm ["_law_state", "_law_signs", "_law_run_here", "_law_k"] ["_law_state"] (zam s_4) := ⟨rfl, rfl, rfl, by decide +kernel, rfl, by decide +kernel, by decide +kernel⟩
theorem zmh : zbm ["_law_state", "_law_way"] ["_law_state"] (zam s_5) := ⟨rfl, rfl, rfl, by decide +kernel, rfl, by decide +kernel, by decide +kernel⟩
theorem zhx : zbm ["_law_found", "_law_due", "_law_one", "_law_other"] ["_law_found", "_law_due"] (zam s_3) := ⟨rfl, rfl, rfl, by decide +kernel, rfl, by decide +kernel, by decide +kernel⟩
theorem zbx : zbm ["_law_script", "_law_line", "_law_due", "_law_cell", "_law_state", "_law_gap", "_law_piece_here", "_law_joins", "_law_found"] ["_law_script"] (zam s_1) := ⟨rfl, rfl, rfl, by decide +kernel, rfl, by decide +kernel, by decide +kernel⟩
set_option genInjectivity false
set_option genSizeOf false
structure Wa where
  f_0 : Addr
  fd_0 : FuncData
  f_2 : Addr
  fd_2 : FuncData
  f_4 : Addr
  fd_4 : FuncData
  f_5 : Addr
  fd_5 : FuncData
  f_3 : Addr
  fd_3 : FuncData
  f_1 : Addr
  fd_1 : FuncData
structure Wd (K : PySem.W.Frag) (mg : Str -> Option Value) (a : Wa) : Prop where
  F_0 : Fun K "words_of" "words_of" s_0 a.f_0 a.fd_0
  b_0 : za3 K a.fd_0 ["line"] []
  g_0 : mg "words_of" = some (.ref a.f_0)
  F_2 : Fun K "_law_next" "_law_next" s_2 a.f_2 a.fd_2
  b_2 : za3 K a.fd_2 ["_law_state", "_law_many"] []
  g_2 : mg "_law_next" = some (.ref a.f_2)
  F_4 : Fun K "_law_run" "_law_run" s_4 a.f_4 a.fd_4
  b_4 : za3 K a.fd_4 ["_law_state"] []
  g_4 : mg "_law_run" = some (.ref a.f_4)
  F_5 : Fun K "_law_piece" "_law_piece" s_5 a.f_5 a.fd_5
  b_5 : za3 K a.fd_5 ["_law_state"] []
  g_5 : mg "_law_piece" = some (.ref a.f_5)
  F_3 : Fun K "_law_texts" "_law_texts" s_3 a.f_3 a.fd_3
  b_3 : za3 K a.fd_3 ["_law_found", "_law_due"] []
  g_3 : mg "_law_texts" = some (.ref a.f_3)
  F_1 : Fun K "law" "law" s_1 a.f_1 a.fd_1
  b_1 : za3 K a.fd_1 ["_law_script"] []
  g_1 : mg "law" = some (.ref a.f_1)
  kt_NoneType_list : PySem.W.kitOne K (.type "NoneType") (.type "list") = some false
  kt_bool_list : PySem.W.kitOne K (.type "bool") (.type "list") = some false
  kt_int_list : PySem.W.kitOne K (.type "int") (.type "list") = some false
  kt_str_list : PySem.W.kitOne K (.type "str") (.type "list") = some false
  kt_list_list : PySem.W.kitOne K (.type "list") (.type "list") = some true
  kt_tuple_list : PySem.W.kitOne K (.type "tuple") (.type "list") = some false
  kt_dict_list : PySem.W.kitOne K (.type "dict") (.type "list") = some false
  kt_NoneType_str : PySem.W.kitOne K (.type "NoneType") (.type "str") = some false
  kt_bool_str : PySem.W.kitOne K (.type "bool") (.type "str") = some false
  kt_int_str : PySem.W.kitOne K (.type "int") (.type "str") = some false
  kt_str_str : PySem.W.kitOne K (.type "str") (.type "str") = some true
  kt_list_str : PySem.W.kitOne K (.type "list") (.type "str") = some false
  kt_tuple_str : PySem.W.kitOne K (.type "tuple") (.type "str") = some false
  kt_dict_str : PySem.W.kitOne K (.type "dict") (.type "str") = some false
  g_LONE : ∃ t, mg "LONE" = some (.str "()," t)
  z_isinstance : mg "isinstance" = none
  z_len : mg "len" = none
  z_list : mg "list" = none
  z_range : mg "range" = none
  z_str : mg "str" = none
  z_zip : mg "zip" = none
set_option genInjectivity true
set_option genSizeOf true
section
variable {P : Program} {w : World} {K : PySem.W.Frag} {mg : Str -> Option Value} {base : Heap}
noncomputable def cl (a : Wa) : Str -> Addr := fun s => 0
theorem ztf {a : Wa} (W : Wd K mg a) : zhp K "list" := fun t ht => by
  simp only [List.mem_cons, List.not_mem_nil, or_false] at ht
  rcases ht with rfl | rfl | rfl | rfl | rfl | rfl | rfl
  · exact W.kt_NoneType_list
  · exact W.kt_bool_list
  · exact W.kt_int_list
  · exact W.kt_str_list
  · exact W.kt_list_list
  · exact W.kt_tuple_list
  · exact W.kt_dict_list
theorem zrx {a : Wa} (W : Wd K mg a) : zhp K "str" := fun t ht => by
  simp only [List.mem_cons, List.not_mem_nil, or_false] at ht
  rcases ht with rfl | rfl | rfl | rfl | rfl | rfl | rfl
  · exact W.kt_NoneType_str
  · exact W.kt_bool_str
  · exact W.kt_int_str
  · exact W.kt_str_str
  · exact W.kt_list_str
  · exact W.kt_tuple_str
  · exact W.kt_dict_str
end
noncomputable def b_2 : List Sl -> Option Fl :=
  (zan (zdl 0 (fun _ => some (.int 0)) (m2 zdg (m2 zbh (m2 zib (mIx (zfe 0) (fun _ => some (.int 0))) (fun _ => some (.int 1181783497276652981))) (fun _ => some (.int 12345678910987))) (m2 ze5 (m2 zfr (fun _ => some (.int 2)) (fun _ => some (.int 61))) (fun _ => some (.int 1)))))
    (zcy (m2 zdg (m2 zg6 (mIx (zfe 0) (fun _ => some (.int 0))) (fun _ => some (.int 65537))) (zaf 1))))
noncomputable def m_2 : Addr -> List D -> List D -> List D -> Option (List D × D) := zc9 2 b_2
noncomputable def b_4 : List Sl -> Option Fl :=
  (zan (zbr 1 (fun _ => some (.str "abcdefghijklmnopqrstuvwxyzABCDEFGHIJKLMNOPQRSTUVWXYZ0123456789")))
    (zan (zcw 1 (mX (fun _ => some (.str "!\"#$&'*+-./:;<=>?\x40[\\]^_`{|}~\t\n"))))
    (zan (zbr 2 (fun _ => some (.str "")))
    (zan (zee (zdz (zbi (mX2 zbh (mX (fun _ => some (.int 1))) (zb3 0 m_2 (zbi (mX (fun _ => some (.int 6))) zbw))) zbw)) (zci 3) (zcw 2 (mX2 zc5 (mX (zaf 1)) (zb3 0 m_2 (zbi (mX (zax za7 (zah (zaf 1) (fun _ => some [])))) zbw)))))
    (zcy (zaf 2))))))
noncomputable def m_4 : Addr -> List D -> List D -> List D -> Option (List D × D) := zc9 4 b_4
noncomputable def b_5 : List Sl -> Option Fl :=
  (zan (zdd 1 (zb3 0 m_2 (zbi (mX (fun _ => some (.int 6))) zbw)))
    (zan (zcd (mB (m2 dLt (zaf 1) (fun _ => some (.int 3)))) (zcy (m2 zc5 (fun _ => some (.str "(),")) (zaf 1))) zd4)
    (zd8 (zb3 0 m_4 zbw))))
noncomputable def m_5 : Addr -> List D -> List D -> List D -> Option (List D × D) := zc9 2 b_5
noncomputable def b_3 : List Sl -> Option Fl :=
  (zan (zcd (mOr (zch (zb8 (zdx "list" (zaf 0)))) (mB (m2 dNe (zax za7 (zah (zaf 0) (fun _ => some []))) (zax za7 (zah (zaf 1) (fun _ => some [])))))) (zb9 (fun _ => some (.bl false))) zd4)
    (zan (zda (zim (zah (zaf 0) (zah (zaf 1) (fun _ => some [])))) (zf1 (ze2 (zci 2) (ze2 (zci 3) zkw))) (zcd (mOr (zch (zb8 (zdx "str" (zaf 2)))) (mB (m2 dNe (zaf 2) (zaf 3)))) (zb9 (fun _ => some (.bl false))) zd4))
    (zb9 (fun _ => some (.bl true)))))
noncomputable def m_3 (as : List D) : Option D := zb6 4 b_3 as
noncomputable def b_0 : List Sl -> Option Fl :=
  (zan (zei 1 2 "()," (zaf 0))
    (zey (zdy 1 [] (zdb (m2 zew (zaf 1) (fun _ => some (.str " ")))) (zci 0) (mB (m2 dNe (zaf 0) (fun _ => some (.str "")))) (zaf 0))))
noncomputable def m_0 (as : List D) : Option D := zb6 3 b_0 as
noncomputable def o_0 (as : List D) : Option (List D) := ze4 3 b_0 as
noncomputable def b_1 : List Sl -> Option Fl :=
  (zan (zbr 1 (fun _ => some (.str "")))
    (zan (zca 2 (fun _ => some []))
    (zan (zda (zdb (zbo (mSl (zaf 0) (fun _ => some none) (mPt (fun _ => some (.int 120)))))) (zci 3) (zan (zca 4 (zah (m2 zdg (zaf 3) (m2 ze5 (m2 zfr (fun _ => some (.int 2)) (fun _ => some (.int 61))) (fun _ => some (.int 1)))) (fun _ => some [])))
    (zan (zdd 5 (zde 4 m_2 (zbi (mX (fun _ => some (.int 3))) zbw)))
    (zan (zdd 6 (zde 4 m_5 zbw))
    (zan (zbr 7 (zcn (m2 dEq (zaf 5) (fun _ => some (.int 0))) (zcn (m2 dNe (zd6 2) (zbo (fun _ => some []))) (m2 zc3 (mIx (zcl 2) (m1 zct (fun _ => some (.int 1)))) (zbo (zah (fun _ => some (.str "(")) (zah (fun _ => some (.str ")")) (zah (fun _ => some (.str ",")) (fun _ => some [])))))))))
    (zan (zcw 1 (mX (m2 zbh (m2 zed (fun _ => some (.str " ")) (zaf 5)) (zaf 6))))
    (zcd (zcr (zb8 (zaf 7)) (mB (m2 zc3 (zaf 6) (zbo (zah (fun _ => some (.str "(")) (zah (fun _ => some (.str ")")) (zah (fun _ => some (.str ",")) (fun _ => some [])))))))) (zdp 2 (m1 zct (fun _ => some (.int 1))) (m2 zbh (mIx (zcl 2) (m1 zct (fun _ => some (.int 1)))) (zaf 6))) (zcp 2 (zaf 6)))))))))
    (zan (zbr 5 (m2 zed (fun _ => some (.str " ")) (m2 zdg (zax za7 (zah (zaf 0) (fun _ => some []))) (fun _ => some (.int 3)))))
    (zan (zca 8 (zeg o_0 (zah (m2 zbh (zaf 1) (zaf 5)) (fun _ => some []))))
    (zan (zd5 2 (zcd (zch (zb8 (ze0 m_3 (zah (zd6 8) (zah (zaf 2) (fun _ => some [])))))) (zb9 (fun _ => some (.bl false))) zd4))
    (zan (zcp 8 (fun _ => some (.str "x")))
    (zd5 2 (zb9 (zcn (zax m_3 (zah (zax m_0 (zah (m2 zbh (zaf 1) (zaf 5)) (fun _ => some []))) (zah (zaf 2) (fun _ => some [])))) (zax m_3 (zah (zax m_0 (zah (zaf 5) (fun _ => some []))) (zah (zbo (fun _ => some [])) (fun _ => some []))))))))))))))
noncomputable def m_1 (as : List D) : Option D := zb6 9 b_1 as
section
variable {P : Program} {w : World} {K : PySem.W.Frag} {mg : Str -> Option Value} {base : Heap}
theorem zf5 {a : Wa} (W : Wd K mg a) : zak P w K mg base CX0 1 a.f_2 a.fd_2 ["_law_state", "_law_many"] (spM ⟨K, cl a⟩ 0 ["_law_state", "_law_many"].length m_2) :=
  zhz (k := 0) (N := ["_law_state", "_law_many"]) (F := b_2) W.F_2 zpm fun cdv A outer s H E hr => by
    unfold b_2
    exact (zav (zo3 (pv 0) zar (za1 zgl (za1 zdk (za1 zr3 (zfv (zlw 0) zar) zar) zar) (za1 zjo (za1 zj4 zar zar) zar)))
    (za6 (zhd (za1 zgl (za1 zpy (zfv (zlw 0) zar) zar) (dv 1)))))
theorem zsj {a : Wa} (W : Wd K mg a) : zak P w K mg base CX0 2 a.f_4 a.fd_4 ["_law_state"] (spM ⟨K, cl a⟩ 0 ["_law_state"].length m_4) :=
  zhz (k := 1) (N := ["_law_state", "_law_signs", "_law_run_here", "_law_k"]) (F := b_4) W.F_4 zdu fun cdv A outer s H E hr => by
    unfold b_4
    exact (zav (zet 1 zdu.nd za0)
    (zav (zhe 1 zdu.nd (DE.dx za0))
    (zav (zet 2 zdu.nd za0)
    (zav (zso PassesOwn.never rfl (zpo rfl W.z_range (zeh (zm7 zdk (DE.dx zar) (zfj (zf5 W) (hr.mono (by decide)) rfl W.g_2 W.F_2.kp W.b_2 (zdn 0 (zeh (DE.dx zar) zc2)))) zc2)) (zfh 3 4 zdu.nd) (za6 (zhe 2 zdu.nd (zrt (DE.dx (dv 1)) (zfj (zf5 W) (hr.mono (by decide)) rfl W.g_2 W.F_2.kp W.b_2 (zdn 0 (zeh (DE.dx (zfp zf3 zgc rfl W.z_len PySem.boot_len (zd3 (DE.db (dv 1)) zel))) zc2)))))))
    (za6 (zhd (dv 2)))))))
theorem zpt {a : Wa} (W : Wd K mg a) : zak P w K mg base CX0 3 a.f_5 a.fd_5 ["_law_state"] (spM ⟨K, cl a⟩ 0 ["_law_state"].length m_5) :=
  zhz (k := 2) (N := ["_law_state", "_law_way"]) (F := b_5) W.F_5 zmh fun cdv A outer s H E hr => by
    unfold b_5
    exact (zav (zh8 1 zmh.nd (zfj (zf5 W) (hr.mono (by decide)) rfl W.g_2 W.F_2.kp W.b_2 (zdn 0 (zeh (DE.dx zar) zc2))))
    (zav (zeb (zdo zoy zm9 (DE.db (dv 1)) (DE.db zar)) (za6 (zhd (zmz za0 (dv 1)))) zgi)
    (za6 (zsi (zfj (zsj W) (hr.mono (by decide)) rfl W.g_4 W.F_4.kp W.b_4 (zdn 0 zc2))))))
theorem zgs {a : Wa} (W : Wd K mg a) : zak P w K mg base CX0 1 a.f_3 a.fd_3 ["_law_found", "_law_due"] (spD ⟨K, cl a⟩ ["_law_found", "_law_due"].length m_3) :=
  zig (k := 0) (N := ["_law_found", "_law_due", "_law_one", "_law_other"]) (F := b_3) W.F_3 zhx fun cdv A outer s H E hr => have hu := hr.units; by
    unfold b_3
    exact (zav (zeb (DW.dt (zk6 (zhy (zgd (DE.db (zl4 (T := "list") (ztf W) rfl W.z_isinstance boot_list rfl W.z_list (DE.db (dv 0)))))) (zjh (zdo (zex hu) ze1 (DE.db (zfp zf3 zgc rfl W.z_len PySem.boot_len (zd3 (DE.db (dv 0)) zel))) (DE.db (zfp zf3 zgc rfl W.z_len PySem.boot_len (zd3 (DE.db (dv 1)) zel))))))) (za6 (zez zfu)) zgi)
    (zav (zlx PassesOwn.never rfl (zr7 rfl W.z_zip (za5 (dv 0) (za5 (dv 1) zbl))) (zns rfl (zki (zfh 2 4 zhx.nd) (zki (zfh 3 4 zhx.nd) zqn))) (za6 (zeb (DW.dt (zk6 (zhy (zgd (DE.db (zl4 (T := "str") (zrx W) rfl W.z_isinstance boot_str rfl W.z_str (DE.db (dv 2)))))) (zjh (zdo (zex hu) ze1 (DE.db (dv 2)) (DE.db (dv 3)))))) (za6 (zez zfu)) zgi)))
    (za6 (zez zfu))))
theorem zj7 {a : Wa} (W : Wd K mg a) : zak P w K mg base CX0 1 a.f_0 a.fd_0 ["line"] (spD ⟨K, cl a⟩ ["line"].length m_0) :=
  zig (k := 0) (N := ["line", "spaced", "sign"]) (F := b_0) W.F_0 zge fun cdv A outer s H E hr => have hu := hr.units; by
    unfold b_0
    exact (zl3 1 2 PassesOwn.never rfl zge.nd rfl W.g_LONE (dv 0)
    (za6 (zll (zjk 1 [] ["word"] rfl (DI.de (zg7 (zld (zfa PySem.F.plainAttrs_str PySem.F.slot_str_split PySem.F.type_str_split zlb (dv 1) (zb7 za0 zcs))))) (fun _ _ _ _ _ => (dgc 0 1)) (fun _ _ _ _ _ => (zjf (zdo (zex hu) ze1 (DE.db (dvc 0)) (DE.db za0)))) (fun _ _ _ _ _ => (dvc 0))))))
theorem zrr {a : Wa} (W : Wd K mg a) : zak P w K mg base CX0 1 a.f_0 a.fd_0 ["line"] (spO ⟨K, cl a⟩ ["line"].length o_0) :=
  zrs (k := 0) (N := ["line", "spaced", "sign"]) (F := b_0) W.F_0 zge fun cdv A outer s H E hr => have hu := hr.units; by
    unfold b_0
    exact (zl3 1 2 PassesOwn.never rfl zge.nd rfl W.g_LONE (dv 0)
    (za6 (zll (zjk 1 [] ["word"] rfl (DI.de (zg7 (zld (zfa PySem.F.plainAttrs_str PySem.F.slot_str_split PySem.F.type_str_split zlb (dv 1) (zb7 za0 zcs))))) (fun _ _ _ _ _ => (dgc 0 1)) (fun _ _ _ _ _ => (zjf (zdo (zex hu) ze1 (DE.db (dvc 0)) (DE.db za0)))) (fun _ _ _ _ _ => (dvc 0))))))
theorem zqc {a : Wa} (W : Wd K mg a) : zak P w K mg base CX0 4 a.f_1 a.fd_1 ["_law_script"] (spD ⟨K, cl a⟩ ["_law_script"].length m_1) :=
  zig (k := 3) (N := ["_law_script", "_law_line", "_law_due", "_law_cell", "_law_state", "_law_gap", "_law_piece_here", "_law_joins", "_law_found"]) (F := b_1) W.F_1 zbx fun cdv A outer s H E hr => have hu := hr.units; by
    unfold b_1
    exact (zav (zet 1 zbx.nd za0)
    (zav (zgw 2 zbx.nd (zds zbl))
    (zav (zlx PassesOwn.never rfl (zg7 (DO.de (by refine zp4 ?a ?b ?c; (case a => exact (dv 0)); (case b => exact zpe); (case c => exact (zoj zar))))) (zfh 3 9 zbx.nd) (zav (zgw 4 zbx.nd (zds (za5 (za1 zgl (dv 3) (za1 zjo (za1 zj4 zar zar) zar)) zbl)))
    (zav (zh8 5 zbx.nd (zjm (zf5 W) (hr.mono (by decide)) rfl W.g_2 W.F_2.kp W.b_2 (zdn 4 (zeh (DE.dx zar) zc2))))
    (zav (zh8 6 zbx.nd (zjm (zpt W) (hr.mono (by decide)) rfl W.g_5 W.F_5.kp W.b_5 (zdn 4 zc2)))
    (zav (zet 7 zbx.nd (zho (zha (zn8 hu) ztd (DE.db (dv 5)) (DE.db zar)) (zho (zha (zex hu) ze1 (dvB 2) (DE.db (DO.de (zds zbl)))) (zl5 (zha ziy ziw (DE.db (zfv (dvC 2) (zg4 zar))) (DE.db (DO.de (zds (za5 za0 (za5 za0 (za5 za0 zbl)))))))))))
    (zav (zhe 1 zbx.nd (DE.dx (za1 zdk (za1 zla za0 (dv 5)) (dv 6))))
    (za6 (zeb (DW.dt (zo7 (zgd (DE.db (dv 7))) (zrh (zdo ziy ziw (DE.db (dv 6)) (DE.db (DO.de (zds (za5 za0 (za5 za0 (za5 za0 zbl)))))))))) (za6 (znh (pv 2) (zg4 zar) (za1 zdk (zfv (dvC 2) (zg4 zar)) (dv 6)))) (za6 (zka (zjg (zfa PySem.F.plainAttrs_list PySem.F.slot_list_append PySem.F.type_list_append zmd (pv 2) (zb7 (dv 6) zcs)))))))))))))
    (zav (zet 5 zbx.nd (za1 zla za0 (za1 zgl (zfp zf3 zgc rfl W.z_len PySem.boot_len (zd3 (DE.db (dv 0)) zel)) zar)))
    (zav (zgw 8 zbx.nd (zsh (zrr W) (hr.mono (by decide)) rfl W.g_0 W.F_0.kp W.b_0 (za5 (za1 zdk (dv 1) (dv 5)) zbl)))
    (zav (zkb 2 (zeb (zhy (zgd (DE.db (zp1 (zgs W) (hr.mono (by decide)) rfl W.g_3 W.F_3.kp W.b_3 (zd3 (dvB 8) (zd3 (DE.db (dv 2)) zel)))))) (za6 (zez zfu)) zgi))
    (zav (zka (zjg (zfa PySem.F.plainAttrs_list PySem.F.slot_list_append PySem.F.type_list_append zmd (pv 8) (zb7 za0 zcs))))
    (za6 (zkb 2 (zez (zho (zgg (zgs W) (hr.mono (by decide)) rfl W.g_3 W.F_3.kp W.b_3 (za5 (zgg (zj7 W) (hr.mono (by decide)) rfl W.g_0 W.F_0.kp W.b_0 (za5 (za1 zdk (dv 1) (dv 5)) zbl)) (za5 (dv 2) zbl))) (zl5 (zgg (zgs W) (hr.mono (by decide)) rfl W.g_3 W.F_3.kp W.b_3 (za5 (zgg (zj7 W) (hr.mono (by decide)) rfl W.g_0 W.F_0.kp W.b_0 (za5 (dv 5) zbl)) (za5 (DO.de (zds zbl)) zbl)))))))))))))))
end
local macro_rules | `(tactic| walk_at "evS") => `(tactic| first | decide | omega | assumption | exact ⟨by decide, by decide⟩ | exact ⟨by omega, by omega⟩ | exact .inl ⟨by decide, by decide⟩ | exact .inr ⟨by decide, by decide⟩ | exact .inl ⟨by omega, by omega⟩ | exact .inr ⟨by omega, by omega⟩ | exact ⟨by decide, by decide, by decide⟩)
local macro_rules | `(tactic| walk_at "evO") => `(tactic| first | with_reducible exact zik | with_reducible exact zgo | with_reducible exact zl6 | with_reducible exact zrq | with_reducible exact zon | with_reducible exact zpk | with_reducible exact zi6 _ _ | with_reducible exact zk0 _ _ | ((with_reducible apply zev); (focus walk_at "evS")) | ((with_reducible apply zi8); (focus walk_at "evS")) | ((with_reducible apply zpb); (focus walk_at "evS")) | ((with_reducible apply zk9); (focus first | assumption | exact .inl (by walk_at "evS") | exact .inr ⟨by omega, by omega⟩)) | ((with_reducible apply ziu); (focus walk_at "evS")) | ((with_reducible apply zod); (focus walk_at "evS")) | with_reducible exact zn9 _ _ | with_reducible exact zhh _ _ | with_reducible exact zn4 _ _ | with_reducible exact zog | exact zok _ _ | exact zi7 _ _ | assumption | rfl)
local macro_rules | `(tactic| walk_at "ev") => `(tactic| first
  | with_reducible assumption
  | ((with_reducible apply zap); (focus walk_at "ev"); (focus walk_at "ev"); (focus walk_at "evO"))
  | ((with_reducible apply zbt); (focus walk_at "ev"))
  | ((with_reducible apply zhr); (focus walk_at "ev"); (focus first | assumption | rfl))
  | ((with_reducible apply zlz); (focus walk_at "ev"); (focus walk_at "ev"))
  | ((with_reducible apply zri); (focus walk_at "ev"); (focus walk_at "ev"))
  | ((with_reducible apply zjd); (focus walk_at "ev"))
  | ((with_reducible apply zk7); (focus walk_at "ev"); (focus walk_at "ev"))
  | ((with_reducible apply zm8); (focus walk_at "ev"); (focus walk_at "ev"))
  | ((with_reducible apply zpx); (focus walk_at "ev"))
  | ((with_reducible apply zb0); (focus walk_at "ev"); (focus walk_at "ev"))
  | ((with_reducible apply zs3); (focus walk_at "ev"))
  | ((with_reducible apply zi5); (focus walk_at "ev"))
  | ((with_reducible apply zc8); (focus walk_at "ev"); (focus first | with_reducible assumption | with_reducible exact zjy _ _ | assumption | exact zjy _ _ | exact zlv _ _ | rfl))
  | ((with_reducible apply zmb); (focus walk_at "ev"); (focus assumption); (focus rfl))
  | ((with_reducible apply zgz); (focus walk_at "ev"); (focus walk_at "ev"); (focus first | assumption | rfl))
  | ((with_reducible apply zma); (focus walk_at "ev"); (focus rfl); (focus rfl))
  | ((with_reducible apply zsr); (focus walk_at "ev"); (focus rfl); (focus rfl))
  | ((with_reducible apply zgp); (focus walk_at "ev"); (focus rfl))
  | rfl)
local macro_rules | `(tactic| walk_at "nrm") => `(tactic| simp only [zj6, List.set_cons_succ, List.set_cons_zero])
local macro_rules | `(tactic| walk_at "set") => `(tactic| (apply zas; (first | with_reducible apply zdv | with_reducible apply zfw); (focus walk_at "ev"); walk_at "nrm"))
local macro_rules | `(tactic| walk_at "if0") => `(tactic| ((with_reducible first | apply zdh | apply zhk); (focus walk_at "ev")))
open PySem.Builtin PySem.Builtin.Str
noncomputable abbrev tx (l : List Nat) : Str := ⟨l.toArray⟩
theorem zbn (l : List Nat) : (tx l).length = l.length := by show l.toArray.size = _; simp
theorem zf8 (a b : List Nat) : tx a ++ tx b = tx (a ++ b) := by
  apply Str.ext'
  rw [Str.cps_append]
  simp
theorem ze9 (z : Str) : tx z.cps.toList = z := by
  apply Str.ext'
  simp
theorem ziz {a b : List Nat} (h : tx a = tx b) : a = b := by
  have := congrArg (fun z : Str => z.cps.toList) h
  simpa using this
noncomputable def spr (c : Nat) (l : List Nat) : List Nat := l.flatMap fun x => if x = c then [32, c, 32] else [x]
theorem zec (c : Nat) (a b : List Nat) : spr c (a ++ b) = spr c a ++ spr c b := by unfold spr; rw [List.flatMap_append]
theorem zh2 (c : Nat) : ∀ l : List Nat, c ∉ l -> spr c l = l
  | [], _ => rfl
  | k :: r, h => by
    obtain ⟨h1, h2⟩ := not_or.mp (fun e => h (List.mem_cons.mpr e))
    have ih := zh2 c r h2
    unfold spr at ih ⊢
    rw [List.flatMap_cons, if_neg (Ne.symm h1), ih]
    rfl
theorem zdj (c : Nat) : ∀ l : List Nat, (spr c l).length <= 3 * l.length
  | [] => Nat.le_refl _
  | k :: r => by
    have ih := zdj c r
    unfold spr at ih ⊢
    rw [List.flatMap_cons, List.length_append, List.length_cons]
    split <;> (simp only [List.length_cons, List.length_nil]; omega)
theorem zs8 (c : Nat) : (zd7 c).cps.toList = [32, c, 32] := rfl
theorem zjx (c : Nat) : ∀ parts : List Str, (∀ p ∈ parts, c ∉ p.cps.toList) -> spr c (Str.join ⟨#[c]⟩ parts).cps.toList = (Str.join (zd7 c) parts).cps.toList
  | [], _ => rfl
  | [p], h => zh2 c _ (h p (List.mem_singleton.mpr rfl))
  | p :: q :: r, h => by
    have ih := zjx c (q :: r) fun a ha => h a (List.mem_cons_of_mem _ ha)
    show spr c (p ++ ⟨#[c]⟩ ++ Str.join ⟨#[c]⟩ (q :: r)).cps.toList = (p ++ zd7 c ++ Str.join (zd7 c) (q :: r)).cps.toList
    simp only [Array.toList_append, Str.cps_append]
    rw [zec, zec, ih, zh2 c _ (h p (List.mem_cons_self ..)), zs8]
    show p.cps.toList ++ spr c [c] ++ _ = _
    have : spr c [c] = [32, c, 32] := by unfold spr; simp
    rw [this]
theorem zeo (l : List Nat) (c : Nat) : zao (tx l) c = tx (spr c l) := by
  rw [<- ze9 (zao (tx l) c)]
  unfold zao
  rw [StrLaws.replace_one, <- zjx c _ (StrLaws.split_free (tx l) c), StrLaws.join_split]
noncomputable def zaq (c : Nat) : List Nat -> List Nat -> List (List Nat)
  | [], cur => [cur]
  | x :: r, cur => if x = c then cur :: zaq c r [] else zaq c r (cur ++ [x])
theorem zg2 (c : Nat) : ∀ (p r cur : List Nat), c ∉ p -> zaq c (p ++ r) cur = zaq c r (cur ++ p)
  | [], r, cur, _ => by rw [List.nil_append, List.append_nil]
  | k :: p, r, cur, h => by
    have h1 : k ≠ c := (List.ne_of_not_mem_cons h).symm
    have ih := zg2 c p r (cur ++ [k]) fun m => h (List.mem_cons_of_mem _ m)
    rw [List.cons_append, zaq, if_neg h1, ih, List.append_assoc]
    rfl
theorem zkz (c : Nat) : ∀ parts : List Str, parts ≠ [] -> (∀ p ∈ parts, c ∉ p.cps.toList) -> zaq c (Str.join ⟨#[c]⟩ parts).cps.toList [] = parts.map fun p => p.cps.toList
  | [], h, _ => absurd rfl h
  | [p], _, h => by
    have := zg2 c p.cps.toList [] [] (h p (List.mem_singleton.mpr rfl))
    rw [List.append_nil, List.nil_append] at this
    exact this
  | p :: q :: r, _, h => by
    have ih := zkz c (q :: r) (by simp) fun a ha => h a (List.mem_cons_of_mem _ ha)
    show zaq c (p ++ ⟨#[c]⟩ ++ Str.join ⟨#[c]⟩ (q :: r)).cps.toList [] = _
    simp only [Str.cps_append, Array.toList_append, List.append_assoc]
    rw [zg2 c _ _ _ (h p (List.mem_cons_self ..)), List.nil_append]
    show zaq c (c :: (Str.join ⟨#[c]⟩ (q :: r)).cps.toList) p.cps.toList = _
    rw [zaq, if_pos rfl, ih]
    rfl
theorem zpn (x y : Str) : Txt.split x y ≠ [] := by
  unfold Txt.split
  split
  · simp
  · split
    · simp
    · rw [StrLaws.partsBetween_eq]
      obtain ⟨p, r, e⟩ := StrLaws.partsFrom_ne x y.length 0 (occurrences x y 0 x.length (x.length + 1))
      rw [e]
      simp
theorem zn0 (l : List Nat) : Txt.split (tx l) (" " : Str) = (zaq 32 l []).map tx := by
  have e : (" " : Str) = ⟨#[32]⟩ := rfl
  rw [e]
  have h := zkz 32 (Txt.split (tx l) ⟨#[32]⟩) (zpn _ _) (StrLaws.split_free (tx l) 32)
  rw [StrLaws.join_split] at h
  rw [show (tx l).cps.toList = l from rfl] at h
  rw [h, List.map_map]
  conv => lhs; rw [<- List.map_id (Txt.split (tx l) ⟨#[32]⟩)]
  apply List.map_congr_left
  intro p _
  exact (ze9 p).symm
theorem zp9 (x y : Str) : (zfd x y).length <= x.length + 2 := by
  unfold zfd partsBetween
  have few := StrLaws.occ_length_le x y 0 x.length (x.length + 1)
  simp only [List.length_map, List.length_zip, List.length_cons, List.length_append]
  omega
theorem zoe (l : List Nat) (h : l.length <= 1000000) : zew (.str (tx l)) (.str " ") = some (.lst ((zaq 32 l []).map fun w => .str (tx w))) := by
  unfold zew
  dsimp only
  have := zp9 (tx l) (" " : Str)
  rw [zbn] at this
  rw [if_pos ⟨by decide, by rw [zbn]; omega, by omega⟩, zn0, List.map_map]
  rfl
noncomputable def zbj (x : Nat) : Bool := x == 40 || x == 41 || x == 44
noncomputable def fl (cur : List Nat) : List (List Nat) := if cur = [] then [] else [cur]
noncomputable def ws : List Nat -> List Nat -> List (List Nat)
  | [], cur => fl cur
  | x :: r, cur => if x = 32 then fl cur ++ ws r [] else if zbj x = true then fl cur ++ [x] :: ws r [] else ws r (cur ++ [x])
noncomputable def zbc (l : List Nat) : List Nat := spr 44 (spr 41 (spr 40 l))
theorem zst (x : Nat) (r : List Nat) : zbc (x :: r) = (if zbj x = true then [32, x, 32] else [x]) ++ zbc r := by
  unfold zbc
  rw [show x :: r = [x] ++ r from rfl, zec, zec, zec]
  congr 1
  by_cases h0 : x = 40
  · subst h0; rfl
  · by_cases h1 : x = 41
    · subst h1; rfl
    · by_cases h2 : x = 44
      · subst h2; rfl
      · have h3 : zbj x = false := by simp [zbj, h0, h1, h2]
        rw [h3]
        simp [spr, h0, h1, h2]
theorem zfy : ∀ (l cur : List Nat), (zaq 32 (zbc l) cur).filter (fun w => !decide (w = [])) = ws l cur
  | [], cur => by
    show ([cur] : List (List Nat)).filter _ = fl cur
    unfold fl
    by_cases h : cur = [] <;> simp [h]
  | x :: r, cur => by
    have flf : ∀ (z : List (List Nat)), (cur :: z).filter (fun w => !decide (w = [])) = fl cur ++ z.filter (fun w => !decide (w = [])) := fun z => by
      unfold fl
      by_cases h : cur = [] <;> simp [h]
    rw [zst]
    unfold ws
    by_cases h : x = 32
    · subst h
      rw [if_pos rfl, if_neg (by decide)]
      show (zaq 32 (32 :: zbc r) cur).filter _ = _
      rw [zaq, if_pos rfl, flf, zfy r []]
    · rw [if_neg h]
      by_cases h2 : zbj x = true
      · rw [if_pos h2, if_pos h2]
        show (zaq 32 (32 :: x :: 32 :: zbc r) cur).filter _ = _
        rw [zaq, if_pos rfl, flf, zaq, if_neg h, zaq, if_pos rfl]
        show _ ++ ([x] :: zaq 32 (zbc r) []).filter _ = _
        rw [List.filter_cons, if_pos (by simp), zfy r []]
      · rw [if_neg h2, if_neg h2]
        show (zaq 32 (x :: zbc r) cur).filter _ = _
        rw [zaq, if_neg h, zfy r (cur ++ [x])]
theorem znc (l : List Nat) : (zbc l).length <= 27 * l.length := by
  have h1 := zdj 40 l
  have h2 := zdj 41 (spr 40 l)
  have h3 := zdj 44 (spr 41 (spr 40 l))
  unfold zbc
  omega
noncomputable def zdq (w : List Nat) : Prop := ∀ x ∈ w, x ≠ 32 /\ zbj x = false
theorem zff : ∀ (w r cur : List Nat), zdq w -> ws (w ++ r) cur = ws r (cur ++ w)
  | [], r, cur, _ => by rw [List.nil_append, List.append_nil]
  | x :: w, r, cur, h => by
    have hx := h x (List.mem_cons_self ..)
    have ih := zff w r (cur ++ [x]) fun y hy => h y (List.mem_cons_of_mem _ hy)
    rw [List.cons_append, ws, if_neg hx.1, if_neg (by rw [hx.2]; decide), ih, List.append_assoc]
    rfl
theorem zgu : ∀ (n : Nat) (r : List Nat), ws (List.replicate n 32 ++ r) [] = ws r []
  | 0, r => rfl
  | n + 1, r => by
    rw [List.replicate_succ, List.cons_append, ws, if_pos rfl, zgu n r]
    rfl
theorem zhc (n : Nat) (r cur : List Nat) : ws (List.replicate (n + 1) 32 ++ r) cur = fl cur ++ ws r [] := by
  rw [List.replicate_succ, List.cons_append, ws, if_pos rfl, zgu n r]
theorem zj0 {x : Nat} (r cur : List Nat) (h : zbj x = true) : ws (x :: r) cur = fl cur ++ [x] :: ws r [] := by
  have h32 : ¬ x = 32 := fun e => by subst e; cases h
  rw [ws, if_neg h32, if_pos h]
noncomputable def wD (ws : List (List Nat)) : List D := ws.map fun w => .str (tx w)
theorem zpd : ("(),": Str).cps.toList = [40, 41, 44] := rfl
theorem zlr (l : List Nat) (h : l.length <= 1000) : wp b_0 [.im (.str (tx l)), .no, .no] (fun o => o = .rtO (wD (ws l []))) := by
  have l1 := zdj 40 l
  have l2 := zdj 41 (spr 40 l)
  have l3 := znc l
  have hok : zd9 (tx l) [40, 41, 44] = true := by
    unfold zd9
    show ((decide (4 * (tx l).length + 3 <= 16777216)) && ((decide (4 * (zao (tx l) 40).length + 3 <= 16777216)) && ((decide (4 * (zao (zao (tx l) 40) 41).length + 3 <= 16777216)) && true))) = true
    rw [zeo, zeo, zbn, zbn, zbn, decide_eq_true (by omega), decide_eq_true (by omega), decide_eq_true (by omega)]
    rfl
  have h1 : zei 1 2 "()," (zaf 0) [.im (.str (tx l)), .no, .no] = some (.nx [.im (.str (tx l)), .im (.str (tx (zbc l))), .im (.str ⟨#[44]⟩)]) := by
    unfold zei
    rw [show zaf 0 [Sl.im (.str (tx l)), .no, .no] = some (.str (tx l)) from rfl, Option.bind_some, zpd]
    show (if zd9 (tx l) [40, 41, 44] = true then _ else none) = _
    rw [if_pos hok]
    show some (Fl.nx [.im (.str (tx l)), .im (.str (zao (zao (zao (tx l) 40) 41) 44)), .im (.str ⟨#[44]⟩)]) = _
    rw [zeo, zeo, zeo]
    rfl
  unfold b_0
  apply zas
  refine zlc h1 ?_
  refine zq1 (d := wD (ws l [])) ?_ rfl
  unfold wD
  rw [<- zfy l []]
  have hl : ∀ (r cur : List Nat), (zaq 32 r cur).length <= r.length + 1 := by
    intro r
    induction r with
    | nil => intro cur; exact Nat.le_refl _
    | cons x r ih =>
      intro cur
      unfold zaq
      split
      · have := ih []; simp only [List.length_cons]; omega
      · have := ih (cur ++ [x]); simp only [List.length_cons]; omega
  have hl3 := hl (zbc l) []
  refine zrn (zaq 32 (zbc l) []) (fun w => D.str (tx w)) (fun w => !decide (w = [])) (fun w => D.str (tx w)) (zgp (zap rfl rfl (zoe _ (by omega))) rfl) (by omega) fun w _ => ?_
  have e1 : ((tx w) == ("" : Str)) = decide (w = []) := by
    by_cases hw : w = []
    · subst hw; rfl
    · rw [decide_eq_false hw]
      cases e : ((tx w) == ("" : Str)) with
      | false => rfl
      | true => exact absurd (ziz ((eq_of_beq e).trans (show ("" : Str) = tx [] from rfl))) hw
  have e2 := zsq (g := zci 0) (ft := mB (m2 dNe (zaf 0) (fun _ => some (.str "")))) (fe := zaf 0) (ρ := zba 1 [] [.im (.str (tx l)), .im (.str (tx (zbc l))), .im (.str ⟨#[44]⟩)]) (d := .str (tx w)) (b := !decide (w = [])) (y := .str (tx w)) rfl (zbt (zap rfl rfl (by rw [zhh, e1]))) fun _ => rfl
  exact e2
theorem zku (l : List Nat) (h : l.length <= 1000) : m_0 [.str (tx l)] = some (.lst (wD (ws l []))) := by
  obtain ⟨o, e, rfl⟩ := zlr l h
  exact zqe e
theorem zno (l : List Nat) (h : l.length <= 1000) : o_0 [.str (tx l)] = some (wD (ws l [])) := by
  obtain ⟨o, e, rfl⟩ := zlr l h
  unfold o_0 ze4
  rw [show zbg 3 [D.str (tx l)] = [.im (.str (tx l)), .no, .no] from rfl, e]
  rfl
theorem zgx (xs : List (List Nat)) : m_3 [.lst (wD xs), .lst (wD xs)] = some (.bl true) := by
  apply zkg
  unfold b_3
  show wp _ [.im (.lst (wD xs)), .im (.lst (wD xs)), .no, .no] _
  apply zas
  refine zdh (b := false) ?_ (fun e => by cases e) fun _ => zgb ?_
  · have h1 : zch (zb8 (zdx "list" (zaf 0))) [.im (.lst (wD xs)), .im (.lst (wD xs)), .no, .no] = some false := rfl
    have h2 : mB (m2 dNe (zax za7 (zah (zaf 0) (fun _ => some []))) (zax za7 (zah (zaf 1) (fun _ => some [])))) [.im (.lst (wD xs)), .im (.lst (wD xs)), .no, .no] = some false := zbt (zap rfl rfl (by rw [zk0]; simp))
    unfold mOr
    rw [h1, Option.bind_some]
    exact h2
  · show wp _ [.im (.lst (wD xs)), .im (.lst (wD xs)), .no, .no] _
    apply zas
    refine zhb xs (fun w => D.tup [.str (tx w), .str (tx w)]) (fun pre ρ => ∃ a b, ρ = [.im (.lst (wD xs)), .im (.lst (wD xs)), a, b]) ?_ ⟨_, _, rfl⟩ ?_ ?_
    · show some (List.zipWith (fun a b => D.tup [a, b]) (wD xs) (wD xs)) = _
      unfold wD
      rw [List.zipWith_map, List.zipWith_self]
    · rintro pre w post ρ _ ⟨a, b, rfl⟩
      refine ⟨[.im (.lst (wD xs)), .im (.lst (wD xs)), .im (.str (tx w)), .im (.str (tx w))], rfl, ?_⟩
      refine zdh (b := false) ?_ (fun e => by cases e) fun _ => zgb ⟨_, _, rfl⟩
      have h1 : zch (zb8 (zdx "str" (zaf 2))) [.im (.lst (wD xs)), .im (.lst (wD xs)), .im (.str (tx w)), .im (.str (tx w))] = some false := rfl
      have h2 : mB (m2 dNe (zaf 2) (zaf 3)) [.im (.lst (wD xs)), .im (.lst (wD xs)), .im (.str (tx w)), .im (.str (tx w))] = some false := zbt (zap rfl rfl (by rw [zhh, beq_self_eq_true]; rfl))
      unfold mOr
      rw [h1, Option.bind_some]
      exact h2
    · rintro ρ ⟨a, b, rfl⟩
      exact zhk rfl (zje rfl)
theorem zcv {f : List Sl -> Option D} {ρ : List Sl} {d : D} (h : f ρ = some d) : mX f ρ = some (d, ρ) := by
  unfold mX
  rw [h]
  rfl
theorem zkr {m : D -> D -> Option D} {f g : Xe} {ρ ρ1 ρ2 : List Sl} {x y d : D} (h1 : f ρ = some (x, ρ1)) (h2 : g ρ1 = some (y, ρ2)) (h3 : m x y = some d) : mX2 m f g ρ = some (d, ρ2) := by
  unfold mX2
  rw [h1, Option.bind_some, h2, Option.bind_some, h3]
  rfl
theorem zer {f : Xe} {g : Xa} {ρ ρ1 ρ2 : List Sl} {d : D} {ds : List D} (h1 : f ρ = some (d, ρ1)) (h2 : g ρ1 = some (ds, ρ2)) : zbi f g ρ = some (d :: ds, ρ2) := by
  unfold zbi
  rw [h1, Option.bind_some, h2]
  rfl
theorem zta {f : Xa} {ρ ρ1 : List Sl} {as ds : List D} (h1 : f ρ = some (as, ρ1)) (h2 : zf9 as = some ds) : zdz f ρ = some (ds, ρ1) := by
  unfold zdz
  rw [h1, Option.bind_some, h2]
  rfl
theorem zga {i : Nat} {m : Addr -> List D -> List D -> List D -> Option (List D × D)} {f : Xa} {ρ ρ1 : List Sl} {l l0 : Addr} {xs0 xs ys ds : List D} {d : D} (h0 : ρ[i]? = some (.pin l0 xs0)) (h1 : f ρ = some (ds, ρ1)) (h2 : ρ1[i]? = some (.pin l xs)) (h3 : m l [] ds xs = some (ys, d)) : zb3 i m f ρ = some (d, ρ1.set i (.pin l ys)) := by
  unfold zb3
  rw [h0]
  show (f ρ).bind _ = _
  rw [h1, Option.bind_some]
  dsimp only
  rw [h2]
  show (m l [] ds xs).map _ = _
  rw [h3]
  rfl
open Classical in
theorem zkl {i : Nat} {m : Addr -> List D -> List D -> List D -> Option (List D × D)} {f : Xa} {ρ ρ1 : List Sl} {xs0 xs ys ds : List D} {d : D} (h0 : ρ[i]? = some (.own xs0)) (h1 : f ρ = some (ds, ρ1)) (h2 : ρ1[i]? = some (.own xs)) (h3 : ∀ l, m l [] ds xs = some (ys, d)) : zde i m f ρ = some (d, ρ1.set i (.own ys)) := by
  unfold zde
  rw [h0]
  show (f ρ).bind _ = _
  rw [h1, Option.bind_some]
  dsimp only
  rw [h2]
  show (if h : ∃ q, ∀ l, m l [] ds xs = some q then _ else none) = _
  rw [dif_pos ⟨(ys, d), h3⟩]
  have e : (⟨(ys, d), h3⟩ : ∃ q, ∀ l, m l [] ds xs = some q).choose = (ys, d) := by
    have := (⟨(ys, d), h3⟩ : ∃ q, ∀ l, m l [] ds xs = some q).choose_spec 0
    rw [h3 0] at this
    exact Option.some.inj this.symm
  rw [e]
theorem zhl {i : Nat} {f : Xe} {ρ ρ1 : List Sl} {d : D} {K : Fl -> Prop} (h : f ρ = some (d, ρ1)) (k : K (.nx (ρ1.set i (.im d)))) : wp (zdd i f) ρ K := ⟨_, by unfold zdd; rw [h]; rfl, k⟩
theorem zn5 {f : Xe} {ρ ρ1 : List Sl} {d : D} {K : Fl -> Prop} (h : f ρ = some (d, ρ1)) (k : K (.rtS d ρ1)) : wp (zd8 f) ρ K := ⟨_, by unfold zd8; rw [h]; rfl, k⟩
theorem zgr {i : Nat} {f : Xe} {ρ ρ1 : List Sl} {x d z : D} {K : Fl -> Prop} (h0 : ρ[i]? = some (.im x)) (h : f ρ = some (d, ρ1)) (h2 : zgk x d = some z) (k : K (.nx (ρ1.set i (.im z)))) : wp (zcw i f) ρ K := ⟨_, by
  unfold zcw
  rw [h0]
  show (f ρ).bind _ = _
  rw [h, Option.bind_some, h2]
  rfl, k⟩
noncomputable def nx (s : Int) : Int := (s * 1181783497276652981 + 12345678910987) % (2 ^ 61 - 1)
noncomputable def okS (s : Int) : Prop := 0 <= s /\ s < 2305843009213693951
theorem zc7 (s : Int) : okS (nx s) := by
  have h1 := Int.emod_nonneg (s * 1181783497276652981 + 12345678910987) (show (2 ^ 61 - 1 : Int) ≠ 0 by decide)
  have h2 := Int.emod_lt_of_pos (s * 1181783497276652981 + 12345678910987) (show (0 : Int) < 2 ^ 61 - 1 by decide)
  unfold okS nx
  omega
noncomputable def dr (s k : Int) : Int := nx s / 65537 % k
theorem zc6 (s : Int) {k : Int} (h : 0 < k) : 0 <= dr s k /\ dr s k < k := ⟨Int.emod_nonneg _ (by omega), Int.emod_lt_of_pos _ h⟩
theorem zf6 (l : Addr) (s k : Int) (h : okS s) (hk : 0 < k) : m_2 l [] [.int k] [.int s] = some ([.int (nx s)], .int (dr s k)) := by
  obtain ⟨h0, h1⟩ := h
  have w : wp b_2 [.pin l [.int s], .im (.int k)] (fun o => o = .rtS (.int (dr s k)) [.pin l [.int (nx s)], .im (.int k)]) := by
    unfold b_2
    apply zas
    have hg : zco s 1181783497276652981 := .inr ⟨by omega, by decide⟩
    refine zph (d := .int (nx s)) (k := 0) (xs := [.int s]) ?_ rfl rfl (by decide) (by show (0 : Int) < 1; decide) ?_
    · exact zap (zap (zap rfl rfl (zk9 hg)) rfl zik) (zap (zap rfl rfl (ziu (by decide))) rfl zgo) (zev (by decide))
    · exact zh7 (zap (zap rfl rfl (zi8 (by have := zc7 s; unfold okS at this; walk_at "evS"))) rfl (zev hk)) rfl
  obtain ⟨o, e, rfl⟩ := w
  exact zid (ρ := [.pin l [.int (nx s)], .im (.int k)]) e rfl
noncomputable def sgA : Str := "abcdefghijklmnopqrstuvwxyzABCDEFGHIJKLMNOPQRSTUVWXYZ0123456789"
noncomputable def sgB : Str := "!\"#$&'*+-./:;<=>?\x40[\\]^_`{|}~\t\n"
noncomputable def sg : List Nat := sgA.cps.toList ++ sgB.cps.toList
theorem zoo : sgA ++ sgB = tx sg := by
  unfold sg
  rw [<- zf8, ze9, ze9]
theorem zhu : sg.length = 92 := by decide +kernel
theorem zmr : ∀ x ∈ sg, x ≠ 32 /\ zbj x = false := by decide +kernel
noncomputable def zef (p : Int × List Nat) : Int × List Nat := (nx p.1, p.2 ++ [sg.getD (dr p.1 92).toNat 0])
noncomputable def zbf : Nat -> Int × List Nat -> Int × List Nat
  | 0, p => p
  | n + 1, p => zef (zbf n p)
theorem zjw (v : Int) (h : 0 <= v /\ v < 92) : sg[v.toNat]? = some (sg.getD v.toNat 0) /\ (sg.getD v.toNat 0) ∈ sg := by
  have hl : v.toNat < sg.length := by rw [zhu]; omega
  rw [List.getD_eq_getElem?_getD, List.getElem?_eq_getElem hl]
  exact ⟨rfl, List.getElem_mem hl⟩
theorem zg9 (p : Int × List Nat) (h : okS p.1) (hp : zdq p.2) : ∀ n, okS (zbf n p).1 /\ zdq (zbf n p).2 /\ (zbf n p).2.length = p.2.length + n
  | 0 => ⟨h, hp, rfl⟩
  | n + 1 => by
    obtain ⟨a, b, c⟩ := zg9 p h hp n
    refine ⟨zc7 _, fun x hx => ?_, ?_⟩
    · rcases List.mem_append.mp hx with e | e
      · exact b x e
      · rw [List.mem_singleton.mp e]
        exact zmr _ (zjw _ (zc6 _ (by decide))).2
    · show ((zbf n p).2 ++ [_]).length = _
      rw [List.length_append, c]
      rfl
noncomputable def zce (s : Int) : Int × List Nat := zbf (1 + dr s 6).toNat (nx s, [])
theorem zs6 (l : Addr) (s : Int) (h : okS s) : m_4 l [] [] [.int s] = some ([.int (zce s).1], .str (tx (zce s).2)) := by
  have d6 := zc6 s (k := 6) (by decide)
  have rk := zg9 (nx s, []) (zc7 s) (fun x hx => (List.not_mem_nil hx).elim)
  have w : wp b_4 [.pin l [.int s], .no, .no, .no] (fun o => ∃ a, o = .rtS (.str (tx (zce s).2)) [.pin l [.int (zce s).1], .im (.str (tx sg)), .im (.str (tx (zce s).2)), a]) := by
    unfold b_4
    apply zas
    refine zdv (d := .str sgA) rfl ?_
    show wp _ [.pin l [.int s], .im (.str sgA), .no, .no] _
    apply zas
    refine zgr (x := .str sgA) (d := .str sgB) (z := .str (tx sg)) rfl (zcv rfl) ?_ ?_
    · rw [<- zoo]
      show (if sgA.length + sgB.length <= 16777216 then some (D.str (sgA ++ sgB)) else none) = _
      rw [if_pos (by decide +kernel)]
    show wp _ [.pin l [.int s], .im (.str (tx sg)), .no, .no] _
    apply zas
    refine zdv (d := .str (tx [])) rfl ?_
    show wp _ [.pin l [.int s], .im (.str (tx sg)), .im (.str (tx [])), .no] _
    apply zas
    have hr : zdz (zbi (mX2 zbh (mX (fun _ => some (.int 1))) (zb3 0 m_2 (zbi (mX (fun _ => some (.int 6))) zbw))) zbw) [.pin l [.int s], .im (.str (tx sg)), .im (.str (tx [])), .no] = some (rng 0 (1 + dr s 6).toNat, [.pin l [.int (nx s)], .im (.str (tx sg)), .im (.str (tx [])), .no]) := by
      refine zta (zer (zkr (zcv rfl) (zga rfl (zer (zcv rfl) rfl) rfl (zf6 l s 6 h (by decide))) zik) rfl) ?_
      show (if -(2 ^ 62) <= (1 + dr s 6) /\ (1 + dr s 6) < 2 ^ 62 then some (rng 0 (1 + dr s 6).toNat) else none) = _
      rw [if_pos ⟨by omega, by omega⟩]
    refine zn2 hr ?_
    refine zhb (List.range (1 + dr s 6).toNat) (fun (i : Nat) => D.int i) (fun pre ρ => ∃ a, ρ = [.pin l [.int (zbf pre.length (nx s, [])).1], .im (.str (tx sg)), .im (.str (tx (zbf pre.length (nx s, [])).2)), a]) ?_ ⟨_, rfl⟩ ?_ ?_
    · rw [znx]
      simp
    · rintro pre x post ρ he ⟨a, rfl⟩
      refine ⟨_, rfl, ?_⟩
      show wp _ [.pin l [.int (zbf pre.length (nx s, [])).1], .im (.str (tx sg)), .im (.str (tx (zbf pre.length (nx s, [])).2)), .im (.int x)] _
      obtain ⟨k1, k2, k3⟩ := rk pre.length
      have hpre : pre.length < 7 := by
        have := congrArg List.length he
        rw [List.length_range, List.length_append, List.length_cons] at this
        omega
      generalize hp : zbf pre.length (nx s, []) = p at k1 k2 k3
      have d92 := zc6 p.1 (k := 92) (by decide)
      refine zgr (x := .str (tx p.2)) (d := .str ⟨#[sg.getD (dr p.1 92).toNat 0]⟩) (z := .str (tx (zef p).2)) (ρ1 := [.pin l [.int (zef p).1], .im (.str (tx sg)), .im (.str (tx p.2)), .im (.int x)]) rfl ?_ ?_ ?_
      · have e92 : zax za7 (zah (zaf 1) (fun _ => some [])) [.pin l [.int p.1], .im (.str (tx sg)), .im (.str (tx p.2)), .im (.int x)] = some (.int 92) := by
          refine zc8 (ds := [.str (tx sg)]) rfl ?_
          show (if (tx sg).length <= 16777216 then some (D.int ((tx sg).length : Int)) else none) = _
          rw [zbn, zhu]
          rfl
        have ec : zb3 0 m_2 (zbi (mX (zax za7 (zah (zaf 1) (fun _ => some [])))) zbw) [.pin l [.int p.1], .im (.str (tx sg)), .im (.str (tx p.2)), .im (.int x)] = some (.int (dr p.1 92), [.pin l [.int (nx p.1)], .im (.str (tx sg)), .im (.str (tx p.2)), .im (.int x)]) := zga (i := 0) (ρ1 := [.pin l [.int p.1], .im (.str (tx sg)), .im (.str (tx p.2)), .im (.int x)]) rfl (zer (zcv e92) rfl) rfl (zf6 l p.1 92 k1 (by decide))
        refine zkr (zcv rfl) ec ?_
        · show (if 0 <= dr p.1 92 /\ dr p.1 92 < 2 ^ 63 /\ dr p.1 92 < ((tx sg).length : Int) then ((tx sg).cps[(dr p.1 92).toNat]?).map (fun ch => D.str ⟨#[ch]⟩) else none) = _
          rw [if_pos ⟨d92.1, by omega, by rw [zbn, zhu]; exact d92.2⟩]
          have := (zjw _ d92).1
          show ((sg.toArray)[(dr p.1 92).toNat]?).map _ = _
          rw [List.getElem?_toArray, this]
          rfl
      · show (if (tx p.2).length + 1 <= 16777216 then some (D.str (tx p.2 ++ ⟨#[_]⟩)) else none) = _
        rw [if_pos (by rw [zbn, k3]; simp only [List.length_nil]; omega)]
        exact congrArg (fun z => some (D.str z)) (zf8 p.2 [_])
      · refine ⟨.im (.int x), ?_⟩
        rw [List.length_append, show ([x] : List Nat).length = 1 from rfl]
        show _ = [Sl.pin l [.int (zef (zbf pre.length (nx s, []))).1], .im (.str (tx sg)), .im (.str (tx (zef (zbf pre.length (nx s, []))).2)), .im (.int x)]
        rw [hp]
        rfl
    · rintro ρ ⟨a, rfl⟩
      rw [List.length_range]
      exact zh7 rfl ⟨a, rfl⟩
  obtain ⟨o, e, a, rfl⟩ := w
  exact zid (ρ := [.pin l [.int (zce s).1], .im (.str (tx sg)), .im (.str (tx (zce s).2)), a]) e rfl
noncomputable def pcP (s : Int) : Int × List Nat := if dr s 6 < 3 then (nx s, [[40, 41, 44].getD (dr s 6).toNat 0]) else zce (nx s)
theorem zqh (l : Addr) (s : Int) (h : okS s) : m_5 l [] [] [.int s] = some ([.int (pcP s).1], .str (tx (pcP s).2)) := by
  have d6 := zc6 s (k := 6) (by decide)
  have w : wp b_5 [.pin l [.int s], .no] (fun o => o = .rtS (.str (tx (pcP s).2)) [.pin l [.int (pcP s).1], .im (.int (dr s 6))]) := by
    unfold b_5
    apply zas
    refine zhl (zga rfl (zer (zcv rfl) rfl) rfl (zf6 l s 6 h (by decide))) ?_
    show wp _ [.pin l [.int (nx s)], .im (.int (dr s 6))] _
    apply zas
    refine zdh (b := decide (dr s 6 < 3)) (zbt (zap rfl rfl zl6)) (fun hb => ?_) (fun hb => ?_)
    · have hb := of_decide_eq_true hb
      unfold pcP
      rw [if_pos hb]
      refine zh7 (d := .str (tx [[40, 41, 44].getD (dr s 6).toNat 0])) ?_ rfl
      have : dr s 6 = 0 \/ dr s 6 = 1 \/ dr s 6 = 2 := by omega
      rcases this with e | e | e <;> (rw [e]; rfl)
    · have hb := of_decide_eq_false hb
      refine zgb ?_
      show wp _ [.pin l [.int (nx s)], .im (.int (dr s 6))] _
      unfold pcP
      rw [if_neg hb]
      exact zn5 (zga rfl rfl rfl (zs6 l (nx s) (zc7 s))) rfl
  obtain ⟨o, e, rfl⟩ := w
  exact zid (ρ := [.pin l [.int (pcP s).1], .im (.int (dr s 6))]) e rfl
theorem zs5 (s : Int) : okS (pcP s).1 /\ (pcP s).2.length <= 6 /\ ((∃ x, zbj x = true /\ (pcP s).2 = [x]) \/ (zdq (pcP s).2 /\ (pcP s).2 ≠ [])) := by
  have d6 := zc6 s (k := 6) (by decide)
  unfold pcP
  split
  · refine ⟨zc7 s, by show 1 <= 6; decide, .inl ⟨_, ?_, rfl⟩⟩
    have : dr s 6 = 0 \/ dr s 6 = 1 \/ dr s 6 = 2 := by omega
    rcases this with e | e | e <;> (rw [e]; rfl)
  · have d := zc6 (nx s) (k := 6) (by decide)
    obtain ⟨a, b, c⟩ := zg9 (nx (nx s), []) (zc7 _) (fun x hx => (List.not_mem_nil hx).elim) (1 + dr (nx s) 6).toNat
    rw [List.length_nil] at c
    unfold zce
    refine ⟨a, by omega, .inr ⟨b, fun e => ?_⟩⟩
    rw [e, List.length_nil] at c
    omega
noncomputable def isL (w : List Nat) : Bool := w == [40] || w == [41] || w == [44]
theorem zk4 {x : Nat} (h : zbj x = true) : isL [x] = true := by
  unfold zbj at h
  unfold isL
  simp only [Bool.or_eq_true, beq_iff_eq] at h ⊢
  rcases h with (h | h) | h <;> simp [h]
theorem zmk {w : List Nat} (h : zdq w) : isL w = false := by
  cases e : isL w with
  | false => rfl
  | true =>
    unfold isL at e
    simp only [Bool.or_eq_true, beq_iff_eq] at e
    rcases e with (e | e) | e <;> (subst e; have := (h _ (List.mem_singleton.mpr rfl)).2; cases this)
theorem zhm (a b : List Nat) : (tx a == tx b) = (a == b) := by
  by_cases h : a = b
  · subst h; rw [beq_self_eq_true, beq_self_eq_true]
  · rw [beq_eq_false_iff_ne.mpr h]
    exact beq_eq_false_iff_ne.mpr fun e => h (ziz e)
theorem zjr (w : List Nat) : zc3 (.str (tx w)) (.lst [.str "(", .str ")", .str ","]) = some (.bl (!isL w)) := by
  have e1 : ("(" : Str) = tx [40] := rfl
  have e2 : (")" : Str) = tx [41] := rfl
  have e3 : ("," : Str) = tx [44] := rfl
  rw [e1, e2, e3]
  show some (D.bl (!((tx [40] == tx w) || ((tx [41] == tx w) || ((tx [44] == tx w) || false))))) = _
  rw [zhm, zhm, zhm]
  unfold isL
  rw [Bool.or_false, Bool.or_assoc, BEq.comm (a := [40]), BEq.comm (a := [41]), BEq.comm (a := [44])]
theorem zft (a b : List (List Nat)) : wD (a ++ b) = wD a ++ wD b := List.map_append
theorem zks (a : List (List Nat)) (w : List Nat) : ixN (wD (a ++ [w])).length (-1) = some a.length := by
  have hl : (wD (a ++ [w])).length = a.length + 1 := by simp [wD]
  unfold ixN
  rw [if_neg (by decide), hl, if_pos (by omega)]
  congr 1
  omega
theorem zkf (a : List (List Nat)) (w : List Nat) : atI (wD (a ++ [w])) (-1) = some (.str (tx w)) := by
  unfold atI
  rw [zks, Option.bind_some, zft, List.getElem?_append_right (by simp [wD])]
  simp [wD]
theorem zkx (g : Int) (h : 0 <= g /\ g < 3) : zed (.str " ") (.int g) = some (.str (tx (List.replicate g.toNat 32))) := by
  show (if (" " : Str).length = 1 /\ 0 <= g /\ g <= 1000 then some (D.str ⟨(List.replicate g.toNat ((" " : Str).cps.getD 0 0)).toArray⟩) else none) = _
  rw [if_pos ⟨by decide, h.1, by omega⟩]
  rfl
theorem zgf (a b : List Nat) (h : a.length + b.length <= 16777216) : zbh (.str (tx a)) (.str (tx b)) = some (.str (tx (a ++ b))) := by
  show (if (tx a).length + (tx b).length <= 16777216 then some (D.str (tx a ++ tx b)) else none) = _
  rw [zbn, zbn, if_pos h, zf8]
structure Ji (n : Nat) (L : List Nat) (ds : List (List Nat)) (cur : List Nat) : Prop where
  go : ∀ R, ws (L ++ R) [] = ds ++ ws R cur
  pl : zdq cur
  la : cur = [] -> ds = [] \/ ∃ ds' x, zbj x = true /\ ds = ds' ++ [[x]]
  ln : L.length <= 8 * n
  dn : (ds ++ fl cur).length <= n
  cl : cur.length <= 6 * n
theorem zcm {w : List Nat} (h : w ≠ []) : fl w = [w] := if_neg h
theorem ze7 : fl [] = [] := rfl
theorem zpw (ns : List Int) (h : ns.length <= 63) : m_1 [.kl (ns.map D.int)] = some (.bl true) := by
  apply zkg
  unfold b_1
  show wp _ [.im (.kl (ns.map D.int)), .no, .no, .no, .no, .no, .no, .no, .no] _
  apply zas
  refine zdv (d := .str (tx [])) rfl ?_
  apply zas
  refine zfw (d := wD ([] ++ fl [])) rfl ?_
  show wp _ [.im (.kl (ns.map D.int)), .im (.str (tx [])), .own (wD ([] ++ fl [])), .no, .no, .no, .no, .no, .no] _
  apply zas
  obtain ⟨cs, hcs, hcl⟩ : ∃ cs : List Int, zdb (zbo (mSl (zaf 0) (fun _ => some none) (mPt (fun _ => some (.int 120))))) [.im (.kl (ns.map D.int)), .im (.str (tx [])), .own (wD ([] ++ fl [])), .no, .no, .no, .no, .no, .no] = some (cs.map D.int) /\ cs.length <= ns.length :=
    ⟨_, zgp (zi5 (zma rfl rfl rfl)) rfl, by rw [List.length_take, List.length_drop]; omega⟩
  refine zhb cs D.int (fun pre ρ => ∃ L ds cur a3 a4 a5 a6 a7, ρ = [.im (.kl (ns.map D.int)), .im (.str (tx L)), .own (wD (ds ++ fl cur)), a3, a4, a5, a6, a7, .no] /\ Ji pre.length L ds cur) hcs ⟨[], [], [], .no, .no, .no, .no, .no, rfl, ⟨fun R => rfl, fun x hx => (List.not_mem_nil hx).elim, fun _ => .inl rfl, Nat.le_refl _, Nat.le_refl _, Nat.le_refl _⟩⟩ ?_ ?_
  · rintro pre c post ρ he ⟨L, ds, cur, a3, a4, a5, a6, a7, rfl, J⟩
    have hpre : pre.length < 63 := by
      have := congrArg List.length he
      rw [List.length_append, List.length_cons] at this
      omega
    have hn := J.ln
    have hdn := J.dn
    refine ⟨_, rfl, ?_⟩
    show wp _ [.im (.kl (ns.map D.int)), .im (.str (tx L)), .own (wD (ds ++ fl cur)), .im (.int c), a4, a5, a6, a7, .no] _
    have hs : okS (c % (2 ^ 61 - 1)) := by
      have h1 := Int.emod_nonneg c (show (2 ^ 61 - 1 : Int) ≠ 0 by decide)
      have h2 := Int.emod_lt_of_pos c (show (0 : Int) < 2 ^ 61 - 1 by decide)
      unfold okS
      omega
    generalize hs0 : c % (2 ^ 61 - 1) = s0 at hs
    apply zas
    refine zfw (d := [.int s0]) (by rw [<- hs0]; exact zb0 (zap rfl (zap (zap rfl rfl (ziu (by decide))) rfl zgo) (zev (by decide))) rfl) ?_
    show wp _ [.im (.kl (ns.map D.int)), .im (.str (tx L)), .own (wD (ds ++ fl cur)), .im (.int c), .own [.int s0], a5, a6, a7, .no] _
    apply zas
    refine zhl (zkl rfl (zer (zcv rfl) rfl) rfl fun l => zf6 l s0 3 hs (by decide)) ?_
    show wp _ [.im (.kl (ns.map D.int)), .im (.str (tx L)), .own (wD (ds ++ fl cur)), .im (.int c), .own [.int (nx s0)], .im (.int (dr s0 3)), a6, a7, .no] _
    apply zas
    refine zhl (zkl rfl rfl rfl fun l => zqh l (nx s0) (zc7 s0)) ?_
    obtain ⟨_, pl6, pk⟩ := zs5 (nx s0)
    generalize (pcP (nx s0)).1 = s2
    generalize (pcP (nx s0)).2 = w at pl6 pk
    have hg := zc6 s0 (k := 3) (by decide)
    generalize dr s0 3 = g at hg
    show wp _ [.im (.kl (ns.map D.int)), .im (.str (tx L)), .own (wD (ds ++ fl cur)), .im (.int c), .own [.int s2], .im (.int g), .im (.str (tx w)), a7, .no] _
    apply zas
    refine zdv (d := .bl (decide (g = 0) && !decide (cur = []))) ?_ ?_
    · unfold zcn
      rw [zbt (b := decide (g = 0)) (zap rfl rfl ((zi6 _ _).trans (by rw [show (g == 0) = decide (g = 0) from rfl])))]
      rw [Option.bind_some]
      by_cases h0 : g = 0
      · rw [decide_eq_true h0, if_pos rfl, Bool.true_and]
        have hne : m2 dNe (zd6 2) (zbo (fun _ => some [])) [.im (.kl (ns.map D.int)), .im (.str (tx L)), .own (wD (ds ++ fl cur)), .im (.int c), .own [.int s2], .im (.int g), .im (.str (tx w)), a7, .no] = some (.bl (!(ds ++ fl cur).isEmpty)) := by
          exact zap rfl rfl (zi7 (ds ++ fl cur) _)
        have hni : ∀ a v, ds ++ fl cur = a ++ [v] -> m2 zc3 (mIx (zcl 2) (m1 zct (fun _ => some (.int 1)))) (zbo (zah (fun _ => some (.str "(")) (zah (fun _ => some (.str ")")) (zah (fun _ => some (.str ",")) (fun _ => some []))))) [.im (.kl (ns.map D.int)), .im (.str (tx L)), .own (wD (ds ++ fl cur)), .im (.int c), .own [.int s2], .im (.int g), .im (.str (tx w)), a7, .no] = some (.bl (!isL v)) := fun a v e => by
          rw [e]
          exact zap (zgz (ds := wD (a ++ [v])) rfl rfl (zkf a v)) rfl (zjr v)
        rw [zbt hne, Option.bind_some]
        by_cases hc : cur = []
        · rw [decide_eq_true hc]
          rcases J.la hc with e | ⟨ds', x, hx, e⟩
          · rw [e, hc]; rfl
          · have e2 : ds ++ fl cur = ds' ++ [[x]] := by rw [e, hc, ze7, List.append_nil]
            rw [if_pos (by rw [e2]; simp), hni ds' [x] e2, zk4 hx]
        · rw [decide_eq_false hc, if_pos (by rw [zcm hc]; simp), hni ds cur (by rw [zcm hc]), zmk J.pl]
      · rw [decide_eq_false h0]
        rfl
    show wp _ [.im (.kl (ns.map D.int)), .im (.str (tx L)), .own (wD (ds ++ fl cur)), .im (.int c), .own [.int s2], .im (.int g), .im (.str (tx w)), .im (.bl (decide (g = 0) && !decide (cur = []))), .no] _
    apply zas
    have hrl : (List.replicate g.toNat 32).length = g.toNat := List.length_replicate
    refine zgr (x := .str (tx L)) (d := .str (tx (List.replicate g.toNat 32 ++ w))) (z := .str (tx (L ++ (List.replicate g.toNat 32 ++ w)))) rfl (zcv (zap (zap rfl rfl (zkx g hg)) rfl (zgf _ _ (by omega)))) ?_ ?_
    · show (if (tx L).length + (tx (List.replicate g.toNat 32 ++ w)).length <= 16777216 then some (D.str (tx L ++ tx (List.replicate g.toNat 32 ++ w))) else none) = _
      rw [zbn, zbn, zf8, if_pos (by rw [List.length_append]; omega)]
    show wp _ [.im (.kl (ns.map D.int)), .im (.str (tx (L ++ (List.replicate g.toNat 32 ++ w)))), .own (wD (ds ++ fl cur)), .im (.int c), .own [.int s2], .im (.int g), .im (.str (tx w)), .im (.bl (decide (g = 0) && !decide (cur = []))), .no] _
    have nl : (L ++ (List.replicate g.toNat 32 ++ w)).length <= 8 * (pre ++ [c]).length := by
      rw [List.length_append, List.length_append, List.length_append, List.length_singleton]
      omega
    refine zdh (b := (decide (g = 0) && !decide (cur = [])) && !isL w) (zlz (zhr rfl rfl) (zbt (zap rfl rfl (zjr w)))) (fun hb => ?_) (fun hb => ?_)
    · simp only [Bool.and_eq_true, decide_eq_true_eq, Bool.not_eq_true', decide_eq_false_iff_not] at hb
      obtain ⟨⟨h0, hc⟩, hw⟩ := hb
      rcases pk with ⟨x, hx, e⟩ | ⟨pw, nw⟩
      · rw [e, zk4 hx] at hw; cases hw
      have hput : zdp 2 (m1 zct (fun _ => some (.int 1))) (m2 zbh (mIx (zcl 2) (m1 zct (fun _ => some (.int 1)))) (zaf 6)) [.im (.kl (ns.map D.int)), .im (.str (tx (L ++ (List.replicate g.toNat 32 ++ w)))), .own (wD (ds ++ fl cur)), .im (.int c), .own [.int s2], .im (.int g), .im (.str (tx w)), .im (.bl (decide (g = 0) && !decide (cur = []))), .no] = some (.nx [.im (.kl (ns.map D.int)), .im (.str (tx (L ++ (List.replicate g.toNat 32 ++ w)))), .own (wD (ds ++ fl (cur ++ w))), .im (.int c), .own [.int s2], .im (.int g), .im (.str (tx w)), .im (.bl (decide (g = 0) && !decide (cur = []))), .no]) := by
        have ev : m2 zbh (mIx (zcl 2) (m1 zct (fun _ => some (.int 1)))) (zaf 6) [.im (.kl (ns.map D.int)), .im (.str (tx (L ++ (List.replicate g.toNat 32 ++ w)))), .own (wD (ds ++ [cur])), .im (.int c), .own [.int s2], .im (.int g), .im (.str (tx w)), .im (.bl (decide (g = 0) && !decide (cur = []))), .no] = some (.str (tx (cur ++ w))) := zap (zgz (ds := wD (ds ++ [cur])) rfl rfl (zkf ds cur)) rfl (zgf _ _ (by have := J.cl; omega))
        rw [zcm hc, zcm (w := cur ++ w) (fun e => hc (List.append_eq_nil_iff.mp e).1)]
        unfold zdp
        rw [ev, Option.bind_some]
        show ((ixN (wD (ds ++ [cur])).length (-1)).map fun j => Fl.nx _) = _
        rw [zks]
        have es : (wD (ds ++ [cur])).set ds.length (.str (tx (cur ++ w))) = wD (ds ++ [cur ++ w]) := by
          rw [zft, zft, List.set_append_right _ _ (by simp [wD])]
          simp [wD]
        rw [<- es]
        rfl
      refine zlc hput ?_
      refine ⟨_, ds, cur ++ w, _, _, _, _, _, rfl, ⟨fun R => ?_, ?_, fun e => absurd (List.append_eq_nil_iff.mp e).1 hc, nl, ?_, ?_⟩⟩
      · rw [h0]
        show ws (L ++ w ++ R) [] = _
        rw [List.append_assoc, J.go, zff w R cur pw]
      · intro x hx
        rcases List.mem_append.mp hx with e | e
        · exact J.pl x e
        · exact pw x e
      · rw [zcm hc, List.length_append, List.length_singleton] at hdn
        rw [zcm (by intro e; exact hc (List.append_eq_nil_iff.mp e).1), List.length_append, List.length_append, List.length_singleton, List.length_singleton]
        omega
      · have := J.cl
        rw [List.length_append, List.length_append, List.length_singleton]
        omega
    · have hap : ∀ {K : Fl -> Prop}, K (.nx [.im (.kl (ns.map D.int)), .im (.str (tx (L ++ (List.replicate g.toNat 32 ++ w)))), .own (wD ((ds ++ fl cur) ++ [w])), .im (.int c), .own [.int s2], .im (.int g), .im (.str (tx w)), .im (.bl (decide (g = 0) && !decide (cur = []))), .no]) -> wp (zcp 2 (zaf 6)) [.im (.kl (ns.map D.int)), .im (.str (tx (L ++ (List.replicate g.toNat 32 ++ w)))), .own (wD (ds ++ fl cur)), .im (.int c), .own [.int s2], .im (.int g), .im (.str (tx w)), .im (.bl (decide (g = 0) && !decide (cur = []))), .no] K := fun k => by
        refine zjs (d := .str (tx w)) (xs := wD (ds ++ fl cur)) rfl rfl (by unfold wD; rw [List.length_map]; omega) ?_
        rw [zft (ds ++ fl cur) [w]] at k
        exact k
      apply hap
      have dl : ((ds ++ fl cur) ++ [w]).length <= (pre ++ [c]).length := by
        rw [List.length_append, List.length_append (as := pre), List.length_singleton, List.length_singleton]
        omega
      rcases pk with ⟨x, hx, e⟩ | ⟨pw, nw⟩
      · subst e
        refine ⟨_, (ds ++ fl cur) ++ [[x]], [], _, _, _, _, _, by rw [ze7, List.append_nil], ⟨fun R => ?_, fun x hx => (List.not_mem_nil hx).elim, fun _ => .inr ⟨_, x, hx, rfl⟩, nl, by rw [ze7, List.append_nil]; exact dl, Nat.zero_le _⟩⟩
        rw [List.append_assoc, J.go, List.append_assoc]
        show ds ++ ws (List.replicate g.toNat 32 ++ (x :: R)) cur = _
        cases g.toNat with
        | zero =>
          show ds ++ ws (x :: R) cur = _
          rw [zj0 R cur hx]
          simp
        | succ n =>
          rw [zhc, zj0 R [] hx, ze7]
          simp
      · refine ⟨_, ds ++ fl cur, w, _, _, _, _, _, by rw [zcm nw], ⟨fun R => ?_, pw, fun e => absurd e nw, nl, by rw [zcm nw]; exact dl, by rw [List.length_append, List.length_singleton]; omega⟩⟩
        rw [List.append_assoc, J.go, List.append_assoc, List.append_assoc]
        congr 1
        rw [zmk pw, Bool.not_false, Bool.and_true] at hb
        cases hgn : g.toNat with
        | zero =>
          have g0 : g = 0 := by omega
          rw [decide_eq_true g0, Bool.true_and] at hb
          have hc : cur = [] := by simpa using hb
          subst hc
          show ws (w ++ R) [] = _
          rw [zff w R [] pw]
          rfl
        | succ n =>
          rw [zhc, zff w R [] pw]
          rfl
  · rintro ρ ⟨L, ds, cur, a3, a4, a5, a6, a7, rfl, J⟩
    have hn := J.ln
    have hk : 0 <= (ns.length : Int) % 3 /\ (ns.length : Int) % 3 < 3 := ⟨by omega, by omega⟩
    apply zas
    have e3 : zax za7 (zah (zaf 0) (fun _ => some [])) [.im (.kl (ns.map D.int)), .im (.str (tx L)), .own (wD (ds ++ fl cur)), a3, a4, a5, a6, a7, .no] = some (.int (ns.length : Int)) := zc8 rfl (zlv _ _)
    refine zdv (d := .str (tx (List.replicate ((ns.length : Int) % 3).toNat 32))) (zap rfl (zap e3 rfl (zev (by decide))) (zkx _ hk)) ?_
    have k3 : ((ns.length : Int) % 3).toNat < 3 := by omega
    generalize ((ns.length : Int) % 3).toNat = k at k3
    show wp _ [.im (.kl (ns.map D.int)), .im (.str (tx L)), .own (wD (ds ++ fl cur)), a3, a4, .im (.str (tx (List.replicate k 32))), a6, a7, .no] _
    have hw : ws (L ++ List.replicate k 32) [] = ds ++ fl cur := by
      rw [J.go]
      cases k with
      | zero => rfl
      | succ k =>
        have := zhc k [] cur
        rw [List.append_nil] at this
        rw [this]
        show ds ++ (fl cur ++ []) = _
        rw [List.append_nil]
    have hw0 : ws (List.replicate k 32) [] = [] := by
      have := zgu k []
      rw [List.append_nil] at this
      exact this
    have hr : (List.replicate k 32).length = k := List.length_replicate
    have hl : (L ++ List.replicate k 32).length <= 1000 := by rw [List.length_append]; omega
    apply zas
    refine zfw (d := wD (ds ++ fl cur)) (zqg (zb0 (zap rfl rfl (zgf L (List.replicate k 32) (by omega))) rfl) (by rw [zno _ hl, hw])) ?_
    show wp _ [.im (.kl (ns.map D.int)), .im (.str (tx L)), .own (wD (ds ++ fl cur)), a3, a4, .im (.str (tx (List.replicate k 32))), a6, a7, .own (wD (ds ++ fl cur))] _
    apply zas
    refine zj3 (ρ' := [.im (.kl (ns.map D.int)), .im (.str (tx L)), .im (.lst (wD (ds ++ fl cur))), a3, a4, .im (.str (tx (List.replicate k 32))), a6, a7, .own (wD (ds ++ fl cur))]) rfl ?_
    refine zdh (b := false) (zjd (b := true) (zhr (zmb (zb0 rfl (zb0 rfl rfl)) (zgx _) rfl) rfl)) (fun e => by cases e) fun _ => zgb ?_
    show wp _ [.im (.kl (ns.map D.int)), .im (.str (tx L)), .im (.lst (wD (ds ++ fl cur))), a3, a4, .im (.str (tx (List.replicate k 32))), a6, a7, .own (wD (ds ++ fl cur))] _
    apply zas
    have hdn := J.dn
    refine zjs (d := .str "x") (xs := wD (ds ++ fl cur)) rfl rfl (by unfold wD; rw [List.length_map]; omega) ?_
    refine zj3 rfl ?_
    refine zhk (d := .bl true) ?_ (zje rfl)
    refine zk7 (a := true) (b := true) ?_ ?_
    · exact zc8 (zb0 (zc8 (zb0 (zap rfl rfl (zgf L (List.replicate k 32) (by omega))) rfl) (zku _ hl)) (zb0 rfl rfl)) (by rw [hw]; exact zgx _)
    · exact zc8 (zb0 (zc8 (zb0 rfl rfl) (zku (List.replicate k 32) (by omega))) (zb0 rfl rfl)) (by rw [hw0]; exact zgx [])
section
variable {P : Program} {w : World} {K : PySem.W.Frag} {mg : Str -> Option Value} {base : Heap}
noncomputable def sp_law (K : PySem.W.Frag) : Sp := fun vs H Q _ => ∃ (a : Addr) (ns : List Int), vs = [.ref a] /\ SqL K H a (ns.map V.int) /\ ns.length <= 63 /\ ∀ H', Q (.bl true) H'
theorem sp_law_of {K : PySem.W.Frag} {H : Hp} {a : Addr} {ns : List Int} {E : XK} (hl : ns.length <= 63) (hS : SqL K H a (ns.map V.int)) : sp_law K [.ref a] H (fun v _ => v = .bl true) E := ⟨a, ns, rfl, hS, hl, fun _ => rfl⟩
theorem law_ok {a : Wa} (W : Wd K mg a) : zak P w K mg base CX0 4 a.f_1 a.fd_1 ["_law_script"] (sp_law K) := (zqc W).imp fun vs H Q E ⟨a, ns, ev, hS, hl, k⟩ =>
  ⟨H, [.kl (ns.map D.int)], .bl true, zac.refl _, ⟨.ref a, [], ev, ⟨a, _, rfl, hS, zaa.ints ns⟩, rfl⟩, rfl, zpw ns hl, fun v Hf' H' x r => by rw [show v = V.bl true from r]; exact k H'⟩
end
section
variable {K : PySem.W.Frag} {mg : Str -> Option Value}
theorem zkn {P : List Value -> Prop} (h : P []) : ∀ us : List Value, us.length = 0 -> P us := fun us e => by
  rw [List.eq_nil_of_length_eq_zero e]
  exact h
theorem zh9 {n : Nat} {P : List Value -> Prop} (h : ∀ a (us : List Value), us.length = n -> P (a :: us)) : ∀ us : List Value, us.length = n + 1 -> P us := fun us e => by
  cases us with
  | nil => cases e
  | cons a us => exact h a us (Nat.succ.inj e)
theorem ze3 {P : List Value -> Prop} (h : ∀ a0 : Value, P [a0]) : ∀ us : List Value, us.length = 1 -> P us := zh9 (P := fun us => P (us)) fun a0 => zkn (h a0)
theorem zlo {P : List Value -> Prop} (h : ∀ a0 a1 : Value, P [a0, a1]) : ∀ us : List Value, us.length = 2 -> P us := zh9 (P := fun us => P (us)) fun a0 => zh9 (P := fun us => P (a0 :: us)) fun a1 => zkn (h a0 a1)
theorem all_mk {l : PySem.W.OpenLaw} {w : World} {h : Heap} {f_0 : Addr} {od_0 an_0 : Option Addr} {sl_0 : Array (Option Value)} {oc_0 kV_0 dc_0 pm_0 cd_0 ct_0 : Value} {f_2 : Addr} {od_2 an_2 : Option Addr} {sl_2 : Array (Option Value)} {oc_2 kV_2 dc_2 pm_2 cd_2 ct_2 : Value} {f_4 : Addr} {od_4 an_4 : Option Addr} {sl_4 : Array (Option Value)} {oc_4 kV_4 dc_4 pm_4 cd_4 ct_4 : Value} {f_5 : Addr} {od_5 an_5 : Option Addr} {sl_5 : Array (Option Value)} {oc_5 kV_5 dc_5 pm_5 cd_5 ct_5 : Value} {f_3 : Addr} {od_3 an_3 : Option Addr} {sl_3 : Array (Option Value)} {oc_3 kV_3 dc_3 pm_3 cd_3 ct_3 : Value} {f_1 : Addr} {od_1 an_1 : Option Addr} {sl_1 : Array (Option Value)} {oc_1 kV_1 dc_1 pm_1 cd_1 ct_1 : Value} {t_LONE : Tok} {fa : Addr} (X : K.In h) (G : h.Ns mainGlobals mg) (hfa : mg "law" = some (.ref fa))
    (a_0 : PySem.W.nsIn K mainGlobals "words_of" = some (some (.ref f_0)))
    (l_0 : K.lookup f_0 = some ⟨oc_0, od_0, .func (PySem.W.fnOf "words_of" "words_of" (zb1 s_0) (za9 s_0) (zam s_0) .none kV_0 dc_0 pm_0 an_0 cd_0 ct_0), sl_0⟩)
    (c_0 : PySem.W.codeIn K cd_0 "words_of" = true)
    (k_0 : PySem.W.keepIn K (.ref f_0) = true)
    (a_2 : PySem.W.nsIn K mainGlobals "_law_next" = some (some (.ref f_2)))
    (l_2 : K.lookup f_2 = some ⟨oc_2, od_2, .func (PySem.W.fnOf "_law_next" "_law_next" (zb1 s_2) (za9 s_2) (zam s_2) .none kV_2 dc_2 pm_2 an_2 cd_2 ct_2), sl_2⟩)
    (c_2 : PySem.W.codeIn K cd_2 "_law_next" = true)
    (k_2 : PySem.W.keepIn K (.ref f_2) = true)
    (a_4 : PySem.W.nsIn K mainGlobals "_law_run" = some (some (.ref f_4)))
    (l_4 : K.lookup f_4 = some ⟨oc_4, od_4, .func (PySem.W.fnOf "_law_run" "_law_run" (zb1 s_4) (za9 s_4) (zam s_4) .none kV_4 dc_4 pm_4 an_4 cd_4 ct_4), sl_4⟩)
    (c_4 : PySem.W.codeIn K cd_4 "_law_run" = true)
    (k_4 : PySem.W.keepIn K (.ref f_4) = true)
    (a_5 : PySem.W.nsIn K mainGlobals "_law_piece" = some (some (.ref f_5)))
    (l_5 : K.lookup f_5 = some ⟨oc_5, od_5, .func (PySem.W.fnOf "_law_piece" "_law_piece" (zb1 s_5) (za9 s_5) (zam s_5) .none kV_5 dc_5 pm_5 an_5 cd_5 ct_5), sl_5⟩)
    (c_5 : PySem.W.codeIn K cd_5 "_law_piece" = true)
    (k_5 : PySem.W.keepIn K (.ref f_5) = true)
    (a_3 : PySem.W.nsIn K mainGlobals "_law_texts" = some (some (.ref f_3)))
    (l_3 : K.lookup f_3 = some ⟨oc_3, od_3, .func (PySem.W.fnOf "_law_texts" "_law_texts" (zb1 s_3) (za9 s_3) (zam s_3) .none kV_3 dc_3 pm_3 an_3 cd_3 ct_3), sl_3⟩)
    (c_3 : PySem.W.codeIn K cd_3 "_law_texts" = true)
    (k_3 : PySem.W.keepIn K (.ref f_3) = true)
    (a_1 : PySem.W.nsIn K mainGlobals "law" = some (some (.ref f_1)))
    (l_1 : K.lookup f_1 = some ⟨oc_1, od_1, .func (PySem.W.fnOf "law" "law" (zb1 s_1) (za9 s_1) (zam s_1) .none kV_1 dc_1 pm_1 an_1 cd_1 ct_1), sl_1⟩)
    (c_1 : PySem.W.codeIn K cd_1 "law" = true)
    (k_1 : PySem.W.keepIn K (.ref f_1) = true)
    (kt_NoneType_list : PySem.W.kitOne K (.type "NoneType") (.type "list") = some false)
    (kt_bool_list : PySem.W.kitOne K (.type "bool") (.type "list") = some false)
    (kt_int_list : PySem.W.kitOne K (.type "int") (.type "list") = some false)
    (kt_str_list : PySem.W.kitOne K (.type "str") (.type "list") = some false)
    (kt_list_list : PySem.W.kitOne K (.type "list") (.type "list") = some true)
    (kt_tuple_list : PySem.W.kitOne K (.type "tuple") (.type "list") = some false)
    (kt_dict_list : PySem.W.kitOne K (.type "dict") (.type "list") = some false)
    (kt_NoneType_str : PySem.W.kitOne K (.type "NoneType") (.type "str") = some false)
    (kt_bool_str : PySem.W.kitOne K (.type "bool") (.type "str") = some false)
    (kt_int_str : PySem.W.kitOne K (.type "int") (.type "str") = some false)
    (kt_str_str : PySem.W.kitOne K (.type "str") (.type "str") = some true)
    (kt_list_str : PySem.W.kitOne K (.type "list") (.type "str") = some false)
    (kt_tuple_str : PySem.W.kitOne K (.type "tuple") (.type "str") = some false)
    (kt_dict_str : PySem.W.kitOne K (.type "dict") (.type "str") = some false)
    (a_LONE : PySem.W.nsIn K mainGlobals "LONE" = some (some (.str "()," t_LONE)))
    (z_isinstance : PySem.W.nsIn K mainGlobals "isinstance" = some none)
    (z_len : PySem.W.nsIn K mainGlobals "len" = some none)
    (z_list : PySem.W.nsIn K mainGlobals "list" = some none)
    (z_range : PySem.W.nsIn K mainGlobals "range" = some none)
    (z_str : PySem.W.nsIn K mainGlobals "str" = some none)
    (z_zip : PySem.W.nsIn K mainGlobals "zip" = some none)
    : ∃ fd : FuncData, (∀ (s : Shared) (v : Value), BindsTo s fd ⟨[v], []⟩ [("_law_script", v)]) /\ ∃ a : Wa, ∃ W : Wd K mg a, a.f_1 = fa /\ a.fd_1 = fd := by
  have e := hfa.symm.trans (PySem.W.mg_of X G a_1)
  cases e
  have F_0 := zdf (st := s_0) l_0 c_0 k_0
  have F_2 := zdf (st := s_2) l_2 c_2 k_2
  have F_4 := zdf (st := s_4) l_4 c_4 k_4
  have F_5 := zdf (st := s_5) l_5 c_5 k_5
  have F_3 := zdf (st := s_3) l_3 c_3 k_3
  have F_1 := zdf (st := s_1) l_1 c_1 k_1
  exact ⟨PySem.W.fnOf "law" "law" (zb1 s_1) (za9 s_1) (zam s_1) .none kV_1 dc_1 pm_1 an_1 cd_1 ct_1, fun s v => .of_eq rfl, {
    f_0 := f_0,
    fd_0 := _,
    f_2 := f_2,
    fd_2 := _,
    f_4 := f_4,
    fd_4 := _,
    f_5 := f_5,
    fd_5 := _,
    f_3 := f_3,
    fd_3 := _,
    f_1 := f_1,
    fd_1 := _ }, {
    F_0 := F_0,
    b_0 := F_0.binds fun _ _ _ _ _ _ us hl => by
      revert us hl
      exact ze3 fun _ => rfl,
    g_0 := PySem.W.mg_of X G a_0,
    F_2 := F_2,
    b_2 := F_2.binds fun _ _ _ _ _ _ us hl => by
      revert us hl
      exact zlo fun _ _ => rfl,
    g_2 := PySem.W.mg_of X G a_2,
    F_4 := F_4,
    b_4 := F_4.binds fun _ _ _ _ _ _ us hl => by
      revert us hl
      exact ze3 fun _ => rfl,
    g_4 := PySem.W.mg_of X G a_4,
    F_5 := F_5,
    b_5 := F_5.binds fun _ _ _ _ _ _ us hl => by
      revert us hl
      exact ze3 fun _ => rfl,
    g_5 := PySem.W.mg_of X G a_5,
    F_3 := F_3,
    b_3 := F_3.binds fun _ _ _ _ _ _ us hl => by
      revert us hl
      exact zlo fun _ _ => rfl,
    g_3 := PySem.W.mg_of X G a_3,
    F_1 := F_1,
    b_1 := F_1.binds fun _ _ _ _ _ _ us hl => by
      revert us hl
      exact ze3 fun _ => rfl,
    g_1 := PySem.W.mg_of X G a_1,
    kt_NoneType_list := kt_NoneType_list,
    kt_bool_list := kt_bool_list,
    kt_int_list := kt_int_list,
    kt_str_list := kt_str_list,
    kt_list_list := kt_list_list,
    kt_tuple_list := kt_tuple_list,
    kt_dict_list := kt_dict_list,
    kt_NoneType_str := kt_NoneType_str,
    kt_bool_str := kt_bool_str,
    kt_int_str := kt_int_str,
    kt_str_str := kt_str_str,
    kt_list_str := kt_list_str,
    kt_tuple_str := kt_tuple_str,
    kt_dict_str := kt_dict_str,
    g_LONE := ⟨_, PySem.W.mg_of X G a_LONE⟩,
    z_isinstance := PySem.W.mg_none_of X G z_isinstance,
    z_len := PySem.W.mg_none_of X G z_len,
    z_list := PySem.W.mg_none_of X G z_list,
    z_range := PySem.W.mg_none_of X G z_range,
    z_str := PySem.W.mg_none_of X G z_str,
    z_zip := PySem.W.mg_none_of X G z_zip }, rfl, rfl⟩
end
end N_k71
theorem PySem.W.Fast.te15379691258199110963 : True := trivial
theorem PySem.W.Fast.te9883684291576688391 : True := trivial
open PySem PySem.W PyProof.Rows
set_option maxRecDepth 100000 in
set_option maxHeartbeats 0 in
theorem PySem.Challenge.cw_standstill_k71_words_holds : PySem.Challenge.rw_standstill_k71_words.Holds := by
  w_on; o_law; k_head; (case hw => w_witness2)
  k_fill
  refine L2.walk_ofK (l := PySem.Challenge.rw_standstill_k71_words) (n := 63) (k := 4) (x := "_law_script") (CX := L2.CX0) (sp := N_k71.sp_law) rfl (by decide) rfl ⟨rfl, by decide, by decide⟩ (fun w h Y => PySem.W.kIn_of Y) ?F (fun _ _ a ns hl _ hS => N_k71.sp_law_of hl hS) (fun _ _ _ _ z => z)
  case F =>
    intro w mg fa h KX G hmg
    have TT : ∃ fd : FuncData, (∀ (s : Shared) (v : Value), BindsTo s fd ⟨[v], []⟩ [("_law_script", v)]) /\ ∃ a : N_k71.Wa, ∃ W : N_k71.Wd (L2.KOf KX) mg a, a.f_1 = fa /\ a.fd_1 = fd := by
      dsimp only [L2.KOf]
      refine' N_k71.all_mk (l := PySem.Challenge.rw_standstill_k71_words) (w := w) KX G hmg ..
      all_goals first | k_is | kit_is | skip
    obtain ⟨fd, hb, a, W, e1, e2⟩ := TT
    subst e1 e2
    exact ⟨_, hb, fun base kb nb => N_k71.law_ok W⟩
