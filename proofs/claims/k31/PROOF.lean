import PyProof.Rows.All
import Wide.All
import OpenK.AllK
import Wide.FinOn
import Lean
import PyProof.EqAt
import PyProof.EqKinds
import PyProof.TupleCall
import PyProof.NeKinds
import PySem.Challenge.RW_standstill_k31_pressed
set_option Elab.async false
set_option genSizeOf false
set_option linter.all false
set_option maxRecDepth 100000
namespace L2
open PySem PySem.Spec PyProof.Rows
noncomputable abbrev Key := Sum Int Str
noncomputable def zgc : Key -> Value -> Bool
  | .inl k, v => Value.isInt k v
  | .inr x, v => Value.isStrOf x v
noncomputable def z3o (w : World) : Key -> Int
  | .inl k => hashInt k
  | .inr x => hashStr w x
theorem zey : ∀ {k : Key} {v : Value}, zgc k v = true -> (∃ i t, k = Sum.inl i /\ v = Value.int i t) \/ (∃ x t, k = Sum.inr x /\ v = Value.str x t)
  | .inl i, v, h => by
    obtain ⟨t, e⟩ := Value.isInt_shape (k := i) (v := v) h
    exact .inl ⟨i, t, rfl, e⟩
  | .inr x, v, h => by
    obtain ⟨t, e⟩ := Value.isStrOf_shape (x := x) (v := v) h
    exact .inr ⟨x, t, rfl, e⟩
theorem z5e (i : Int) (t : Tok) : zgc (.inl i) (.int i t) = true := by simp [zgc, Value.isInt]
theorem z0i (x : Str) (t : Tok) : zgc (.inr x) (.str x t) = true := by simp [zgc, Value.isStrOf]
theorem zzf (a b : Int) : decide ((Sum.inl a : Key) = Sum.inl b) = (a == b) := by
  by_cases e : a = b
  · subst e; simp
  · have h : ¬ (Sum.inl a : Key) = Sum.inl b := fun q => e (Sum.inl.inj q)
    rw [decide_eq_false h]
    exact (beq_eq_false_iff_ne.mpr e).symm
theorem z1g (a b : Str) : decide ((Sum.inr a : Key) = Sum.inr b) = decide (a = b) := by
  by_cases e : a = b
  · subst e; simp
  · have h : ¬ (Sum.inr a : Key) = Sum.inr b := fun q => e (Sum.inr.inj q)
    rw [decide_eq_false h, decide_eq_false e]
theorem z4u (a : Int) (b : Str) : decide ((Sum.inl a : Key) = Sum.inr b) = false := decide_eq_false (fun q => nomatch q)
theorem z0l (a : Str) (b : Int) : decide ((Sum.inr a : Key) = Sum.inl b) = false := decide_eq_false (fun q => nomatch q)
noncomputable def zck (prog : Program) (w : World) : PySem.KeyKind prog w Key where
  is := zgc
  hash := z3o w
  inj := fun v a b ha hb => by
    rcases zey ha with ⟨i, t, rfl, rfl⟩ | ⟨x, t, rfl, rfl⟩
    · rcases zey hb with ⟨j, u, rfl, e⟩ | ⟨y, u, rfl, e⟩
      · injection e with e1 _; rw [e1]
      · exact nomatch e
    · rcases zey hb with ⟨j, u, rfl, e⟩ | ⟨y, u, rfl, e⟩
      · exact nomatch e
      · injection e with e1 _; rw [e1]
  byValue := fun k v h => by
    rcases zey h with ⟨i, t, rfl, rfl⟩ | ⟨x, t, rfl, rfl⟩ <;> rfl
  pyHash := fun hv h => by
    rcases zey hv with ⟨i, t, rfl, rfl⟩ | ⟨x, t, rfl, rfl⟩
    · exact wpAny_pyHash_int h
    · exact wpAny_pyHash_str h
  eqBool := fun hu hv h => by
    rcases zey hu with ⟨i, t, rfl, rfl⟩ | ⟨x, t, rfl, rfl⟩
    · rcases zey hv with ⟨j, u, rfl, rfl⟩ | ⟨y, u, rfl, rfl⟩
      · rw [zzf] at h; exact wpAny_eqBool_int h
      · rw [z4u] at h; exact SeqAt.EqAt.int_str i t y u _ _ _ _ h
    · rcases zey hv with ⟨j, u, rfl, rfl⟩ | ⟨y, u, rfl, rfl⟩
      · rw [z0l] at h; exact SeqAt.EqAt.str_int x t j u _ _ _ _ h
      · rw [z1g] at h; exact wpAny_eqBool_str h
  «strs» := fun k x t v h => by
    rcases zey h with ⟨i, u, rfl, e⟩ | ⟨y, u, rfl, e⟩
    · exact nomatch e
    · injection e with e1 _
      subst e1
      cases v <;> rfl
theorem z46 (prog : Program) (w : World) (i : Int) (t : Tok) : (zck prog w).is (.inl i) (.int i t) = true := z5e i t
theorem zwe (prog : Program) (w : World) (x : Str) (t : Tok) : (zck prog w).is (.inr x) (.str x t) = true := z0i x t
end L2
namespace L2
open PySem PySem.Spec PyProof.Rows
inductive V where
  | non | bl (b : Bool) | int (i : Int) | str (x : Str) | byt (b : Array UInt8) | flt (b : UInt64) | ref (a : Addr) | ty (n : String)
  deriving DecidableEq
noncomputable def zam : V -> Value -> Prop
  | .non, u => u = Value.none
  | .bl b, u => u = Value.bool b
  | .int i, u => ∃ t, u = Value.int i t
  | .str x, u => ∃ t, u = Value.str x t
  | .byt b, u => ∃ t, u = Value.bytes b t
  | .flt b, u => ∃ t, u = Value.float b t
  | .ref a, u => u = Value.ref a
  | .ty n, u => u = Value.type n
noncomputable abbrev zaj : List V -> List Value -> Prop := Paired zam
theorem zaj.length {xs : List V} {us : List Value} (r : zaj xs us) : xs.length = us.length := Paired.length r
theorem zaj.get : ∀ {xs : List V} {us : List Value} {i : Nat} {x : V}, zaj xs us -> xs[i]? = some x -> ∃ u, us[i]? = some u /\ zam x u
  | _, _, _, _, .nil, e => by simp at e
  | _, _, 0, _, .cons r _, e => by simp at e; subst e; exact ⟨_, rfl, r⟩
  | _, _, i + 1, x, .cons _ t, e => by
    obtain ⟨u, h1, h2⟩ := zaj.get (i := i) (x := x) t (by simpa using e)
    exact ⟨u, by simpa using h1, h2⟩
theorem zaj.set {x : V} {u : Value} (r : zam x u) : ∀ {xs : List V} {us : List Value} (i : Nat), zaj xs us -> zaj (xs.set i x) (us.set i u)
  | _, _, _, .nil => .nil
  | _, _, 0, .cons _ t => .cons r t
  | _, _, i + 1, .cons q t => .cons q (zaj.set r i t)
theorem zaj.append : ∀ {xs ys : List V} {us ws : List Value}, zaj xs us -> zaj ys ws -> zaj (xs ++ ys) (us ++ ws)
  | _, _, _, _, .nil, s => s
  | _, _, _, _, .cons r t, s => .cons r (zaj.append t s)
theorem zaj.take : ∀ {xs : List V} {us : List Value} (n : Nat), zaj xs us -> zaj (xs.take n) (us.take n)
  | _, _, 0, _ => .nil
  | _, _, _ + 1, .nil => .nil
  | _, _, n + 1, .cons r t => .cons r (zaj.take n t)
theorem zaj.drop : ∀ {xs : List V} {us : List Value} (n : Nat), zaj xs us -> zaj (xs.drop n) (us.drop n)
  | _, _, 0, r => r
  | _, _, _ + 1, .nil => .nil
  | _, _, n + 1, .cons _ t => zaj.drop n t
theorem zaj.none_of : ∀ {xs : List V} {us : List Value} {i : Nat}, zaj xs us -> xs[i]? = none -> us[i]? = none := fun {xs us i} r e => by
  have h1 := r.length
  have h2 : xs.length <= i := List.getElem?_eq_none_iff.mp e
  exact List.getElem?_eq_none_iff.mpr (by omega)
noncomputable def zcp : Option V -> Option Value -> Prop
  | some v, some u => zam v u
  | none, none => True
  | _, _ => False
noncomputable def KV {κ : Type} : List (κ × V) -> List (κ × Value) -> Prop := Paired fun (p : κ × V) (q : κ × Value) => p.1 = q.1 /\ zam p.2 q.2
noncomputable def kV : Key -> V
  | .inl i => .int i
  | .inr x => .str x
inductive HO where
  | lst (xs : List V)
  | tup (xs : List V)
  | dK (kvs : List (Key × V)) | dT (kvs : List (List Key × V))
  | set (S : Int -> Bool) (n : Nat)
  | ins (C dx : Addr) (fs : List (Str × V))
  | own (x : Addr)
  | xd (fs : List (Str × V))
  | met (f x : Addr)
  | rng (lo hi : Int)
  | frz (o : Obj) (u : HO)
  | tbl (ps : Array Value)
  | ext (φ : Heap -> Prop)
noncomputable abbrev Hp := Addr -> Option HO
noncomputable def upd (H : Hp) (a : Addr) (o : HO) : Hp := fun b => if b = a then some o else H b
theorem zbe {H : Hp} {a : Addr} {o : HO} : upd H a o a = some o := by unfold upd; rw [if_pos rfl]
theorem zar {H : Hp} {a b : Addr} {o : HO} (h : b ≠ a) : upd H a o b = H b := by unfold upd; rw [if_neg h]
theorem zsl {H : Hp} {a b : Addr} {o u : HO} (h : H a = some o) (h' : H b = some u) (d : o ≠ u) : a ≠ b := by
  intro e; subst e; rw [h] at h'; exact d (Option.some.inj h')
theorem zci {H : Hp} {a b : Addr} {o : HO} (h : H a = some o) (h' : H b = none) : a ≠ b := by
  intro e; subst e; rw [h] at h'; cases h'
section
variable (P : Program) (w : World)
noncomputable def zb2 (H : Hp) (h : Heap) (a : Addr) : HO -> Prop
  | .lst xs => xs.length <= sizeLine /\ ∃ (its : List Value) (n : Nat), zaj xs its /\ h.get? a = some { cls := .type "list", data := .seq its.toArray n }
  | .tup xs => xs.length <= sizeLine /\ ∃ its : List Value, zaj xs its /\ IsTup h a its.toArray
  | .dK kvs => kvs.length <= sizeLine /\ (a == sysModules) = false /\ ∃ vs, KV kvs vs /\ h.DictOf (zck P w) a vs
  | .dT kvs => kvs.length <= sizeLine /\ (a == sysModules) = false /\ ∃ xs : List (List Key × Addr × Value),
      Paired (fun (p : List Key × V) (q : List Key × Addr × Value) => p.1 = q.1 /\ H q.2.1 = some (.tup (p.1.map kV)) /\ zam p.2 q.2.2) kvs xs /\
      ∃ o es ep, h.get? a = some o /\ o.ExactDict /\ o.data = .dict es ep /\ es.toList = xs.map (entryOfKey (tupleKind (zck P w))) /\ (xs.map (·.1)).Nodup
  | .set S n => h.SetOf (intKind P w) a S n
  | .ins C dx fs => H dx = some (.own a) /\ fs.length <= 1000 /\ dx ≠ a /\ h.get? a = some (PySem.W.instObj C dx) /\
      ∃ mA, h.Ns1 dx mA /\ (∀ f, zcp (fs.lookup f) (mA f)) /\ PySem.Within mA (fs.map (·.1))
  | .own _ => ∃ o, h.get? a = some o
  | .xd fs => ∃ mA, h.Ns1 a mA /\ ∀ f, zcp (fs.lookup f) (mA f)
  | .rng lo hi => ∃ t u v, h.get? a = some { cls := .type "range", data := .fields #[.int lo t, .int hi u, .int 1 v] }
  | .frz o u => h.get? a = some o /\ zb2 H h a u
  | .tbl ps => h.get? a = some { cls := .none, data := .fields ps }
  | .met f x => h.get? a = some (PySem.W.methodObj (.ref f) (.ref x))
  | .ext φ => φ h /\ (∃ o, h.get? a = some o) /\ ∀ h1 h2 : Heap, φ h1 -> (∀ o, h1.get? a = some o -> h2.get? a = some o) -> φ h2
noncomputable def HOk (H : Hp) (h : Heap) : Prop := ∀ a o, H a = some o -> zb2 P w H h a o
end
section
variable {P : Program} {w : World} {H H' : Hp} {h h' : Heap} {a : Addr} {o : HO}
theorem zb2.lt (x : zb2 P w H h a o) : a < h.objs.size := by
  cases o with
  | lst xs => obtain ⟨_, _, _, _, e⟩ := x; exact Heap.lt_size e
  | tup xs => obtain ⟨_, _, _, p⟩ := x; exact p.lt
  | dK kvs => obtain ⟨_, _, _, _, o, _, _, e, _⟩ := x; exact Heap.lt_size e
  | dT kvs => obtain ⟨_, _, _, _, o, _, _, e, _⟩ := x; exact Heap.lt_size e
  | set S n => obtain ⟨o, _, _, _, e, _⟩ := x; exact Heap.lt_size e
  | ins C dx fs => obtain ⟨_, _, _, e, _⟩ := x; exact Heap.lt_size e
  | own y => obtain ⟨_, e⟩ := x; exact Heap.lt_size e
  | xd fs => obtain ⟨_, ⟨_, _, _, e, _⟩, _⟩ := x; exact Heap.lt_size e
  | rng lo hi => obtain ⟨_, _, _, e⟩ := x; exact Heap.lt_size e
  | frz ob u => obtain ⟨e, _⟩ := x; exact Heap.lt_size e
  | tbl ps => exact Heap.lt_size (show h.get? a = some _ from x)
  | met f y => exact Heap.lt_size (show h.get? a = some _ from x)
  | ext φ => obtain ⟨_, ⟨_, e⟩, _⟩ := x; exact Heap.lt_size e
theorem Paired.mapP {α β : Type} {F G : α -> β -> Prop} : ∀ {l₁ : List α} {l₂ : List β}, Paired F l₁ l₂ -> (∀ a b, F a b -> G a b) -> Paired G l₁ l₂
  | _, _, .nil, _ => .nil
  | _, _, .cons r t, f => .cons (f _ _ r) (Paired.mapP t f)
theorem zb2.stay (x : zb2 P w H h a o) (k : ∀ b u, (b = a \/ H b = some (.own a)) -> h.get? b = some u -> h'.get? b = some u)
    (ho : ∀ b, H b = some (.own a) -> H' b = some (.own a)) (ht : ∀ b xs, H b = some (.tup xs) -> H' b = some (.tup xs)) : zb2 P w H' h' a o := by
  induction o with
  | lst xs => obtain ⟨z, its, n, r, e⟩ := x; exact ⟨z, its, n, r, k _ _ (.inl rfl) e⟩
  | tup xs => obtain ⟨z, its, r, ob, e, c⟩ := x; exact ⟨z, its, r, ob, k _ _ (.inl rfl) e, c⟩
  | dK kvs => obtain ⟨z, y, vs, r, ob, es, ep, e, c⟩ := x; exact ⟨z, y, vs, r, ob, es, ep, k _ _ (.inl rfl) e, c⟩
  | dT kvs =>
    obtain ⟨z, y, xs, r, ob, es, ep, e, c⟩ := x
    exact ⟨z, y, xs, Paired.mapP r fun p q z => ⟨z.1, ht _ _ z.2.1, z.2.2⟩, ob, es, ep, k _ _ (.inl rfl) e, c⟩
  | set S n => obtain ⟨ob, es, ep, t, e, c⟩ := x; exact ⟨ob, es, ep, t, k _ _ (.inl rfl) e, c⟩
  | ins C dx fs =>
    obtain ⟨d, z, ne, e, mA, ⟨od, es, ep, e2, c⟩, r⟩ := x
    exact ⟨ho _ d, z, ne, k _ _ (.inl rfl) e, mA, ⟨od, es, ep, k _ _ (.inr d) e2, c⟩, r⟩
  | own y => obtain ⟨ob, e⟩ := x; exact ⟨ob, k _ _ (.inl rfl) e⟩
  | xd fs => obtain ⟨mA, ⟨od, es, ep, e, c⟩, r⟩ := x; exact ⟨mA, ⟨od, es, ep, k _ _ (.inl rfl) e, c⟩, r⟩
  | rng lo hi => obtain ⟨t, u, v, e⟩ := x; exact ⟨t, u, v, k _ _ (.inl rfl) e⟩
  | frz ob u ih => obtain ⟨e, q⟩ := x; exact ⟨k _ _ (.inl rfl) e, ih q⟩
  | tbl ps =>
    have e : h.get? a = some { cls := .none, data := .fields ps } := x
    show h'.get? a = some { cls := .none, data := .fields ps }
    exact k a _ (.inl rfl) e
  | met f y =>
    have e : h.get? a = some (PySem.W.methodObj (.ref f) (.ref y)) := x
    show h'.get? a = some (PySem.W.methodObj (.ref f) (.ref y))
    exact k a _ (.inl rfl) e
  | ext φ => obtain ⟨p, ⟨o, e⟩, st⟩ := x; exact ⟨st _ _ p fun o q => k _ _ (.inl rfl) q, ⟨o, k _ _ (.inl rfl) e⟩, st⟩
theorem HOk.lt (x : HOk P w H h) (e : H a = some o) : a < h.objs.size := (x a o e).lt
theorem HOk.fresh (x : HOk P w H h) (e : h.objs.size <= a) : H a = none := by
  cases q : H a with
  | none => rfl
  | some u => exact absurd (Nat.lt_of_lt_of_le (x.lt q) e) (Nat.lt_irrefl _)
theorem HOk.kept (x : HOk P w H h) (k : ∀ b u, h.get? b = some u -> h'.get? b = some u) : HOk P w H h' := fun a o e =>
  (x a o e).stay (fun b u _ q => k b u q) (fun _ q => q) fun _ _ q => q
theorem HOk.laid (x : HOk P w H h) (k : ∀ b u, h.get? b = some u -> h'.get? b = some u) (hp : h.objs.size <= a) (new : zb2 P w (upd H a o) h' a o) : HOk P w (upd H a o) h' := fun b u e => by
  have hn := x.fresh hp
  by_cases hb : b = a
  · subst hb; rw [zbe] at e; cases e; exact new
  · rw [zar hb] at e
    exact (x b u e).stay (fun c v _ q => k c v q) (fun c q => by rw [zar (zci q hn)]; exact q) fun c xs q => by rw [zar (zci q hn)]; exact q
end
noncomputable def Rd (H : Hp) (a : Addr) (u : HO) : Prop := H a = some u \/ ∃ o, H a = some (.frz o u)
theorem Rd.of {H : Hp} {a : Addr} {u : HO} (h : H a = some u) : Rd H a u := .inl h
theorem Rd.ok {P : Program} {w : World} {H : Hp} {h : Heap} {a : Addr} {u : HO} (r : Rd H a u) (x : HOk P w H h) : zb2 P w H h a u := by
  rcases r with r | ⟨o, r⟩
  · exact x a u r
  · obtain ⟨_, q⟩ := x a _ r
    exact q
noncomputable def Mut : Option HO -> Prop
  | some (.lst _) => True
  | some (.dK _) => True
  | some (.dT _) => True
  | some (.set _ _) => True
  | some (.ins _ _ _) => True
  | some (.ext _) => True
  | _ => False
section
variable {P : Program} {w : World} {H : Hp} {h h' : Heap} {x e : Addr} {o' : HO}
theorem HOk.write (ok : HOk P w H h) (mu : Mut (H x)) (he : e = x \/ H e = some (.own x)) (k : ∀ b u, b ≠ e -> h.get? b = some u -> h'.get? b = some u) (heo : ∃ u, h'.get? e = some u)
    (new : zb2 P w (upd H x o') h' x o') : HOk P w (upd H x o') h' := fun b u q => by
  have nown : ∀ c y, H c = some (.own y) -> c ≠ x := fun c y r z => by subst z; rw [r] at mu; exact mu
  have ntup : ∀ c xs, H c = some (.tup xs) -> c ≠ x := fun c xs r z => by subst z; rw [r] at mu; exact mu
  by_cases hb : b = x
  · subst hb; rw [zbe] at q; cases q; exact new
  · rw [zar hb] at q
    by_cases hbe : b = e
    · have q' : H b = some (.own x) := by
        rcases he with z | z
        · exact absurd (hbe.trans z) hb
        · rw [hbe]; exact z
      rw [q] at q'; cases q'
      obtain ⟨v, hv⟩ := heo
      exact ⟨v, by rw [hbe]; exact hv⟩
    · refine (ok b u q).stay (fun c v hc r => k c v ?_ r) (fun c r => by rw [zar (nown c b r)]; exact r) fun c xs r => by rw [zar (ntup c xs r)]; exact r
      rcases hc with rfl | hc
      · exact hbe
      · rintro rfl
        rcases he with z | z
        · exact nown c b hc z
        · rw [hc] at z; cases z; exact hb rfl
end
structure Un (fs ex : List Addr) (H H' : Hp) (h h' : Heap) : Prop where
  keep : ∀ b o, h.get? b = some o -> H b = none -> b ∉ fs -> b ∉ ex -> h'.get? b = some o
  slot : ∀ b o, h.get? b = some o -> H b = none -> b ∈ fs -> b ∉ ex -> ∃ sl, h'.get? b = some { o with slots := sl }
  free : ∀ b o, h.get? b = some o -> H b = none -> b ∉ ex -> H' b = none
  there : ∀ b o, h.get? b = some o -> b ∉ ex -> ∃ o', h'.get? b = some o'
  tups : ∀ b xs, H b = some (.tup xs) -> H' b = some (.tup xs)
  frzs : ∀ b o u, H b = some (.frz o u) -> H' b = some (.frz o u)
  tbls : ∀ b ps, H b = some (.tbl ps) -> ∃ more, H' b = some (.tbl (ps ++ more))
section
variable {fs fs' ex ex' : List Addr} {H H1 H2 : Hp} {h h1 h2 h' : Heap} {a x e : Addr} {o : HO}
theorem Un.any (u : Un fs ex H H1 h h1) {b : Addr} {ob : Obj} (q : h.get? b = some ob) (n : H b = none) (hx : b ∉ ex) : ∃ sl, h1.get? b = some { ob with slots := sl } := by
  by_cases hb : b ∈ fs
  · exact u.slot b ob q n hb hx
  · exact ⟨ob.slots, u.keep b ob q n hb hx⟩
theorem Un.trans (a : Un fs ex H H1 h h1) (b : Un fs ex H1 H2 h1 h2) : Un fs ex H H2 h h2 where
  keep := fun c ob q n hc hx => b.keep c ob (a.keep c ob q n hc hx) (a.free c ob q n hx) hc hx
  slot := fun c ob q n hc hx => by
    obtain ⟨sl, e1⟩ := a.slot c ob q n hc hx
    obtain ⟨sl', e2⟩ := b.slot c _ e1 (a.free c ob q n hx) hc hx
    exact ⟨sl', e2⟩
  free := fun c ob q n hx => by
    obtain ⟨o', e1⟩ := a.there c ob q hx
    exact b.free c o' e1 (a.free c ob q n hx) hx
  there := fun c ob q hx => by
    obtain ⟨o', e1⟩ := a.there c ob q hx
    exact b.there c o' e1 hx
  tups := fun c xs q => b.tups c xs (a.tups c xs q)
  frzs := fun c ob xs q => b.frzs c ob xs (a.frzs c ob xs q)
  tbls := fun c ps q => by
    obtain ⟨m1, e1⟩ := a.tbls c ps q
    obtain ⟨m2, e2⟩ := b.tbls c _ e1
    exact ⟨m1 ++ m2, by rw [e2, Array.append_assoc]⟩
theorem Un.kept (k : ∀ b u, h.get? b = some u -> h'.get? b = some u) : Un fs ex H H h h' :=
  ⟨fun b ob q _ _ _ => k b ob q, fun b ob q _ _ _ => ⟨ob.slots, k b ob q⟩, fun _ _ _ n _ => n, fun b ob q _ => ⟨ob, k b ob q⟩, fun _ _ q => q, fun _ _ _ q => q, fun _ ps q => ⟨#[], by rw [q]; simp⟩⟩
theorem Un.refl : Un fs ex H H h h := Un.kept fun _ _ q => q
theorem Un.laid (k : ∀ b u, h.get? b = some u -> h'.get? b = some u) (hp : h.objs.size <= a) (hn : H a = none) : Un fs ex H (upd H a o) h h' where
  keep := fun b u q _ _ _ => k b u q
  slot := fun b u q _ _ _ => ⟨u.slots, k b u q⟩
  free := fun b u q n _ => by rw [zar (Nat.ne_of_lt (Nat.lt_of_lt_of_le (Heap.lt_size q) hp))]; exact n
  there := fun b u q _ => ⟨u, k b u q⟩
  tups := fun b xs q => by rw [zar (zci q hn)]; exact q
  frzs := fun b u xs q => by rw [zar (zci q hn)]; exact q
  tbls := fun b ps q => ⟨#[], by rw [zar (zci q hn), q]; simp⟩
theorem Un.write (mu : Mut (H x)) (he : e = x \/ H e = some (.own x)) (k : ∀ b u, b ≠ e -> h.get? b = some u -> h'.get? b = some u) (heo : ∃ u, h'.get? e = some u) : Un fs ex H (upd H x o) h h' := by
  have hx : ∀ b, H b = none -> b ≠ x := fun b n z => by subst z; rw [n] at mu; exact mu
  have hb : ∀ b, H b = none -> b ≠ e := fun b n z => by
    subst z
    rcases he with r | r
    · exact hx b n r
    · rw [n] at r; cases r
  have hm : ∀ b u, H b = some u -> ¬ Mut (some u) -> b ≠ x := fun b u q nm z => by subst z; rw [q] at mu; exact nm mu
  refine ⟨fun b u q n _ _ => k b u (hb b n) q, fun b u q n _ _ => ⟨u.slots, k b u (hb b n) q⟩, fun b u q n _ => by rw [zar (hx b n)]; exact n, fun b u q _ => ?_,
    fun b xs q => by rw [zar (hm b _ q fun z => z)]; exact q, fun b u xs q => by rw [zar (hm b _ q fun z => z)]; exact q, fun b ps q => ⟨#[], by rw [zar (hm b _ q fun z => z), q]; simp⟩⟩
  by_cases hbe : b = e
  · subst hbe; exact heo
  · exact ⟨u, k b u hbe q⟩
theorem Un.mono (u : Un fs ex H H1 h h1) (hs : ∀ b ∈ fs, b ∈ fs') (hx : ∀ b ∈ ex, b ∈ ex') : Un fs' ex' H H1 h h1 :=
  ⟨fun b ob q n hb he => u.keep b ob q n (fun z => hb (hs b z)) fun z => he (hx b z), fun _ _ q n _ he => u.any q n fun z => he (hx _ z), fun b ob q n he => u.free b ob q n fun z => he (hx b z), fun b ob q he => u.there b ob q fun z => he (hx b z), u.tups, u.frzs, u.tbls⟩
end
noncomputable def trk (h : Heap) (H : Hp) : List Addr := (List.range h.objs.size).filter fun a => (H a).isSome
noncomputable def zfd (h : Heap) (H : Hp) : Heap := PySem.W.hideAll h (trk h H)
theorem z5f (h : Heap) (H : Hp) : (zfd h H).objs.size = h.objs.size := PySem.W.hideAll_size _ _
theorem z3x {h : Heap} {H : Hp} {b : Addr} {o : Obj} (e : h.get? b = some o) (n : H b = none) : (zfd h H).get? b = some o :=
  PySem.W.hideAll_get _ e fun hm => by
    have q : (H b).isSome = true := (List.mem_filter.mp hm).2
    rw [n] at q; simp at q
theorem z3r {h : Heap} {H : Hp} {b : Addr} {o : Obj} (e : (zfd h H).get? b = some o) : h.get? b = some o /\ H b = none := by
  have e' : h.get? b = some o := PySem.W.of_hideAll (trk h H) e
  refine ⟨e', ?_⟩
  cases q : H b with
  | none => rfl
  | some x =>
    have hm : b ∈ trk h H := List.mem_filter.mpr ⟨List.mem_range.mpr (Heap.lt_size e'), by simp [q]⟩
    have z : (zfd h H).get? b = none := PySem.W.hideAll_none (trk h H) hm
    rw [z] at e; cases e
noncomputable def zzs (g h : Heap) (L : Addr) : List (Addr × Obj) := (List.range h.objs.size).filterMap fun a => if a = L \/ (g.get? a).isSome = true then none else (h.get? a).map fun o => (a, o)
noncomputable def zbs (g h : Heap) (L d : Addr) : List (Addr × Obj) := (zzs g h L).filter fun p => decide (p.1 ≠ d)
end L2
namespace L2
open PySem PySem.Spec PyProof.Rows
structure Mod (K : PySem.W.Frag) (mg : Str -> Option Value) (base : Heap) : Prop where
  kin : K.In base
  glob : base.Ns mainGlobals mg
  blt : ∃ mb, base.Ns builtinsNs mb /\ ∀ x : Str, x ≠ "__name__" -> mb x = bootBuiltins x
  nolimit : base.NoLimit
set_option genInjectivity false in
structure Cx where
  prog : Program
  w : World
  K : PySem.W.Frag
  mg : Str -> Option Value
  base : Heap
  A : Around
  N : List Str
  s₀ : Shared
  H₀ : Hp
  env : Env
  outer : List Env
  stack : List Env
  ex : List Addr
  fn : Str -> Bool
  calm : Bool
  pn : List (Addr × Obj)
  xe : Value -> Shared -> Prop
noncomputable def frs (l : List Env) : List Addr := l.filterMap (·.frame)
noncomputable abbrev Cx.fs (X : Cx) : List Addr := frs X.outer
noncomputable def Vis (sc : Scope) (x : Str) : Prop := sc.names.lookup x = some .local \/ sc.names.lookup x = some .cell \/ sc.names.lookup x = some .free
noncomputable def Loc (sc : Scope) (x : Str) : Prop := sc.names.lookup x = some .local \/ sc.names.lookup x = some .cell
noncomputable def z4e (env : Env) (h : Heap) (m : Str -> Option Value) (x : Str) (u : Value) : Prop :=
  (env.kindOf x = some .local /\ m x = some u) \/ ((env.kindOf x = some .cell \/ env.kindOf x = some .free) /\ ∃ c, env.cells.lookup x = some c /\ h.IsCell c (some u))
structure Cx.Ok (X : Cx) : Prop where
  mod : Mod X.K X.mg X.base
  kind : X.env.scope.kind = .function
  glob : X.env.globals = mainGlobals
  blt : X.env.builtins = builtinsNs
  above : X.s₀.heap.objs.size <= X.env.locals
  inj : ∀ x y c, X.env.cells.lookup x = some c -> X.env.cells.lookup y = some c -> x = y
  has : ∀ x, (X.env.kindOf x = some .cell \/ X.env.kindOf x = some .free) -> ∃ c, X.env.cells.lookup x = some c
  cab : ∀ x c, X.fn x = true -> X.env.cells.lookup x = some c -> X.s₀.heap.objs.size <= c
  hd : X.calm = true -> X.A.handled = none
  frames : X.A.frames = some X.stack
  stk : X.stack = X.outer \/ (X.stack = X.env :: X.outer /\ X.env.frame = some X.env.locals)
  exf : ∀ b ∈ X.ex, b ≠ X.env.locals /\ ∀ x c, X.env.cells.lookup x = some c -> c ≠ b
  bs : ∀ b o, X.base.get? b = some o -> X.s₀.heap.get? b = some o /\ X.H₀ b = none
  bsz : X.base.objs.size <= X.s₀.heap.objs.size
  noex : ∀ b o, X.base.get? b = some o -> b ∉ X.ex
  exfs : ∀ b ∈ X.ex, b ∉ X.fs
  funs : X.s₀.heap.FunFrames X.base X.outer
  frf : ∀ b ∈ X.fs, X.H₀ b = none
structure Inv (X : Cx) (pins : List (Addr × Obj)) (σ : List (Option V)) (H : Hp) (s : Shared) : Prop where
  ok : X.Ok
  os : s.os = X.s₀.os
  bare : AllBare s.gens
  base : Un X.fs X.ex X.H₀ H X.s₀.heap s.heap
  loc : ∃ m, s.heap.Ns X.env.locals m /\ ∀ (i : Nat) (x : Str) (v : V), X.N[i]? = some x -> σ[i]? = some (some v) -> Vis X.env.scope x -> ∃ u, zam v u /\ z4e X.env s.heap m x u
  cell : ∀ x c, X.env.cells.lookup x = some c -> ∃ v, s.heap.IsCell c v
  free : H X.env.locals = none
  freeC : ∀ x c, X.env.cells.lookup x = some c -> H c = none
  pin : ∀ p ∈ X.pn ++ pins, s.heap.get? p.1 = some p.2 /\ H p.1 = none /\ p.1 ≠ X.env.locals /\ p.1 ∉ X.fs /\ ∀ v, p.2.data ≠ .cell v
  hok : HOk X.prog X.w H s.heap
  len : σ.length = X.N.length
section
variable {X : Cx} {pins : List (Addr × Obj)} {σ : List (Option V)} {H H' : Hp} {s : Shared} {h' : Heap}
theorem Cx.Ok.nofr (ok : X.Ok) {b : Addr} {o : Obj} (e : X.base.get? b = some o) : b ∉ X.fs := fun hb => by
  have := (ok.funs.mem hb).1
  rw [e] at this; cases this
theorem Inv.bs (I : Inv X pins σ H s) : ∀ b o, X.base.get? b = some o -> s.heap.get? b = some o /\ H b = none := fun b o e =>
  ⟨I.base.keep b o (I.ok.bs b o e).1 (I.ok.bs b o e).2 (I.ok.nofr e) (I.ok.noex b o e), I.base.free b o (I.ok.bs b o e).1 (I.ok.bs b o e).2 (I.ok.noex b o e)⟩
theorem Inv.bk (I : Inv X pins σ H s) : ∀ b o, X.base.get? b = some o -> s.heap.get? b = some o := fun b o e => (I.bs b o e).1
theorem Inv.mod (I : Inv X pins σ H s) : Mod X.K X.mg X.base := I.ok.mod
theorem Inv.kIn (I : Inv X pins σ H s) : X.K.In s.heap := I.ok.mod.kin.keeps I.bk
theorem Inv.nolimit (I : Inv X pins σ H s) : s.heap.NoLimit := I.ok.mod.nolimit.keeps I.bk
theorem Inv.fr (I : Inv X pins σ H s) : ∃ m, Fr X.base X.env.locals s.heap m :=
  let ⟨m, hn, _⟩ := I.loc
  ⟨m, hn, I.bk, Nat.le_trans I.ok.bsz I.ok.above⟩
theorem Inv.lt (I : Inv X pins σ H s) : X.env.locals < s.heap.objs.size := let ⟨_, hn, _⟩ := I.loc; hn.lt
theorem Inv.sz (I : Inv X pins σ H s) : X.s₀.heap.objs.size <= s.heap.objs.size := Nat.le_trans I.ok.above (Nat.le_of_lt I.lt)
theorem Inv.nofs (I : Inv X pins σ H s) {a : Addr} (h : s.heap.objs.size <= a) : a ∉ X.fs := fun hb => by
  obtain ⟨_, o, ho, _⟩ := I.ok.funs.mem hb
  exact absurd (Nat.lt_of_lt_of_le (Heap.lt_size ho) (Nat.le_trans I.sz h)) (Nat.lt_irrefl _)
theorem Inv.cne (I : Inv X pins σ H s) : ∀ x c, X.env.cells.lookup x = some c -> c ≠ X.env.locals := fun x c e z => by
  obtain ⟨v, o, ho, hd⟩ := I.cell x c e
  obtain ⟨m, ⟨o', es, ep, ho', hd', _⟩, _⟩ := I.loc
  rw [z, ho'] at ho; cases ho; rw [hd'] at hd; cases hd
theorem Inv.funs (I : Inv X pins σ H s) : s.heap.FunFrames X.base X.outer := by
  have all : ∀ (l : List Env), (∀ b ∈ frs l, b ∈ X.fs) -> X.s₀.heap.FunFrames X.base l -> s.heap.FunFrames X.base l := by
    intro l
    induction l with
    | nil => intro _ _; trivial
    | cons env r ih =>
      intro hs hl
      obtain ⟨hk, ⟨L, o, hf, hn, ho, hd⟩, hr⟩ := hl
      have hL : L ∈ X.fs := hs L (by unfold frs; rw [List.filterMap_cons, hf]; exact List.mem_cons_self)
      obtain ⟨sl, e⟩ := I.base.slot L o ho (I.ok.frf L hL) hL fun z => I.ok.exfs L z hL
      exact ⟨hk, ⟨L, _, hf, hn, e, hd⟩, ih (fun b hb => hs b (by unfold frs; rw [List.filterMap_cons, hf]; exact List.mem_cons_of_mem _ hb)) hr⟩
  exact all X.outer (fun _ hb => hb) I.ok.funs
theorem Inv.stack (I : Inv X pins σ H s) : s.heap.FunFrames X.base X.stack := by
  rcases I.ok.stk with e | ⟨e, hf⟩
  · rw [e]; exact I.funs
  · rw [e]
    obtain ⟨m, hn, _⟩ := I.loc
    refine .cons (by rw [I.ok.kind]; decide) hf hn ?_ I.funs
    exact Heap.get?_none_of_le (Nat.le_trans I.ok.bsz I.ok.above)
theorem Inv.stkSub (I : Inv X pins σ H s) : ∀ b ∈ frs X.stack, b ∈ X.env.locals :: X.fs := fun b hb => by
  rcases I.ok.stk with e | ⟨e, hf⟩
  · rw [e] at hb; exact List.mem_cons_of_mem _ hb
  · rw [e] at hb
    unfold frs at hb
    rw [List.filterMap_cons, hf] at hb
    exact hb
theorem Inv.stkFree (I : Inv X pins σ H s) : ∀ b ∈ frs X.stack, H b = none := fun b hb => by
  rcases List.mem_cons.mp (I.stkSub b hb) with e | hb
  · rw [e]; exact I.free
  · obtain ⟨_, o, ho, _⟩ := I.ok.funs.mem hb
    exact I.base.free b o ho (I.ok.frf b hb) fun z => I.ok.exfs b z hb
theorem Inv.step {g' : Array GenState} {t' : Nat} {d' : Drawn} {ch : List Addr} (I : Inv X pins σ H s)
    (hch : ∀ b ∈ ch, (b ∈ X.ex \/ X.s₀.heap.objs.size <= b) /\ b ≠ X.env.locals /\ (∀ x c, X.env.cells.lookup x = some c -> c ≠ b) /\ ∀ p ∈ X.pn ++ pins, p.1 ≠ b)
    (keep : ∀ b o, b ≠ X.env.locals -> b ∉ X.fs -> b ∉ ch -> s.heap.get? b = some o -> H b = none -> h'.get? b = some o)
    (slot : ∀ b o, b ≠ X.env.locals -> b ∈ X.fs -> b ∉ ch -> s.heap.get? b = some o -> H b = none -> ∃ sl, h'.get? b = some { o with slots := sl }) (free : ∀ b o, b ∉ ch -> s.heap.get? b = some o -> H b = none -> H' b = none)
    (there : ∀ b o, b ∉ ch -> s.heap.get? b = some o -> ∃ o', h'.get? b = some o')
    (tups : ∀ b xs, H b = some (.tup xs) -> H' b = some (.tup xs)) (frzs : ∀ b o u, H b = some (.frz o u) -> H' b = some (.frz o u)) (tbls : ∀ b ps, H b = some (.tbl ps) -> ∃ more, H' b = some (.tbl (ps ++ more)))
    (ns : ∀ m, s.heap.Ns X.env.locals m -> h'.Ns X.env.locals m) (hok : HOk X.prog X.w H' h') (hg : AllBare g') :
    Inv X pins σ H' { s with heap := h', gens := g', drawn := d', toks := t' } := by
  have neL : ∀ b o, X.s₀.heap.get? b = some o -> b ≠ X.env.locals := fun b o e => Nat.ne_of_lt (Nat.lt_of_lt_of_le (Heap.lt_size e) I.ok.above)
  have neC : ∀ b o, X.s₀.heap.get? b = some o -> b ∉ X.ex -> b ∉ ch := fun b o e hx hb => by
    rcases (hch b hb).1 with z | z
    · exact hx z
    · exact absurd (Nat.lt_of_lt_of_le (Heap.lt_size e) z) (Nat.lt_irrefl _)
  have cellK : ∀ x c, X.env.cells.lookup x = some c -> ∀ v, s.heap.IsCell c v -> h'.IsCell c v := fun x c e v ⟨o, ho, hd⟩ => by
    have nch : c ∉ ch := fun z => (hch c z).2.2.1 x c e rfl
    by_cases hc : c ∈ X.fs
    · obtain ⟨sl, q⟩ := slot c o (I.cne x c e) hc nch ho (I.freeC x c e)
      exact ⟨_, q, hd⟩
    · exact ⟨o, keep c o (I.cne x c e) hc nch ho (I.freeC x c e), hd⟩
  refine ⟨I.ok, I.os, hg, ⟨fun b o e n hb hx => ?_, fun b o e n hb hx => ?_, fun b o e n hx => ?_, fun b o e hx => ?_, fun b xs e => tups b xs (I.base.tups b xs e), fun b o xs e => frzs b o xs (I.base.frzs b o xs e), fun b ps e => ?_⟩, ?_, fun x c e => ?_, ?_, fun x c e => ?_, fun p hp => ?_, hok, I.len⟩
  · exact keep b o (neL b o e) hb (neC b o e hx) (I.base.keep b o e n hb hx) (I.base.free b o e n hx)
  · obtain ⟨sl, e1⟩ := I.base.slot b o e n hb hx
    obtain ⟨sl', e2⟩ := slot b _ (neL b o e) hb (neC b o e hx) e1 (I.base.free b o e n hx)
    exact ⟨sl', e2⟩
  · obtain ⟨o', e1⟩ := I.base.there b o e hx
    exact free b o' (neC b o e hx) e1 (I.base.free b o e n hx)
  · obtain ⟨o', e1⟩ := I.base.there b o e hx
    exact there b o' (neC b o e hx) e1
  · obtain ⟨m1, e1⟩ := I.base.tbls b ps e
    obtain ⟨m2, e2⟩ := tbls b _ e1
    exact ⟨m1 ++ m2, by rw [e2, Array.append_assoc]⟩
  · obtain ⟨m, hn, hl⟩ := I.loc
    refine ⟨m, ns m hn, fun i x v e1 e2 e3 => ?_⟩
    obtain ⟨u, r, l⟩ := hl i x v e1 e2 e3
    refine ⟨u, r, ?_⟩
    rcases l with l | ⟨k, c, e, z⟩
    · exact .inl l
    · exact .inr ⟨k, c, e, cellK x c e _ z⟩
  · obtain ⟨v, z⟩ := I.cell x c e
    exact ⟨v, cellK x c e v z⟩
  · obtain ⟨m, ⟨o, _, _, ho, _⟩, _⟩ := I.loc
    exact free _ o (fun z => (hch _ z).2.1 rfl) ho I.free
  · obtain ⟨v, o, ho, hd⟩ := I.cell x c e
    exact free c o (fun z => (hch c z).2.2.1 x c e rfl) ho (I.freeC x c e)
  · obtain ⟨e, n, ne, nf, d⟩ := I.pin p hp
    have nch : p.1 ∉ ch := fun z => (hch p.1 z).2.2.2 p hp rfl
    exact ⟨keep p.1 p.2 ne nf nch e n, free p.1 p.2 nch e n, ne, nf, d⟩
theorem Inv.un {t' : Nat} (I : Inv X pins σ H s) (u : Un X.fs [] H H' s.heap h') (hok : HOk X.prog X.w H' h') : Inv X pins σ H' { s with heap := h', toks := t' } := by
  obtain ⟨m, ⟨o, es, ep, ho, r⟩, _⟩ := id I.loc
  obtain ⟨sl, hL⟩ := u.any ho I.free (by simp)
  exact I.step (g' := s.gens) (d' := s.drawn) (ch := []) (fun _ z => nomatch z) (fun b o _ hb _ e n => u.keep b o e n hb (by simp)) (fun b o _ hb _ e n => u.slot b o e n hb (by simp)) (fun b o _ e n => u.free b o e n (by simp)) (fun b o _ e => u.there b o e (by simp)) u.tups u.frzs u.tbls (fun m' hm => by
    obtain ⟨o', es', ep', ho', r'⟩ := hm
    rw [ho] at ho'; cases ho'
    exact ⟨_, es', ep', hL, r'⟩) hok I.bare
theorem Inv.call {g' : Array GenState} {t' : Nat} {d' : Drawn} {ch : List Addr} (I : Inv X pins σ H s) (u : Un (frs X.stack) ch H H' s.heap h') (hok : HOk X.prog X.w H' h') (hg : AllBare g')
    (hch : ∀ b ∈ ch, (b ∈ X.ex \/ X.s₀.heap.objs.size <= b) /\ b ≠ X.env.locals /\ (∀ x c, X.env.cells.lookup x = some c -> c ≠ b) /\ ∀ p ∈ X.pn ++ pins, p.1 ≠ b) :
    Inv X pins σ H' { s with heap := h', gens := g', drawn := d', toks := t' } := by
  obtain ⟨m, ⟨o, es, ep, ho, r⟩, _⟩ := id I.loc
  obtain ⟨sl, hL⟩ := u.any ho I.free fun z => (hch _ z).2.1 rfl
  exact I.step (ch := ch) hch (fun b o hL hb hc e n => u.keep b o e n (fun z => (List.mem_cons.mp (I.stkSub b z)).elim hL hb) hc) (fun b o _ _ hc e n => u.any e n hc) (fun b o hc e n => u.free b o e n hc) (fun b o hc e => u.there b o e hc) u.tups u.frzs u.tbls (fun m' hm => by
    obtain ⟨o', es', ep', ho', r'⟩ := hm
    rw [ho] at ho'; cases ho'
    exact ⟨_, es', ep', hL, r'⟩) hok hg
theorem Inv.turned {t' : Nat} {it : Addr} (I : Inv X pins σ H s) (k : ∀ b o, b ≠ it -> s.heap.get? b = some o -> h'.get? b = some o) (hn : H it = none) (hL : it ≠ X.env.locals)
    (h1 : it ∈ X.ex \/ X.s₀.heap.objs.size <= it) (h2 : ∀ x c, X.env.cells.lookup x = some c -> c ≠ it) (h3 : ∀ p ∈ X.pn ++ pins, p.1 ≠ it) : Inv X pins σ H { s with heap := h', toks := t' } := by
  have nit : ∀ b u, H b = some u -> b ≠ it := fun b u e z => by rw [z, hn] at e; cases e
  refine I.step (g' := s.gens) (d' := s.drawn) (ch := [it]) (fun b hb => ?_) (fun b o _ _ hc e _ => k b o (fun z => hc (by simp [z])) e) (fun b o _ _ hc e _ => ⟨o.slots, k b o (fun z => hc (by simp [z])) e⟩) (fun _ _ _ _ n => n)
    (fun b o hc e => ⟨o, k b o (fun z => hc (by simp [z])) e⟩) (fun _ _ e => e) (fun _ _ _ e => e) (fun b ps e => ⟨#[], by rw [e]; simp⟩) (fun m hm => ?_) (fun b u e => ?_) I.bare
  · have e : b = it := by simpa using hb
    subst e
    exact ⟨h1, hL, h2, h3⟩
  · obtain ⟨o, es, ep, ho, r⟩ := hm
    exact ⟨o, es, ep, k _ o (Ne.symm hL) ho, r⟩
  · refine (I.hok b u e).stay (fun c v hc q => k c v ?_ q) (fun _ q => q) fun _ _ q => q
    rcases hc with z | z
    · rw [z]; exact nit b u e
    · exact nit c _ z
theorem Inv.tok (I : Inv X pins σ H s) (t : Nat) : Inv X pins σ H { s with toks := t } := I.un (h' := s.heap) (t' := t) Un.refl I.hok
theorem Inv.kept {t' : Nat} (I : Inv X pins σ H s) (k : ∀ b u, s.heap.get? b = some u -> h'.get? b = some u) : Inv X pins σ H { s with heap := h', toks := t' } := I.un (Un.kept k) (I.hok.kept k)
theorem Inv.laid {a : Addr} {o : HO} {t' : Nat} (I : Inv X pins σ H s) (k : ∀ b u, s.heap.get? b = some u -> h'.get? b = some u) (hp : s.heap.objs.size <= a) (new : zb2 X.prog X.w (upd H a o) h' a o) :
    Inv X pins σ (upd H a o) { s with heap := h', toks := t' } := I.un (Un.laid k hp (I.hok.fresh hp)) (I.hok.laid k hp new)
theorem Inv.write {x e : Addr} {o : HO} {t' : Nat} (I : Inv X pins σ H s) (mu : Mut (H x)) (he : e = x \/ H e = some (.own x)) (k : ∀ b u, b ≠ e -> s.heap.get? b = some u -> h'.get? b = some u) (heo : ∃ u, h'.get? e = some u)
    (new : zb2 X.prog X.w (upd H x o) h' x o) : Inv X pins σ (upd H x o) { s with heap := h', toks := t' } := I.un (Un.write mu he k heo) (I.hok.write mu he k heo new)
theorem Inv.weak {σ' : List (Option V)} (I : Inv X pins σ H s) (hl : σ'.length = σ.length) (w : ∀ (i : Nat) v, σ'[i]? = some (some v) -> σ[i]? = some (some v)) : Inv X pins σ' H s :=
  ⟨I.ok, I.os, I.bare, I.base, let ⟨m, hn, hl'⟩ := I.loc; ⟨m, hn, fun i x v e1 e2 e3 => hl' i x v e1 (w i v e2) e3⟩, I.cell, I.free, I.freeC, I.pin, I.hok, hl.trans I.len⟩
theorem Inv.pins_of {pins' : List (Addr × Obj)} (I : Inv X pins σ H s) (h : ∀ p ∈ pins', s.heap.get? p.1 = some p.2 /\ H p.1 = none /\ p.1 ≠ X.env.locals /\ p.1 ∉ X.fs /\ ∀ v, p.2.data ≠ .cell v) : Inv X pins' σ H s :=
  ⟨I.ok, I.os, I.bare, I.base, I.loc, I.cell, I.free, I.freeC, fun p hp => (List.mem_append.mp hp).elim (fun z => I.pin p (List.mem_append_left _ z)) (h p), I.hok, I.len⟩
theorem zq6 {N : List Str} (hN : N.Nodup) {i j : Nat} {x : Str} (a : N[i]? = some x) (b : N[j]? = some x) : i = j := by
  obtain ⟨h1, e1⟩ := List.getElem?_eq_some_iff.mp a
  obtain ⟨h2, e2⟩ := List.getElem?_eq_some_iff.mp b
  exact (List.getElem_inj hN).mp (e1.trans e2.symm)
theorem zp0 {M : Model} {A : Around} {E : Value -> Shared -> Prop} {i : Nat} {x : Str} {v : V} {u : Value} {Q : Unit -> Shared -> Prop} (I : Inv X pins σ H s) (hN : X.N.Nodup) (hi : X.N[i]? = some x) (hx : Loc X.env.scope x) (r : zam v u)
    (h : ∀ s', Inv X pins (σ.set i (some v)) H s' -> (∃ a, Heap.SameBut a s.heap s'.heap /\ (a = X.env.locals \/ X.env.cells.lookup x = some a)) -> Q () s') (hf : X.fn x = true \/ X.env.scope.names.lookup x = some .local := by first | exact .inl rfl | exact .inr rfl | assumption) : wpAny M A (storeName X.env x u) Q E s := by
  obtain ⟨m, hn, hl⟩ := id I.loc
  have hcls : (X.env.scope.kind == .class || (X.env.scope.kind == .module && X.env.locals != X.env.globals)) = false := by rw [I.ok.kind]; rfl
  have hiσ : i < σ.length := by rw [I.len]; exact (List.getElem?_eq_some_iff.mp hi).1
  have cne := I.cne
  have tracked : ∀ {a : Addr} {h' : Heap}, (∃ o, s.heap.get? a = some o /\ H a = none) -> Heap.SameBut a s.heap h' -> HOk X.prog X.w H h' := fun {a h'} ha hs b ob e => by
    obtain ⟨_, _, hfree⟩ := ha
    refine (I.hok b ob e).stay (fun c w' hc q => (hs.2 c ?_).trans q) (fun _ q => q) fun _ _ q => q
    rintro rfl
    rcases hc with rfl | hc
    · rw [hfree] at e; cases e
    · rw [hfree] at hc; cases hc
  rcases hx with hk | hk
  · refine wpAny_storeName_local hk hn (fun h' hn' hs => ?_) hcls
    obtain ⟨oL, _, _, hoL, _⟩ := id hn
    refine h _ ⟨I.ok, I.os, I.bare, ⟨fun b o e n hb hx => ?_, fun b o e n hb hx => ?_, I.base.free, fun b o e hx => ?_, I.base.tups, I.base.frzs, I.base.tbls⟩, ⟨_, hn', fun j y v' e1 e2 e3 => ?_⟩, fun y c e => ?_, I.free, I.freeC, fun p hp => ?_, tracked ⟨oL, hoL, I.free⟩ hs, by simpa using I.len⟩ ⟨_, hs, .inl rfl⟩
    · exact (hs.2 b (Nat.ne_of_lt (Nat.lt_of_lt_of_le (Heap.lt_size e) I.ok.above))).trans (I.base.keep b o e n hb hx)
    · obtain ⟨sl, e1⟩ := I.base.slot b o e n hb hx
      exact ⟨sl, (hs.2 b (Nat.ne_of_lt (Nat.lt_of_lt_of_le (Heap.lt_size e) I.ok.above))).trans e1⟩
    · obtain ⟨o', e1⟩ := I.base.there b o e hx
      exact ⟨o', (hs.2 b (Nat.ne_of_lt (Nat.lt_of_lt_of_le (Heap.lt_size e) I.ok.above))).trans e1⟩
    · by_cases hj : j = i
      · subst hj
        rw [hi] at e1; cases e1
        rw [List.getElem?_set_self hiσ] at e2
        cases e2
        exact ⟨u, r, .inl ⟨hk, by simp⟩⟩
      · rw [List.getElem?_set_ne (Ne.symm hj)] at e2
        obtain ⟨u', r', q⟩ := hl j y v' e1 e2 e3
        refine ⟨u', r', ?_⟩
        rcases q with ⟨k, e⟩ | ⟨k, c, e, z⟩
        · refine .inl ⟨k, ?_⟩
          have : y ≠ x := fun e => hj (zq6 hN e1 (e ▸ hi))
          simp [this, e]
        · exact .inr ⟨k, c, e, z.sameBut hs (cne y c e)⟩
    · obtain ⟨w', z⟩ := I.cell y c e
      exact ⟨w', z.sameBut hs (cne y c e)⟩
    · obtain ⟨e, n, ne, nf, d⟩ := I.pin p hp
      exact ⟨(hs.2 p.1 ne).trans e, n, ne, nf, d⟩
  · have hfn : X.fn x = true := by
      rcases hf with z | z
      · exact z
      · rw [z] at hk; cases hk
    obtain ⟨c, hc⟩ := I.ok.has x (.inl hk)
    obtain ⟨w', z⟩ := I.cell x c hc
    refine wpAny_storeName_cell I.ok.kind hk hc z (fun h' hc' hs => ?_)
    obtain ⟨oc, hoc, hocd⟩ := id z
    refine h { s with heap := h' } ⟨I.ok, I.os, I.bare, ⟨fun b o e n hb hx => ?_, fun b o e n hb hx => ?_, I.base.free, fun b o e hx => ?_, I.base.tups, I.base.frzs, I.base.tbls⟩, ⟨m, hn.sameBut hs (Ne.symm (cne x c hc)), fun j y v' e1 e2 e3 => ?_⟩, fun y c' e => ?_, I.free, I.freeC, fun p hp => ?_, tracked ⟨oc, hoc, I.freeC x c hc⟩ hs, by simpa using I.len⟩ ⟨c, hs, .inr hc⟩
    · exact (hs.2 b (Nat.ne_of_lt (Nat.lt_of_lt_of_le (Heap.lt_size e) (I.ok.cab x c hfn hc)))).trans (I.base.keep b o e n hb hx)
    · obtain ⟨sl, e1⟩ := I.base.slot b o e n hb hx
      exact ⟨sl, (hs.2 b (Nat.ne_of_lt (Nat.lt_of_lt_of_le (Heap.lt_size e) (I.ok.cab x c hfn hc)))).trans e1⟩
    · obtain ⟨o', e1⟩ := I.base.there b o e hx
      exact ⟨o', (hs.2 b (Nat.ne_of_lt (Nat.lt_of_lt_of_le (Heap.lt_size e) (I.ok.cab x c hfn hc)))).trans e1⟩
    · by_cases hj : j = i
      · subst hj
        rw [hi] at e1; cases e1
        rw [List.getElem?_set_self hiσ] at e2
        cases e2
        exact ⟨u, r, .inr ⟨.inl hk, c, hc, hc'⟩⟩
      · rw [List.getElem?_set_ne (Ne.symm hj)] at e2
        obtain ⟨u', r', q⟩ := hl j y v' e1 e2 e3
        refine ⟨u', r', ?_⟩
        rcases q with q | ⟨k, c', e, z'⟩
        · exact .inl q
        · refine .inr ⟨k, c', e, z'.sameBut hs ?_⟩
          rintro rfl
          exact hj (zq6 hN e1 (I.ok.inj _ _ _ e hc ▸ hi))
    · by_cases hcc : c' = c
      · subst hcc; exact ⟨_, hc'⟩
      · obtain ⟨w2, z2⟩ := I.cell y c' e
        exact ⟨w2, z2.sameBut hs hcc⟩
    · obtain ⟨e, n, ne, nf, d⟩ := I.pin p hp
      refine ⟨(hs.2 p.1 ?_).trans e, n, ne, nf, d⟩
      intro q
      rw [q, hoc] at e
      have q' : oc = p.2 := Option.some.inj e
      exact d w' (by rw [<- q']; exact hocd)
theorem zrf {M : Model} {A : Around} {E : Value -> Shared -> Prop} {i : Nat} {x : Str} {v : V} {u : Value} {Q : Unit -> Shared -> Prop} (I : Inv X pins σ H s) (hN : X.N.Nodup) (hi : X.N[i]? = some x) (hx : Loc X.env.scope x) (r : zam v u)
    (h : ∀ s', Inv X pins (σ.set i (some v)) H s' -> Q () s') (hf : X.fn x = true \/ X.env.scope.names.lookup x = some .local := by first | exact .inl rfl | exact .inr rfl | assumption) : wpAny M A (storeName X.env x u) Q E s :=
  zp0 I hN hi hx r (fun s' I' _ => h s' I') hf
theorem Inv.call' {s' : Shared} {ch : List Addr} (I : Inv X pins σ H s) (ho : s'.os = s.os) (u : Un (frs X.stack) ch H H' s.heap s'.heap) (hok : HOk X.prog X.w H' s'.heap) (hg : AllBare s'.gens)
    (hch : ∀ b ∈ ch, (b ∈ X.ex \/ X.s₀.heap.objs.size <= b) /\ b ≠ X.env.locals /\ (∀ x c, X.env.cells.lookup x = some c -> c ≠ b) /\ ∀ p ∈ X.pn ++ pins, p.1 ≠ b) : Inv X pins σ H' s' := by
  obtain ⟨h', g', d', t', o'⟩ := s'
  have e : o' = s.os := ho
  subst e
  exact I.call (g' := g') (t' := t') (d' := d') u hok hg hch
end
noncomputable abbrev XK := Value -> Option Addr -> Hp -> Prop
noncomputable abbrev St := List (Option V)
noncomputable abbrev VK := V -> Hp -> Prop
noncomputable abbrev TE := St -> Hp -> VK -> Prop
noncomputable abbrev TT := St -> Hp -> (Bool -> Hp -> Prop) -> Prop
noncomputable abbrev TA := St -> Hp -> (List V -> Hp -> Prop) -> Prop
structure ze4 where
  nx : St -> Hp -> Prop
  rt : VK
  bk : St -> Hp -> Prop := fun _ _ => False
  ct : St -> Hp -> Prop := fun _ _ => False
noncomputable abbrev TS := ze4 -> St -> Hp -> Prop
noncomputable def EP (X : Cx) (pins : List (Addr × Obj)) (σ : St) (Q : VK) (u : Value) (s' : Shared) : Prop := ∃ v H', Inv X pins σ H' s' /\ zam v u /\ Q v H'
noncomputable def TP (X : Cx) (pins : List (Addr × Obj)) (σ : St) (Q : Bool -> Hp -> Prop) (b : Bool) (s' : Shared) : Prop := ∃ H', Inv X pins σ H' s' /\ Q b H'
noncomputable def AP (X : Cx) (pins : List (Addr × Obj)) (σ : St) (Q : List V -> Hp -> Prop) (us : List Value) (s' : Shared) : Prop := ∃ vs H', Inv X pins σ H' s' /\ zaj vs us /\ Q vs H'
noncomputable def SP (X : Cx) (pins : List (Addr × Obj)) (D : ze4) (f : Flow) (s' : Shared) : Prop :=
  match f with
  | .next => ∃ σ' H', Inv X pins σ' H' s' /\ D.nx σ' H'
  | .brk => ∃ σ' H', Inv X pins σ' H' s' /\ D.bk σ' H'
  | .cont => ∃ σ' H', Inv X pins σ' H' s' /\ D.ct σ' H'
  | .ret u => ∃ v σ' H', Inv X pins σ' H' s' /\ zam v u /\ D.rt v H'
noncomputable def PE (X : Cx) (e : Expr) (t : TE) : Prop :=
  ∀ (pins : List (Addr × Obj)) (s : Shared) (σ : St) (H : Hp) (Q : VK), Inv X pins σ H s -> t σ H Q -> wpAny (model X.prog X.w) X.A (eval e X.env) (EP X pins σ Q) X.xe s
noncomputable def PT (X : Cx) (e : Expr) (t : TT) : Prop :=
  ∀ (pins : List (Addr × Obj)) (s : Shared) (σ : St) (H : Hp) (Q : Bool -> Hp -> Prop), Inv X pins σ H s -> t σ H Q -> wpAny (model X.prog X.w) X.A (isTrue e X.env (eval e X.env)) (TP X pins σ Q) X.xe s
noncomputable def PW (X : Cx) (e : Expr) (t : TT) : Prop :=
  ∀ (whole : Sem Value) (pins : List (Addr × Obj)) (s : Shared) (σ : St) (H : Hp) (Q : Bool -> Hp -> Prop), Inv X pins σ H s -> t σ H Q -> wpAny (model X.prog X.w) X.A (isTrue e X.env whole) (TP X pins σ Q) X.xe s
theorem PW.pt {X : Cx} {e : Expr} {t : TT} (h : PW X e t) : PT X e t := h _
noncomputable def PA (X : Cx) (es : List Expr) (t : TA) : Prop :=
  ∀ (pos : Pos) (pins : List (Addr × Obj)) (s : Shared) (σ : St) (H : Hp) (Q : List V -> Hp -> Prop), Inv X pins σ H s -> t σ H Q -> wpAny (model X.prog X.w) X.A (spliced (backTo pos (starEach es X.env))) (AP X pins σ Q) X.xe s
noncomputable def PS (X : Cx) (st : Stmt) (t : TS) : Prop :=
  ∀ (pins : List (Addr × Obj)) (s : Shared) (σ : St) (H : Hp) (D : ze4), Inv X pins σ H s -> t D σ H -> wpAny (model X.prog X.w) X.A (exec st X.env) (SP X pins D) X.xe s
noncomputable def PSs (X : Cx) (st : List Stmt) (t : TS) : Prop :=
  ∀ (pins : List (Addr × Obj)) (s : Shared) (σ : St) (H : Hp) (D : ze4), Inv X pins σ H s -> t D σ H -> wpAny (model X.prog X.w) X.A (execs st X.env) (SP X pins D) X.xe s
theorem thn {α : Type} {t : Sem α} {Q Q' : α -> Shared -> Prop} {M : Model} {A : Around} {E : Value -> Shared -> Prop} {s : Shared} (h : wpAny M A t Q E s) (hQ : ∀ a s, Q a s -> Q' a s) : wpAny M A t Q' E s := wpAny_mono h hQ fun _ _ x => x
end L2
namespace L2
open PySem PySem.Spec PyProof.Rows
section
variable {X : Cx}
noncomputable def zde (i : Nat) : TE := fun σ H Q => ∃ v, σ[i]? = some (some v) /\ Q v H
noncomputable def tC (v : V) : TE := fun _ H Q => Q v H
theorem zin {i : Nat} {x : Str} {pos : Pos} (hN : X.N[i]? = some x) (hv : Vis X.env.scope x) (hd : (x == ("__debug__" : Str)) = false := by decide) (hcd : (x == ("__classdict__" : Str)) = false := by decide) : PE X (.Name x pos) (zde i) := by
  intro pins s σ H Q I h
  obtain ⟨v, e, h⟩ := h
  obtain ⟨m, hn, hl⟩ := I.loc
  obtain ⟨u, r, l⟩ := hl i x v hN e hv
  have fin : EP X pins σ Q u s := ⟨v, H, I, r, h⟩
  rcases l with ⟨hk, hm⟩ | ⟨hk, c, hc, hcell⟩
  · exact wpAny_Name (wpAny_loadName_local I.ok.kind hk hn hm fin) hd
  · rcases hk with hk | hk
    · exact wpAny_Name (wpAny_loadName_cell I.ok.kind hk hc hcell fin) hd
    · exact wpAny_Name (wpAny_loadName_free I.ok.kind hk hc hcell fin hcd) hd
theorem zv9 {i j pos} : PE X (.Constant (.int i) j pos) (tC (.int i)) := fun _ _ _ H _ I h => wpAny_Constant_int ⟨.int i, H, I.tok _, ⟨_, rfl⟩, h⟩
theorem z2v {b j pos} : PE X (.Constant (.bool b) j pos) (tC (.bl b)) := fun _ _ _ H _ I h => Constant_bool ⟨.bl b, H, I, rfl, h⟩
theorem z4t {j pos} : PE X (.Constant .none j pos) (tC .non) := fun _ _ _ H _ I h => Constant_none ⟨.non, H, I, rfl, h⟩
theorem z24 {x j pos} : PE X (.Constant (.str x) j pos) (tC (.str x)) := fun _ _ _ H _ I h => Calls.Constant_str ⟨.str x, H, I.tok _, ⟨_, rfl⟩, h⟩
noncomputable def Gl (X : Cx) (x : Str) : Prop := X.env.kindOf x = some .globalImplicit
theorem zrp {E : Value -> Shared -> Prop} {pins : List (Addr × Obj)} {s : Shared} {σ : St} {H : Hp} {x : Str} {u : Value} {pos : Pos} {Q : Value -> Shared -> Prop} (I : Inv X pins σ H s) (hg : Gl X x) (hm : X.mg x = some u) (h : Q u s)
    (hd : (x == ("__debug__" : Str)) = false := by decide) : wpAny (model X.prog X.w) X.A (eval (.Name x pos) X.env) Q E s :=
  Calls.Name_function_global I.ok.kind hg (Calls.loadGlobal_global (by rw [I.ok.glob]; exact I.mod.glob.keeps I.bk) hm h) hd
theorem zfy {E : Value -> Shared -> Prop} {pins : List (Addr × Obj)} {s : Shared} {σ : St} {H : Hp} {x : Str} {u : Value} {pos : Pos} {Q : Value -> Shared -> Prop} (I : Inv X pins σ H s) (hg : Gl X x) (hm : X.mg x = none) (hv : bootBuiltins x = some u) (h : Q u s)
    (hn : x ≠ "__name__" := by decide) (hd : (x == ("__debug__" : Str)) = false := by decide) : wpAny (model X.prog X.w) X.A (eval (.Name x pos) X.env) Q E s := by
  obtain ⟨mb, h1, h2⟩ := I.mod.blt
  exact Calls.Name_function_global I.ok.kind hg (Calls.loadGlobal_builtin (by rw [I.ok.glob]; exact I.mod.glob.keeps I.bk) hm (by rw [I.ok.blt]; exact h1.keeps I.bk) ((h2 x hn).trans hv) h) hd
theorem z3b {x : Str} {v : V} {u : Value} {pos : Pos} (hg : Gl X x) (hm : X.mg x = none) (hv : bootBuiltins x = some u) (r : zam v u) (hn : x ≠ "__name__" := by decide) (hd : (x == ("__debug__" : Str)) = false := by decide) : PE X (.Name x pos) (tC v) :=
  fun _ _ _ H _ I h => zfy I hg hm hv ⟨v, H, I, r, h⟩ hn hd
variable {a b : Expr} {ta tb : TE} {pos : Pos}
variable {tA tB' : TT} {zbs : List Expr}
noncomputable def z3z (t u : TT) : TT := fun σ H Q => t σ H fun c H1 => if c = true then u σ H1 Q else Q false H1
noncomputable def tOr (t u : TT) : TT := fun σ H Q => t σ H fun c H1 => if c = true then Q true H1 else u σ H1 Q
noncomputable def z4j (t : TT) : TT := fun σ H Q => t σ H fun c H1 => Q (!c) H1
theorem zxi (ha : PT X a tA) : PW X (.BoolOp .And [a] pos) tA := by
  intro wh pins s σ H Q I h
  refine isTrue_and (thn (ha pins s σ H Q I h) fun c s1 e => ?_)
  cases c with
  | true => exact isTrue_and_nil e
  | false => exact e
theorem z16 (ha : PT X a tA) : PW X (.BoolOp .Or [a] pos) tA := by
  intro wh pins s σ H Q I h
  refine isTrue_or (thn (ha pins s σ H Q I h) fun c s1 e => ?_)
  cases c with
  | false => exact isTrue_or_nil e
  | true => exact e
theorem zxt (ha : PT X a tA) (hb : PW X (.BoolOp .And (b :: zbs) pos) tB') : PW X (.BoolOp .And (a :: b :: zbs) pos) (z3z tA tB') := by
  intro wh pins s σ H Q I h
  refine isTrue_and (thn (ha pins s σ H _ I h) fun c s1 ⟨H1, I1, q1⟩ => ?_)
  cases c with
  | true => exact hb wh pins s1 σ H1 Q I1 q1
  | false => exact ⟨H1, I1, q1⟩
theorem z34 (ha : PT X a tA) (hb : PW X (.BoolOp .Or (b :: zbs) pos) tB') : PW X (.BoolOp .Or (a :: b :: zbs) pos) (tOr tA tB') := by
  intro wh pins s σ H Q I h
  refine isTrue_or (thn (ha pins s σ H _ I h) fun c s1 ⟨H1, I1, q1⟩ => ?_)
  cases c with
  | true => exact ⟨H1, I1, q1⟩
  | false => exact hb wh pins s1 σ H1 Q I1 q1
theorem zya (ha : PT X a tA) : PT X (.UnaryOp .Not a pos) (z4j tA) := by
  intro pins s σ H Q I h
  exact isTrue_not (ha pins s σ H (fun c H1 => Q (!c) H1) I h)
noncomputable def zy6 (ta tb : TE) : TE := fun σ H Q => ta σ H fun x H1 => ∃ c, x = .bl c /\ if c = true then Q (.bl true) H1 else tb σ H1 Q
noncomputable def zw5 (ta : TE) : TE := fun σ H Q => ta σ H fun x H1 => ∃ c, x = .bl c /\ Q (.bl (!c)) H1
theorem zt3 {op} {t : TE} (h : PE X a t) : PE X (.BoolOp op [a] pos) t := fun pins s σ H Q I hw => BoolOp_one (h pins s σ H Q I hw)
theorem zy7 (ha : PE X a ta) (hb : PE X (.BoolOp .Or (b :: zbs) pos) tb) : PE X (.BoolOp .Or (a :: b :: zbs) pos) (zy6 ta tb) := by
  intro pins s σ H Q I h
  refine BoolOp_or (thn (ha pins s σ H _ I h) fun v s1 ⟨x, H1, I1, r1, q1⟩ => ?_)
  obtain ⟨c, rfl, q1⟩ := q1
  cases r1
  refine wpAny_truthy_bool ?_
  cases c with
  | false => exact hb pins s1 σ H1 Q I1 q1
  | true => exact ⟨.bl true, H1, I1, rfl, q1⟩
theorem zvq (ha : PE X a ta) : PE X (.UnaryOp .Not a pos) (zw5 ta) := by
  intro pins s σ H Q I h
  refine UnaryOp_ (thn (ha pins s σ H _ I h) fun v s1 ⟨x, H1, I1, r1, q1⟩ => ?_)
  obtain ⟨c, rfl, q1⟩ := q1
  cases r1
  exact not_of (wpAny_truthy_bool ⟨.bl (!c), H1, I1, rfl, q1⟩)
noncomputable def tIf (t : TT) (ta tb : TE) : TE := fun σ H Q => t σ H fun c H1 => if c = true then ta σ H1 Q else tb σ H1 Q
theorem z36 {c : Expr} (hc : PT X c tA) (ha : PE X a ta) (hb : PE X b tb) : PE X (.IfExp c a b pos) (tIf tA ta tb) := by
  intro pins s σ H Q I h
  refine wpAny_IfExp (thn (hc pins s σ H _ I h) fun d s1 ⟨H1, I1, q1⟩ => ?_)
  cases d with
  | true => exact ha pins s1 σ H1 Q I1 q1
  | false => exact hb pins s1 σ H1 Q I1 q1
end
end L2
namespace L2
open PySem PySem.Spec PyProof.Rows
noncomputable def SqL (K : PySem.W.Frag) (H : Hp) (a : Addr) (xs : List V) : Prop :=
  Rd H a (.lst xs) \/
    ∃ (o : Obj) (its : Array Value) (n : Nat), K.lookup a = some o /\ o.cls = .type "list" /\ o.dict = none /\ o.data = .seq its n /\ its.size <= sizeLine /\ zaj xs its.toList
noncomputable def SqT (K : PySem.W.Frag) (H : Hp) (a : Addr) (xs : List V) : Prop :=
  Rd H a (.tup xs) \/
    ∃ (o : Obj) (its : Array Value) (n : Nat), K.lookup a = some o /\ o.cls = .type "tuple" /\ o.data = .seq its n /\ its.size <= sizeLine /\ zaj xs its.toList
noncomputable def zue : Value -> Option V
  | .none => some .non
  | .bool b => some (.bl b)
  | .int i _ => some (.int i)
  | .str x _ => some (.str x)
  | .bytes b _ => some (.byt b)
  | .float b _ => some (.flt b)
  | .ref a => some (.ref a)
  | .type n => some (.ty n)
  | _ => none
theorem zam.abs {x : V} {u : Value} (r : zam x u) : zue u = some x := by
  cases x with
  | non => cases r; rfl
  | bl _ => cases r; rfl
  | int _ => obtain ⟨t, rfl⟩ := r; rfl
  | str _ => obtain ⟨t, rfl⟩ := r; rfl
  | byt _ => obtain ⟨t, rfl⟩ := r; rfl
  | flt _ => obtain ⟨t, rfl⟩ := r; rfl
  | ref _ => cases r; rfl
  | ty _ => cases r; rfl
theorem zam.inj {x y : V} {u : Value} (r : zam x u) (q : zam y u) : x = y := Option.some.inj (r.abs.symm.trans q.abs)
theorem zaj.inj : ∀ {xs ys : List V} {us : List Value}, zaj xs us -> zaj ys us -> xs = ys
  | _, _, _, .nil, .nil => rfl
  | _, _, _, .cons r t, .cons r' t' => by rw [r.inj r', zaj.inj t t']
section
variable {X : Cx} {pins : List (Addr × Obj)} {σ : St} {H : Hp} {s : Shared} {a : Addr} {xs ys : List V}
theorem SqL.of {K : PySem.W.Frag} (h : H a = some (.lst xs)) : SqL K H a xs := .inl (.inl h)
theorem SqT.of {K : PySem.W.Frag} (h : H a = some (.tup xs)) : SqT K H a xs := .inl (.inl h)
theorem Inv.list (I : Inv X pins σ H s) (h : SqL X.K H a xs) : ∃ its : List Value, zaj xs its /\ PlainL s.heap a its.toArray /\ xs.length <= sizeLine := by
  rcases h with h | ⟨o, its, n, hk, hc, hd, hs, hz, r⟩
  · obtain ⟨z, its, n, r, e⟩ := h.ok I.hok
    exact ⟨its, r, ⟨_, n, e, rfl, rfl, rfl⟩, z⟩
  · refine ⟨its.toList, r, ⟨o, n, I.kIn a o hk, hc, hd, by simpa using hs⟩, ?_⟩
    have e := r.length
    simp only [Array.length_toList] at e
    omega
theorem Inv.tuple (I : Inv X pins σ H s) (h : SqT X.K H a xs) : ∃ its : List Value, zaj xs its /\ IsTup s.heap a its.toArray /\ xs.length <= sizeLine := by
  rcases h with h | ⟨o, its, n, hk, hc, hs, hz, r⟩
  · obtain ⟨z, its, r, p⟩ := h.ok I.hok
    exact ⟨its, r, p, z⟩
  · refine ⟨its.toList, r, ⟨o, I.kIn a o hk, hc, n, by simpa using hs⟩, ?_⟩
    have e := r.length
    simp only [Array.length_toList] at e
    omega
theorem Inv.list_inj (I : Inv X pins σ H s) (h : SqL X.K H a xs) (h' : SqL X.K H a ys) : xs = ys := by
  obtain ⟨its, r, ⟨o, n, e, _, _, d⟩, _⟩ := I.list h
  obtain ⟨its', r', ⟨o', n', e', _, _, d'⟩, _⟩ := I.list h'
  rw [e] at e'; cases e'
  rw [d] at d'
  injection d' with d1 _
  have : its = its' := by simpa using congrArg Array.toList d1
  subst this
  exact r.inj r'
theorem Inv.tuple_inj (I : Inv X pins σ H s) (h : SqT X.K H a xs) (h' : SqT X.K H a ys) : xs = ys := by
  obtain ⟨its, r, ⟨o, e, _, n, d⟩, _⟩ := I.tuple h
  obtain ⟨its', r', ⟨o', e', _, n', d'⟩, _⟩ := I.tuple h'
  rw [e] at e'; cases e'
  rw [d] at d'
  injection d' with d1 _
  have : its = its' := by simpa using congrArg Array.toList d1
  subst this
  exact r.inj r'
end
noncomputable abbrev Cx.wish (X : Cx) (E : Value -> Shared -> Prop) : Cx := { X with xe := E }
noncomputable abbrev Cx.nox (X : Cx) : Cx := X.wish fun _ _ => False
theorem Cx.Ok.wish {X : Cx} (ok : X.Ok) (E : Value -> Shared -> Prop) : (X.wish E).Ok :=
  ⟨ok.mod, ok.kind, ok.glob, ok.blt, ok.above, ok.inj, ok.has, ok.cab, ok.hd, ok.frames, ok.stk, ok.exf, ok.bs, ok.bsz, ok.noex, ok.exfs, ok.funs, ok.frf⟩
theorem Cx.Ok.unwish {X : Cx} {E : Value -> Shared -> Prop} (ok : (X.wish E).Ok) : X.Ok :=
  ⟨ok.mod, ok.kind, ok.glob, ok.blt, ok.above, ok.inj, ok.has, ok.cab, ok.hd, ok.frames, ok.stk, ok.exf, ok.bs, ok.bsz, ok.noex, ok.exfs, ok.funs, ok.frf⟩
section
variable {X : Cx} {pins : List (Addr × Obj)} {σ : St} {H : Hp} {s : Shared} {E : Value -> Shared -> Prop}
theorem Inv.wish (I : Inv X pins σ H s) (E : Value -> Shared -> Prop) : Inv (X.wish E) pins σ H s := ⟨I.ok.wish E, I.os, I.bare, I.base, I.loc, I.cell, I.free, I.freeC, I.pin, I.hok, I.len⟩
theorem Inv.unwish (I : Inv (X.wish E) pins σ H s) : Inv X pins σ H s := ⟨I.ok.unwish, I.os, I.bare, I.base, I.loc, I.cell, I.free, I.freeC, I.pin, I.hok, I.len⟩
theorem SP.unwish {D : ze4} {f : Flow} {s' : Shared} (h : SP (X.wish E) pins D f s') : SP X pins D f s' := by
  cases f with
  | next => obtain ⟨σ', H', I, q⟩ := h; exact ⟨σ', H', I.unwish, q⟩
  | brk => obtain ⟨σ', H', I, q⟩ := h; exact ⟨σ', H', I.unwish, q⟩
  | cont => obtain ⟨σ', H', I, q⟩ := h; exact ⟨σ', H', I.unwish, q⟩
  | ret u => obtain ⟨v, σ', H', I, r, q⟩ := h; exact ⟨v, σ', H', I.unwish, r, q⟩
theorem PE.nox {e : Expr} {t : TE} (h : PE X.nox e t) : PE X e t := fun pins s σ H Q I hw =>
  wpAny_mono (h pins s σ H Q (I.wish _) hw) (fun _ _ ⟨v, H', I', r, q⟩ => ⟨v, H', I'.unwish, r, q⟩) fun _ _ z => False.elim z
theorem PT.nox {e : Expr} {t : TT} (h : PT X.nox e t) : PT X e t := fun pins s σ H Q I hw =>
  wpAny_mono (h pins s σ H Q (I.wish _) hw) (fun _ _ ⟨H', I', q⟩ => ⟨H', I'.unwish, q⟩) fun _ _ z => False.elim z
theorem PSs.nox {st : List Stmt} {t : TS} (h : PSs X.nox st t) : PSs X st t := fun pins s σ H D I hw =>
  wpAny_mono (h pins s σ H D (I.wish _) hw) (fun _ _ q => q.unwish) fun _ _ z => False.elim z
end
section
variable {X : Cx} {st : Stmt} {zbs : List Stmt} {t u : TS} {e : Expr} {te : TE} {pos : Pos}
noncomputable def zvv : TS := fun D σ H => D.nx σ H
noncomputable def z35 (t u : TS) : TS := fun D σ H => t { D with nx := u D } σ H
theorem zpz : PSs X [] zvv := fun _ _ σ H _ I h => wpAny_execs_nil ⟨σ, H, I, h⟩
theorem zq3 (h1 : PS X st t) (h2 : PSs X zbs u) : PSs X (st :: zbs) (z35 t u) := by
  intro pins s σ H D I h
  refine wpAny_execs_cons (thn (h1 pins s σ H { D with nx := u D } I h) fun f s1 q => ?_)
  cases f with
  | next =>
    obtain ⟨σ', H', I', q⟩ := q
    exact h2 pins s1 σ' H' D I' q
  | ret v => exact q
  | brk => exact q
  | cont => exact q
theorem zy3 (h1 : PS X st t) : PSs X [st] t := by
  intro pins s σ H D I h
  refine wpAny_execs_cons (thn (h1 pins s σ H D I h) fun f s1 q => ?_)
  cases f with
  | next => exact wpAny_execs_nil q
  | ret v => exact q
  | brk => exact q
  | cont => exact q
theorem Inv.quiet {pins : List (Addr × Obj)} {σ : St} {H : Hp} {s : Shared} (I : Inv X pins σ H s) : interactive X.env = false := by simp [interactive, I.ok.kind]
noncomputable def zlr (te : TE) : TS := fun D σ H => te σ H fun _ H1 => D.nx σ H1
theorem zgd (he : PE X e te) (hs : swapsWith e none pos.line X.env = pure false := by rfl) : PS X (.Expr e pos) (zlr te) := by
  intro pins s σ H D I h
  exact wpAny_Expr_any (thn (he pins s σ H _ I h) fun v s1 ⟨x, H1, I1, r1, q1⟩ => ⟨σ, H1, I1, q1⟩) I.quiet hs
noncomputable def z22 (te : TE) : TS := fun D σ H => te σ H D.rt
theorem zn5 (he : PE X e te) : PS X (.Return (some e) pos) (z22 te) := by
  intro pins s σ H D I h
  exact wpAny_Return_some (thn (he pins s σ H _ I h) fun v s1 ⟨x, H1, I1, r1, q1⟩ => ⟨x, σ, H1, I1, r1, q1⟩)
noncomputable def z48 (c : TT) (t u : TS) : TS := fun D σ H => c σ H fun b H1 => if b = true then t D σ H1 else u D σ H1
theorem zx7 {c : Expr} {a b : List Stmt} {tc : TT} (hc : PT X c tc) (ha : PSs X a t) (hb : PSs X b u) : PS X (.If c a b pos) (z48 tc t u) := by
  intro pins s σ H D I h
  refine wpAny_If (thn (hc pins s σ H _ I h) fun d s1 ⟨H1, I1, q1⟩ => ?_)
  cases d with
  | true => exact ha pins s1 σ H1 D I1 q1
  | false => exact hb pins s1 σ H1 D I1 q1
end
noncomputable abbrev TG := V -> St -> Hp -> (St -> Hp -> Prop) -> Prop
noncomputable abbrev TGs := List V -> St -> Hp -> (St -> Hp -> Prop) -> Prop
noncomputable def PG (X : Cx) (target : Expr) (t : TG) : Prop :=
  ∀ (pins : List (Addr × Obj)) (s : Shared) (σ : St) (H : Hp) (v : V) (u : Value) (Q : St -> Hp -> Prop), Inv X pins σ H s -> zam v u -> t v σ H Q ->
    wpAny (model X.prog X.w) X.A (assign target X.env u) (fun _ s' => ∃ σ' H', Inv X pins σ' H' s' /\ Q σ' H') X.xe s
noncomputable def PGs (X : Cx) (ts : List Expr) (t : TGs) : Prop :=
  ∀ (pins : List (Addr × Obj)) (s : Shared) (σ : St) (H : Hp) (vs : List V) (us : List Value) (Q : St -> Hp -> Prop), Inv X pins σ H s -> zaj vs us -> t vs σ H Q ->
    wpAny (model X.prog X.w) X.A (assignInOrder ((assignEach ts X.env).map (·.2)) us) (fun _ s' => ∃ σ' H', Inv X pins σ' H' s' /\ Q σ' H') X.xe s
noncomputable abbrev zof := V -> V -> V -> Hp -> (Hp -> Prop) -> Prop
noncomputable def zro (X : Cx) (t : zof) : Prop :=
  ∀ (pins : List (Addr × Obj)) (s : Shared) (σ : St) (H : Hp) (o i v : V) (ov iv u : Value) (Q : Hp -> Prop), Inv X pins σ H s -> zam o ov -> zam i iv -> zam v u -> t o i v H Q ->
    wpAny (model X.prog X.w) X.A (setItem ov iv u) (fun _ s' => ∃ H', Inv X pins σ H' s' /\ Q H') X.xe s
section
variable {X : Cx} {pos : Pos}
noncomputable def zfv (i : Nat) : TG := fun v σ H Q => Q (σ.set i (some v)) H
theorem zte {i : Nat} {x : Str} (hN : X.N.Nodup) (hi : X.N[i]? = some x) (hx : Loc X.env.scope x) (hf : X.fn x = true \/ X.env.scope.names.lookup x = some .local := by first | exact .inl rfl | exact .inr rfl | assumption) : PG X (.Name x pos) (zfv i) := by
  intro pins s σ H v u Q I r h
  exact wpAny_assign_Name (zrf I hN hi hx r (fun s' I' => ⟨_, H, I', h⟩) hf)
noncomputable def z1r : TGs := fun vs σ H Q => vs = [] /\ Q σ H
noncomputable def zww (t : TG) (u : TGs) : TGs := fun vs σ H Q => ∃ v r, vs = v :: r /\ t v σ H fun σ' H' => u r σ' H' Q
theorem z3d : PGs X [] z1r := by
  intro pins s σ H vs us Q I r h
  obtain ⟨e, h⟩ := h
  subst e
  cases r
  exact assignInOrder_nil ⟨σ, H, I, h⟩
theorem zvr {e : Expr} {es : List Expr} {t : TG} {u : TGs} (h1 : PG X e t) (h2 : PGs X es u)
    (hs : (assignEach (e :: es) X.env).map (·.2) = assign e X.env :: (assignEach es X.env).map (·.2) := by rfl) : PGs X (e :: es) (zww t u) := by
  intro pins s σ H vs us Q I r h
  obtain ⟨v, vr, e1, h⟩ := h
  subst e1
  cases r with
  | cons r rr =>
    rw [hs]
    refine assignInOrder_cons (thn (h1 pins s σ H _ _ _ I r h) fun _ s1 ⟨σ1, H1, I1, q1⟩ => ?_)
    exact h2 pins s1 σ1 H1 _ _ Q I1 rr q1
noncomputable def zx9 (K : PySem.W.Frag) (n : Nat) (t : TGs) : TG := fun v σ H Q => ∃ a xs, v = .ref a /\ SqT K H a xs /\ xs.length = n /\ t xs σ H Q
theorem z0g {es : List Expr} {k : Nat} {t : TGs} {n : Nat} (hc : X.calm = true) (h : PGs X es t)
    (hn : (assignEach es X.env).length = n := by rfl) (hst : (assignEach es X.env).findIdx? (·.1) = none := by rfl) : PG X (.Tuple es k pos) (zx9 X.K n t) := by
  intro pins s σ H v u Q I r hw
  obtain ⟨a, xs, e1, hq, hl, hw⟩ := hw
  subst e1
  cases r
  obtain ⟨its, rv, ht, hz⟩ := I.tuple hq
  refine assign_Tuple_tuple (I.ok.hd hc) ht (by simp [hn, <- hl, rv.length]) hst fun h' hx => ?_
  have I1 : Inv X pins σ H { s with heap := h' } := I.kept (t' := s.toks) fun b o e => hx b o (Nat.ne_of_lt (Heap.lt_size e)) e
  exact h pins _ σ H xs _ Q I1 (by simpa using rv) hw
noncomputable def zsk (to ti : TE) (t : zof) : TG := fun v σ H Q => to σ H fun o H1 => ti σ H1 fun i H2 => t o i v H2 fun H3 => Q σ H3
theorem zxb {o i : Expr} {to ti : TE} {t : zof} (ho : PE X o to) (hi : PE X i ti) (hs : zro X t)
    (ha : ∀ v, assign (.Subscript o i pos) X.env v = (do
      let ov <- holding [v] (eval o X.env)
      let iv <- holding [v, ov] (eval i X.env)
      standAt pos
      holding [v, ov, iv] (setItem ov iv v)
      release [v, ov, iv] []) := by intro _; rfl) : PG X (.Subscript o i pos) (zsk to ti t) := by
  intro pins s σ H v u Q I r h
  rw [ha]
  refine wpAny_bind (wpAny_holding (thn (ho pins s σ H _ I h) fun ov s1 ⟨x, H1, I1, r1, q1⟩ => ?_))
  refine wpAny_bind (wpAny_holding (thn (hi pins s1 σ H1 _ I1 q1) fun iv s2 ⟨y, H2, I2, r2, q2⟩ => ?_))
  refine wpAny_bind (wpAny_standAt (wpAny_bind (wpAny_holding (thn (hs pins s2 σ H2 x y v ov iv u _ I2 r1 r2 r q2) fun _ s3 ⟨H3, I3, q3⟩ => ?_))))
  exact wpAny_release ⟨σ, H3, I3, q3⟩
noncomputable def zf6 (te : TE) (g : TG) : TS := fun D σ H => te σ H fun x H1 => g x σ H1 D.nx
theorem zxa {tg e : Expr} {te : TE} {g : TG} (he : PE X e te) (hg : PG X tg g) (hs : swapsWithSole [tg] e pos.line X.env = pure false := by rfl) (hw : swappedStores [tg] e X.env = pure none := by rfl)
    (h1 : (assignEach [tg] X.env).map (·.2) = [assign tg X.env] := by rfl) : PS X (.Assign [tg] e pos) (zf6 te g) := by
  intro pins s σ H D I h
  refine wpAny_Assign_stores (thn (he pins s σ H _ I h) fun v s1 ⟨x, H1, I1, r1, q1⟩ => ?_) hs hw
  rw [h1]
  exact thn (hg pins s1 σ H1 x v _ I1 r1 q1) fun _ s2 q => q
theorem zl3 {i : Nat} {x : Str} {e : Expr} {te : TE} {pos' : Pos} (hN : X.N.Nodup) (hi : X.N[i]? = some x) (hx : Loc X.env.scope x) (he : PE X e te) (hs : swapsWith e (some (.Name x pos')) pos.line X.env = pure false := by rfl) (hf : X.fn x = true \/ X.env.scope.names.lookup x = some .local := by first | exact .inl rfl | exact .inr rfl | assumption) :
    PS X (.Assign [.Name x pos'] e pos) (zf6 te (zfv i)) := by
  intro pins s σ H D I h
  refine wpAny_Assign_Name (thn (he pins s σ H _ I h) fun v s1 ⟨y, H1, I1, r1, q1⟩ => ?_) hs
  exact zrf I1 hN hi hx r1 (fun s2 I2 => ⟨_, H1, I2, q1⟩) hf
end
section
variable {X : Cx} {pos : Pos}
end
structure It where
  go : Nat -> Hp -> Prop
  yld : Nat -> Hp -> V -> Hp -> Prop
  stop : Nat -> Hp -> Prop
noncomputable def zee (X : Cx) (pins : List (Addr × Obj)) (H : Hp) (b : Addr) : Prop :=
  H b = none /\ b ≠ X.env.locals /\ b ∉ X.fs /\ (b ∈ X.ex \/ X.s₀.heap.objs.size <= b) /\ (∀ x c, X.env.cells.lookup x = some c -> c ≠ b) /\ ∀ p ∈ X.pn ++ pins, p.1 ≠ b
theorem Inv.fpOk {X : Cx} {pins : List (Addr × Obj)} {σ : St} {H H' : Hp} {s : Shared} {b : Addr} (I : Inv X pins σ H s) (hb : s.heap.objs.size <= b) (hn : H' b = none) : zee X pins H' b := by
  refine ⟨hn, Nat.ne_of_gt (Nat.lt_of_lt_of_le I.lt hb), I.nofs hb, .inr (Nat.le_trans I.sz hb), fun x c e z => ?_, fun p hp z => ?_⟩
  · obtain ⟨v, q⟩ := I.cell x c e
    exact absurd (Nat.lt_of_lt_of_le q.lt (by rw [z]; exact hb)) (Nat.lt_irrefl _)
  · exact absurd (Nat.lt_of_lt_of_le (Heap.lt_size (I.pin p hp).1) (by rw [z]; exact hb)) (Nat.lt_irrefl _)
structure zf5 (P : Program) (w : World) (K : PySem.W.Frag) (tg : Expr) (J : It) (fp : List Addr) (it : Addr) (tn : Nat -> Heap -> Prop) : Prop where
  mem : it ∈ fp
  obj : ∀ i h, tn i h -> ∀ b ∈ fp, ∃ o, h.get? b = some o /\ ∀ v, o.data ≠ .cell v
  keep : ∀ i h h', tn i h -> (∀ b ∈ fp, ∀ o, h.get? b = some o -> h'.get? b = some o) -> tn i h'
  item : ∀ (X : Cx), X.prog = P -> X.w = w -> X.K = K -> X.calm = true -> ∀ (i : Nat) (pins : List (Addr × Obj)) (s : Shared) (σ : St) (H : Hp) (E : Value -> Shared -> Prop), Inv X pins σ H s -> (∀ b ∈ fp, zee X pins H b) -> tn i s.heap -> J.go i H ->
    wpAny (model P w) X.A (pyNext (.ref it)) (fun r s1 => ∃ u, r = some u /\
      wpAny (model P w) X.A (letOwnedTupleGo tg (.ref it) u) (fun _ s2 => ∃ x H', Inv X pins σ H' s2 /\ zam x u /\ J.yld i H x H' /\ tn (i + 1) s2.heap /\ ∀ b ∈ fp, H' b = none) E s1) E s
  done : ∀ (X : Cx), X.prog = P -> X.w = w -> X.K = K -> X.calm = true -> ∀ (i : Nat) (pins : List (Addr × Obj)) (s : Shared) (σ : St) (H : Hp) (E : Value -> Shared -> Prop), Inv X pins σ H s -> (∀ b ∈ fp, zee X pins H b) -> tn i s.heap -> J.stop i H ->
    wpAny (model P w) X.A (pyNext (.ref it)) (fun r s1 => r = none /\ Inv X pins σ H s1) E s
  self : ∀ (A : Around) (i : Nat) (s : Shared) (Q : Value -> Shared -> Prop) (E : Value -> Shared -> Prop), tn i s.heap -> Q (.ref it) s -> wpAny (model P w) A (pyIter (.ref it)) Q E s
noncomputable abbrev TI := St -> Hp -> (It -> Hp -> Prop) -> Prop
noncomputable def PIE (X : Cx) (pins : List (Addr × Obj)) (σ : St) (tg : Expr) (R : It -> Hp -> Prop) (itv : Value) (s2 : Shared) : Prop :=
  ∃ (it : Addr) (fp : List Addr) (tn : Nat -> Heap -> Prop) (J : It) (H' : Hp), itv = .ref it /\ Inv X pins σ H' s2 /\ zf5 X.prog X.w X.K tg J fp it tn /\ tn 0 s2.heap /\ (∀ b ∈ fp, zee X pins H' b) /\ R J H'
noncomputable def PI (X : Cx) (tg iter : Expr) (wi : TI) : Prop :=
  ∀ (pins : List (Addr × Obj)) (s : Shared) (σ : St) (H : Hp) (R : It -> Hp -> Prop), Inv X pins σ H s -> wi σ H R ->
    wpAny (model X.prog X.w) X.A (eval iter X.env) (fun v s1 => wpAny (model X.prog X.w) X.A (pyIter v) (PIE X pins σ tg R) X.xe s1) X.xe s
theorem zm9 {M : Model} {A : Around} {E : Value -> Shared -> Prop} {s : Shared} {tg : Expr} {it : Addr} {u : Value} {o : Obj} {n : String} {vs : Array Value} {Q : Unit -> Shared -> Prop} (ho : s.heap.get? it = some o) (hc : o.cls = .type n) (hd : o.data = .fields vs)
    (hn : ["enumerate", "zip", "dict_itemiterator", "dict_reverseitemiterator", "odict_iterator", "itertools.zip_longest", "itertools.pairwise"].contains n = false) (hQ : Q () s) : wpAny M A (letOwnedTupleGo tg (.ref it) u) Q E s := by
  unfold letOwnedTupleGo
  cases tg <;> first
    | exact wpAny_pure hQ
    | (cases u <;> first
        | exact wpAny_pure hQ
        | (refine wpAny_bind (wpAny_load ho ?_)
           rw [hc, hd]
           show wpAny M A (if (["enumerate", "zip", "dict_itemiterator", "dict_reverseitemiterator", "odict_iterator", "itertools.zip_longest", "itertools.pairwise"].contains n && vs[0]? == some (rawInt _)) = true then _ else _) Q E s
           rw [if_neg (by intro h; rw [hn, Bool.false_and] at h; cases h)]
           exact wpAny_pure hQ))
noncomputable def Itl (K : PySem.W.Frag) (a : Addr) : It :=
  ⟨fun i H => ∃ xs x, SqL K H a xs /\ xs[i]? = some x, fun i H x H' => H' = H /\ ∀ xs, SqL K H a xs -> xs[i]? = some x, fun i H => ∃ xs, SqL K H a xs /\ xs.length <= i⟩
noncomputable def Itt (K : PySem.W.Frag) (a : Addr) : It :=
  ⟨fun i H => ∃ xs x, SqT K H a xs /\ xs[i]? = some x, fun i H x H' => H' = H /\ ∀ xs, SqT K H a xs -> xs[i]? = some x, fun i H => ∃ xs, SqT K H a xs /\ xs.length <= i⟩
noncomputable def Itr (lo : Int) (n : Nat) : It := ⟨fun i _ => i < n, fun i H x H' => H' = H /\ x = .int (lo + i), fun i _ => n <= i⟩
theorem z4l {P : Program} {w : World} {K : PySem.W.Frag} {tg : Expr} (a it : Addr) : zf5 P w K tg (Itl K a) [it] it (fun i h => h.IsListIter it a i) where
  mem := by simp
  obj := fun i h st b hb => by
    have e : b = it := by simpa using hb
    subst e
    obtain ⟨o, e, c, d⟩ := st
    exact ⟨o, e, fun v z => by rw [d] at z; cases z⟩
  keep := fun i h h' st k => st.at fun o e => k it (by simp) o e
  item := by
    intro X hP hw hK hc i pins s σ H E I hf st hg
    subst hP hw hK
    obtain ⟨xs, x, hq, hx⟩ := hg
    obtain ⟨its, rv, p, hz⟩ := I.list hq
    obtain ⟨u, hu, ru⟩ := rv.get hx
    obtain ⟨f0, f1, f2, f3, f4, f5⟩ := hf it (by simp)
    refine wpAny_pyNext_list_item st p.isList (x := u) (by simpa using hu) fun h' st' sb => ?_
    have I1 : Inv X pins σ H { s with heap := h' } := I.turned (t' := s.toks) (fun b o hb e => (sb.2 b hb).trans e) f0 f1 f3 f4 f5
    obtain ⟨o, e, c, d⟩ := id st'
    exact ⟨u, rfl, zm9 (s := { s with heap := h' }) e c d (by decide) ⟨x, H, I1, ru, ⟨rfl, fun ys hy => by rw [I.list_inj hy hq]; exact hx⟩, st', fun b hb => (hf b hb).1⟩⟩
  done := by
    intro X hP hw hK hc i pins s σ H E I hf st hg
    subst hP hw hK
    obtain ⟨xs, hq, hx⟩ := hg
    obtain ⟨its, rv, p, hz⟩ := I.list hq
    obtain ⟨f0, f1, f2, f3, f4, f5⟩ := hf it (by simp)
    have hl := rv.length
    exact wpAny_pyNext_list_end (I.ok.hd hc) st p.isList (by simp; omega) fun h' eb => ⟨rfl, I.turned (t' := s.toks) (fun b o hb e => eb b o hb e) f0 f1 f3 f4 f5⟩
  self := fun _ _ _ _ _ st h => wpAny_pyIter_listiter st h
theorem z0s {P : Program} {w : World} {K : PySem.W.Frag} {tg : Expr} (a it : Addr) : zf5 P w K tg (Itt K a) [it] it (fun i h => h.IsTupleIter it a i) where
  mem := by simp
  obj := fun i h st b hb => by
    have e : b = it := by simpa using hb
    subst e
    obtain ⟨o, e, c, d⟩ := st
    exact ⟨o, e, fun v z => by rw [d] at z; cases z⟩
  keep := fun i h h' st k => st.at fun o e => k it (by simp) o e
  item := by
    intro X hP hw hK hc i pins s σ H E I hf st hg
    subst hP hw hK
    obtain ⟨xs, x, hq, hx⟩ := hg
    obtain ⟨its, rv, p, hz⟩ := I.tuple hq
    obtain ⟨u, hu, ru⟩ := rv.get hx
    obtain ⟨f0, f1, f2, f3, f4, f5⟩ := hf it (by simp)
    refine wpAny_pyNext_tuple_item st (show s.heap.IsTuple a its.toArray from p) (x := u) (by simpa using hu) fun h' st' sb => ?_
    have I1 : Inv X pins σ H { s with heap := h' } := I.turned (t' := s.toks) (fun b o hb e => (sb.2 b hb).trans e) f0 f1 f3 f4 f5
    obtain ⟨o, e, c, d⟩ := id st'
    exact ⟨u, rfl, zm9 (s := { s with heap := h' }) e c d (by decide) ⟨x, H, I1, ru, ⟨rfl, fun ys hy => by rw [I.tuple_inj hy hq]; exact hx⟩, st', fun b hb => (hf b hb).1⟩⟩
  done := by
    intro X hP hw hK hc i pins s σ H E I hf st hg
    subst hP hw hK
    obtain ⟨xs, hq, hx⟩ := hg
    obtain ⟨its, rv, p, hz⟩ := I.tuple hq
    obtain ⟨f0, f1, f2, f3, f4, f5⟩ := hf it (by simp)
    have hl := rv.length
    exact wpAny_pyNext_tuple_end (I.ok.hd hc) st (show s.heap.IsTuple a its.toArray from p) (by simp; omega) fun h' eb => ⟨rfl, I.turned (t' := s.toks) (fun b o hb e => eb b o hb e) f0 f1 f3 f4 f5⟩
  self := fun _ _ _ _ _ st h => wpAny_pyIter_tupleiter st h
theorem zxc {P : Program} {w : World} {K : PySem.W.Frag} {tg : Expr} (it : Addr) (lo : Int) (n : Nat) : zf5 P w K tg (Itr lo n) [it] it (fun i h => IsRangeIter h it (lo + (i : Nat) * 1) ((n : Int) - (i : Nat)) 1) where
  mem := by simp
  obj := fun i h st b hb => by
    have e : b = it := by simpa using hb
    subst e
    exact ⟨_, st, fun v z => by
      have z' : Data.fields _ = Data.cell v := z
      cases z'⟩
  keep := fun i h h' st k => k it (by simp) _ st
  item := by
    intro X hP hw hK hc i pins s σ H E I hf st hg
    subst hP hw hK
    obtain ⟨f0, f1, f2, f3, f4, f5⟩ := hf it (by simp)
    have W := Walks.range (prog := X.prog) (w := X.w) (I.ok.hd hc) it lo 1 n
    refine W.item i s _ _ hg st fun v h' tk hv st' kk => ?_
    obtain ⟨t, rfl⟩ := hv
    have I1 : Inv X pins σ H { s with heap := h', toks := tk } := I.turned (fun b o hb e => kk b o (by simpa using hb) e) f0 f1 f3 f4 f5
    refine ⟨_, rfl, zm9 (s := { s with heap := h', toks := tk }) (n := "range_iterator") st' rfl rfl (by decide) ⟨.int (lo + i), H, I1, ⟨t, ?_⟩, ⟨rfl, rfl⟩, st', fun b hb => (hf b hb).1⟩⟩
    rw [Int.mul_one]
  done := by
    intro X hP hw hK hc i pins s σ H E I hf st hg
    subst hP hw hK
    obtain ⟨f0, f1, f2, f3, f4, f5⟩ := hf it (by simp)
    exact wpAny_pyNext_range_end (I.ok.hd hc) st (by have : n <= i := hg; omega) fun h' eb => ⟨rfl, I.turned (t' := s.toks) (fun b o hb e => eb b o hb e) f0 f1 f3 f4 f5⟩
  self := fun _ _ _ _ _ st h => wpAny_pyIter_rangeiter st h
end L2
namespace L2
open PySem PySem.Spec PyProof.Rows
section
variable {X : Cx} {tg : Expr}
noncomputable def zzh (K : PySem.W.Frag) (tl : TE) : TI := fun σ H R => tl σ H fun x H1 => ∃ a, x = .ref a /\ (∃ xs, SqL K H1 a xs) /\ R (Itl K a) H1
noncomputable def ztz (K : PySem.W.Frag) (tl : TE) : TI := fun σ H R => tl σ H fun x H1 => ∃ a, x = .ref a /\ (∃ xs, SqT K H1 a xs) /\ R (Itt K a) H1
theorem zug {l : Expr} {tl : TE} (hl : PE X l tl) : PI X tg l (zzh X.K tl) := by
  intro pins s σ H R I h
  refine thn (hl pins s σ H _ I h) fun v s1 ⟨x, H1, I1, r1, q1⟩ => ?_
  obtain ⟨a, e, ⟨xs, hq⟩, q⟩ := q1
  subst e
  cases r1
  obtain ⟨its, rv, p, hz⟩ := I1.list hq
  refine wpAny_pyIter_list p.isList ?_
  refine ⟨s1.heap.objs.size, [s1.heap.objs.size], _, _, H1, rfl, I1.kept (t' := s1.toks) fun b o e => Heap.get?_push_of_some _ e, z4l a _, ⟨_, Heap.get?_push_size _ rfl, rfl, rfl⟩, fun b hb => ?_, q⟩
  have e : b = s1.heap.objs.size := by simpa using hb
  subst e
  exact I1.fpOk (Nat.le_refl _) (I1.hok.fresh (Nat.le_refl _))
theorem z1f {l : Expr} {tl : TE} (hl : PE X l tl) : PI X tg l (ztz X.K tl) := by
  intro pins s σ H R I h
  refine thn (hl pins s σ H _ I h) fun v s1 ⟨x, H1, I1, r1, q1⟩ => ?_
  obtain ⟨a, e, ⟨xs, hq⟩, q⟩ := q1
  subst e
  cases r1
  obtain ⟨its, rv, p, hz⟩ := I1.tuple hq
  refine wpAny_pyIter_tuple (show s1.heap.IsTuple a its.toArray from p) ?_
  refine ⟨s1.heap.objs.size, [s1.heap.objs.size], _, _, H1, rfl, I1.kept (t' := s1.toks) fun b o e => Heap.get?_push_of_some _ e, z0s a _, ⟨_, Heap.get?_push_size _ rfl, rfl, rfl⟩, fun b hb => ?_, q⟩
  have e : b = s1.heap.objs.size := by simpa using hb
  subst e
  exact I1.fpOk (Nat.le_refl _) (I1.hok.fresh (Nat.le_refl _))
theorem z1t {pins : List (Addr × Obj)} {σ : St} {H : Hp} {s : Shared} {R : It -> Hp -> Prop} {E : Value -> Shared -> Prop} {lo hi : Int} {t u v : Tok} {tk : Nat} (I : Inv X pins σ H s) (h1 : -(2 ^ 62) <= lo) (h2 : lo < 2 ^ 62) (h3 : -(2 ^ 62) <= hi) (h4 : hi < 2 ^ 62)
    (q : R (Itr lo (hi - lo).toNat) H) : wpAny (model X.prog X.w) X.A (pyIter (.ref s.heap.objs.size)) (PIE X pins σ tg R) E { s with heap := s.heap.push { cls := .type "range", data := .fields #[.int lo t, .int hi u, .int 1 v] }, toks := tk } := by
  refine wpAny_pyIter_range (IsRange.new ..) (small_one h1 h2 h3 h4) ?_
  have I1 : Inv X pins σ H { s with heap := s.heap.push { cls := .type "range", data := .fields #[.int lo t, .int hi u, .int 1 v] }, toks := tk } := I.kept fun b o e => Heap.get?_push_of_some _ e
  refine ⟨(s.heap.push { cls := .type "range", data := .fields #[.int lo t, .int hi u, .int 1 v] }).objs.size, [(s.heap.push { cls := .type "range", data := .fields #[.int lo t, .int hi u, .int 1 v] }).objs.size], _, _, H, rfl,
    I1.kept (t' := tk) fun b o e => Heap.get?_push_of_some _ e, zxc _ lo (hi - lo).toNat, ?_, fun b hb => ?_, q⟩
  · have e1 : lo + ((0 : Nat) : Int) * 1 = lo := by simp
    have e2 : (((hi - lo).toNat : Nat) : Int) - ((0 : Nat) : Int) = Builtin.Range.rangeSize lo hi 1 := by rw [rangeSize_one]; split <;> omega
    show IsRangeIter _ _ (lo + ((0 : Nat) : Int) * 1) ((((hi - lo).toNat : Nat) : Int) - ((0 : Nat) : Int)) 1
    rw [e1, e2]
    exact Heap.get?_push_size _ rfl
  · have e : b = (s.heap.push { cls := .type "range", data := .fields #[.int lo t, .int hi u, .int 1 v] }).objs.size := by simpa using hb
    subst e
    exact I1.fpOk (Nat.le_refl _) (I1.hok.fresh (Nat.le_refl _))
noncomputable def zx6 (ta : TA) : TI := fun σ H R => ta σ H fun vs H1 => ∃ j : Int, vs = [.int j] /\ -(2 ^ 62) <= j /\ j < 2 ^ 62 /\ R (Itr 0 j.toNat) H1
theorem z15 {a : Expr} {ta : TA} {p pos : Pos} (hg : Gl X "range") (hm : X.mg "range" = none) (ha : PA X [a] ta) (hs : starEach [a] X.env = [(false, eval a X.env)] := by rfl) : PI X tg (.Call (.Name "range" p) [a] [] pos) (zx6 ta) := by
  intro pins s σ H R I h
  refine Call_ (zfy I hg hm boot_range (PyProof.Rows.callWith_type1 (thn (ha pos pins s σ H _ I h) fun us s1 ⟨vs, H1, I1, r1, q1⟩ => ?_) hs rfl))
  obtain ⟨j, e, q1, q2, q⟩ := q1
  subst e
  cases r1 with
  | cons r rr =>
    cases rr
    obtain ⟨t, rfl⟩ := r
    exact call_range_1 (z1t I1 (by omega) (by omega) q1 q2 (by simpa using q))
noncomputable def z33 (wi : TI) (g : TG) (tb : TS) : TS := fun D σ H => wi σ H fun J H1 => ∃ W : Nat -> Nat -> St -> Hp -> Prop, (∃ m, W 0 m σ H1) /\ ∀ i m σ H, W i m σ H ->
  (J.stop i H /\ D.nx σ H) \/ (J.go i H /\ ∃ N : St -> Hp -> Prop, (∀ σ' H', N σ' H' -> ∃ m', m' < m /\ W (i + 1) m' σ' H') /\ ∀ x H', J.yld i H x H' -> g x σ H' fun σ2 H2 => tb { D with nx := N, ct := N, bk := D.nx } σ2 H2)
noncomputable def zir (fp : List Addr) (h : Heap) : List (Addr × Obj) := fp.filterMap fun b => (h.get? b).map fun o => (b, o)
theorem zk8 {fp : List Addr} {h : Heap} {b : Addr} {o : Obj} (hb : b ∈ fp) (e : h.get? b = some o) : (b, o) ∈ zir fp h := List.mem_filterMap.mpr ⟨b, hb, by rw [e]; rfl⟩
theorem z26 {fp : List Addr} {h : Heap} {p : Addr × Obj} (hp : p ∈ zir fp h) : p.1 ∈ fp /\ h.get? p.1 = some p.2 := by
  obtain ⟨b, hb, e⟩ := List.mem_filterMap.mp hp
  cases q : h.get? b with
  | none => rw [q] at e; cases e
  | some o =>
    rw [q] at e
    have e' : (b, o) = p := Option.some.inj e
    subst e'
    exact ⟨hb, q⟩
theorem Inv.pinned {pins : List (Addr × Obj)} {σ : St} {H : Hp} {s : Shared} {fp : List Addr} (I : Inv X pins σ H s) (hf : ∀ b ∈ fp, zee X pins H b) (ho : ∀ b ∈ fp, ∃ o, s.heap.get? b = some o /\ ∀ v, o.data ≠ .cell v) : Inv X (pins ++ zir fp s.heap) σ H s :=
  I.pins_of fun p hp => (List.mem_append.mp hp).elim (fun z => I.pin p (List.mem_append_right _ z)) fun z => by
    obtain ⟨hb, e⟩ := z26 z
    obtain ⟨f0, f1, f2, _⟩ := hf p.1 hb
    obtain ⟨o, e', d⟩ := ho p.1 hb
    rw [e] at e'; cases e'
    exact ⟨e, f0, f1, f2, d⟩
theorem Inv.unpinned {pins pl : List (Addr × Obj)} {σ : St} {H : Hp} {s : Shared} (I : Inv X (pins ++ pl) σ H s) : Inv X pins σ H s := I.pins_of fun p hp => I.pin p (List.mem_append_right _ (List.mem_append_left _ hp))
theorem zwc {iter : Expr} {body : List Stmt} {wi : TI} {g : TG} {tb : TS} {pos : Pos} (hp : PassesOwn (model X.prog X.w) X.A X.env X.xe) (hc : X.calm = true) (hi : PI X tg iter wi) (hg : PG X tg g) (hb : PSs X body tb)
    (hs : ∀ x, foldedSetIterable iter X.env x = pure x := by intro _; rfl) : PS X (.For tg iter body [] pos) (z33 wi g tb) := by
  intro pins s σ H D I h
  refine wpAny_For (thn (hi pins s σ H _ I h) fun v s1 h1 => thn h1 fun itv s2 h2 => ?_) hs
  obtain ⟨it, fp, tn, J, H2, e, I2, T, st2, f2, W, ⟨m0, w0⟩, turn⟩ := h2
  subst e
  have stat : ∀ {H' : Hp}, (∀ b ∈ fp, H' b = none) -> ∀ b ∈ fp, zee X pins H' b := fun hn b hb => ⟨hn b hb, (f2 b hb).2⟩
  refine codeAny_forLoop_any (fun n s' => ∃ i σ' H', Inv X pins σ' H' s' /\ tn i s'.heap /\ (∀ b ∈ fp, H' b = none) /\ W i n σ' H') ?_ m0 ⟨0, σ, H2, I2, st2, fun b hb => (f2 b hb).1, w0⟩
  rintro n s3 ⟨i, σ3, H3, I3, st3, fr3, w3⟩
  rcases turn i n σ3 H3 w3 with ⟨stop, qn⟩ | ⟨go, N, hN, step⟩
  · refine wpAny_passesOwn hp (thn (T.done X rfl rfl rfl hc i pins s3 σ3 H3 X.xe I3 (stat fr3) st3 stop) fun r s4 ⟨hr, I4⟩ => ?_)
    subst hr
    exact wpAny_execs_nil ⟨σ3, H3, I4, qn⟩
  · refine wpAny_passesOwn hp (thn (T.item X rfl rfl rfl hc i pins s3 σ3 H3 X.xe I3 (stat fr3) st3 go) fun r s4 ⟨u, hr, h4⟩ => ?_)
    subst hr
    refine wpAny_passesOwn hp (thn h4 fun _ s5 ⟨x, H5, I5, r5, y5, st5, fr5⟩ => ?_)
    have I5' := I5.pinned (stat fr5) (T.obj _ _ st5)
    refine wpAny_passesOwn hp (thn (hg _ s5 σ3 H5 x u _ I5' r5 (step x H5 y5)) fun _ s6 ⟨σ6, H6, I6, q6⟩ => ?_)
    refine wpAny_passesOwn hp (thn (hb _ s6 σ6 H6 _ I6 q6) fun f s7 q7 => ?_)
    have again : ∀ {σ7 : St} {H7 : Hp}, Inv X (pins ++ zir fp s5.heap) σ7 H7 s7 -> N σ7 H7 -> ∃ m, m < n /\ ∃ i σ' H', Inv X pins σ' H' s7 /\ tn i s7.heap /\ (∀ b ∈ fp, H' b = none) /\ W i m σ' H' := fun {σ7 H7} I7 n7 => by
      obtain ⟨m', hm, w7⟩ := hN σ7 H7 n7
      refine ⟨m', hm, i + 1, σ7, H7, I7.unpinned, T.keep _ _ _ st5 fun b hb o e => (I7.pin (b, o) (List.mem_append_right _ (List.mem_append_right _ (zk8 hb e)))).1, fun b hb => ?_, w7⟩
      obtain ⟨o, e, d⟩ := T.obj _ _ st5 b hb
      exact (I7.pin (b, o) (List.mem_append_right _ (List.mem_append_right _ (zk8 hb e)))).2.1
    cases f with
    | next => obtain ⟨σ7, H7, I7, n7⟩ := q7; exact again I7 n7
    | cont => obtain ⟨σ7, H7, I7, n7⟩ := q7; exact again I7 n7
    | brk => obtain ⟨σ7, H7, I7, q7⟩ := q7; exact ⟨σ7, H7, I7.unpinned, q7⟩
    | ret v => obtain ⟨x7, σ7, H7, I7, r7, q7⟩ := q7; exact ⟨x7, σ7, H7, I7.unpinned, r7, q7⟩
end
end L2
namespace L2
open PySem PySem.Spec PyProof.Rows
noncomputable abbrev R2 := V -> V -> Hp -> VK -> Prop
noncomputable def OpR (X : Cx) (f : Value -> Value -> Sem Value) (r : R2) : Prop :=
  ∀ (pins : List (Addr × Obj)) (s : Shared) (σ : St) (H : Hp) (x y : V) (v u : Value) (Q : VK), Inv X pins σ H s -> zam x v -> zam y u -> r x y H Q ->
    wpAny (model X.prog X.w) X.A (f v u) (EP X pins σ Q) X.xe s
noncomputable def zcw (X : Cx) (f : Value) (r : List V -> Hp -> VK -> Prop) : Prop :=
  ∀ (pins : List (Addr × Obj)) (s : Shared) (σ : St) (H : Hp) (xs : List V) (us : List Value) (Q : VK), Inv X pins σ H s -> zaj xs us -> r xs H Q ->
    wpAny (model X.prog X.w) X.A (call f us) (EP X pins σ Q) X.xe s
noncomputable def zxx (X : Cx) (r : V -> Hp -> (Bool -> Hp -> Prop) -> Prop) : Prop :=
  ∀ (pins : List (Addr × Obj)) (s : Shared) (σ : St) (H : Hp) (x : V) (v : Value) (Q : Bool -> Hp -> Prop), Inv X pins σ H s -> zam x v -> r x H Q ->
    wpAny (model X.prog X.w) X.A (truthy v) (TP X pins σ Q) X.xe s
noncomputable def tOp (r : R2) (ta tb : TE) : TE := fun σ H Q => ta σ H fun x H1 => tb σ H1 fun y H2 => r x y H2 Q
noncomputable def rI (C : Int -> Int -> Prop) (g : Int -> Int -> V) : R2 := fun x y H Q => ∃ i j, x = .int i /\ y = .int j /\ C i j /\ Q (g i j) H
noncomputable def rI0 (g : Int -> Int -> V) : R2 := fun x y H Q => ∃ i j, x = .int i /\ y = .int j /\ Q (g i j) H
section
variable {X : Cx} {a b c : Expr} {ta tb tc : TE} {pos : Pos}
theorem zm3 (ha : PE X a ta) (hb : PE X b tb) {pins : List (Addr × Obj)} {s : Shared} {σ : St} {H : Hp} {R : V -> V -> Hp -> Prop} (I : Inv X pins σ H s)
    (h : ta σ H fun x H1 => tb σ H1 fun y H2 => R x y H2) {Q : Value -> Shared -> Prop} {f : Value -> Value -> Sem Value}
    (hf : ∀ v u s2 x y H2, Inv X pins σ H2 s2 -> zam x v -> zam y u -> R x y H2 -> wpAny (model X.prog X.w) X.A (f v u) Q X.xe s2) :
    wpAny (model X.prog X.w) X.A (eval a X.env) (fun v s₁ => wpAny (model X.prog X.w) X.A (eval b X.env) (fun u s₂ => wpAny (model X.prog X.w) X.A (f v u) Q X.xe s₂) X.xe s₁) X.xe s := by
  refine thn (ha pins s σ H _ I h) fun v s1 ⟨x, H1, I1, r1, q1⟩ => ?_
  refine thn (hb pins s1 σ H1 _ I1 q1) fun u s2 ⟨y, H2, I2, r2, q2⟩ => ?_
  exact hf v u s2 x y H2 I2 r1 r2 q2
theorem zs2 {op : Operator} {r : R2} (ho : OpR X (binaryOp op) r) (ha : PE X a ta) (hb : PE X b tb) : PE X (.BinOp a op b pos) (tOp r ta tb) := by
  intro pins s σ H Q I h
  exact wpAny_BinOp (zm3 ha hb I h fun v u s2 x y H2 I2 rx ry q => ho pins s2 σ H2 x y v u Q I2 rx ry q)
theorem opI {f : Value -> Value -> Sem Value} {C : Int -> Int -> Prop} {g : Int -> Int -> Int}
    (rule : ∀ (i j : Int) (t u : Tok) (s : Shared) (Q : Value -> Shared -> Prop) (E : Value -> Shared -> Prop), C i j -> Q (.int (g i j) s.toks) { s with toks := s.toks + 1 } -> wpAny (model X.prog X.w) X.A (f (.int i t) (.int j u)) Q E s) :
    OpR X f (rI C fun i j => .int (g i j)) := by
  intro pins s σ H x y v u Q I rx ry h
  obtain ⟨i, j, rfl, rfl, hc, q⟩ := h
  obtain ⟨t, rfl⟩ := rx
  obtain ⟨t', rfl⟩ := ry
  exact rule i j t t' s _ _ hc ⟨.int (g i j), H, I.tok _, ⟨_, rfl⟩, q⟩
theorem zp3 {f : Value -> Value -> Sem Value} {g : Int -> Int -> Int}
    (rule : ∀ (i j : Int) (t u : Tok) (s : Shared) (Q : Value -> Shared -> Prop) (E : Value -> Shared -> Prop), Q (.int (g i j) s.toks) { s with toks := s.toks + 1 } -> wpAny (model X.prog X.w) X.A (f (.int i t) (.int j u)) Q E s) :
    OpR X f (rI0 fun i j => .int (g i j)) := by
  intro pins s σ H x y v u Q I rx ry h
  obtain ⟨i, j, rfl, rfl, q⟩ := h
  obtain ⟨t, rfl⟩ := rx
  obtain ⟨t', rfl⟩ := ry
  exact rule i j t t' s _ _ ⟨.int (g i j), H, I.tok _, ⟨_, rfl⟩, q⟩
theorem zme {f : Value -> Value -> Sem Value} {g : Int -> Int -> Bool}
    (rule : ∀ (i j : Int) (t u : Tok) (s : Shared) (Q : Value -> Shared -> Prop) (E : Value -> Shared -> Prop), Q (.bool (g i j)) s -> wpAny (model X.prog X.w) X.A (f (.int i t) (.int j u)) Q E s) :
    OpR X f (rI0 fun i j => .bl (g i j)) := by
  intro pins s σ H x y v u Q I rx ry h
  obtain ⟨i, j, rfl, rfl, q⟩ := h
  obtain ⟨t, rfl⟩ := rx
  obtain ⟨t', rfl⟩ := ry
  exact rule i j t t' s _ _ ⟨.bl (g i j), H, I, rfl, q⟩
noncomputable def zi0 (i j : Int) : Prop := 0 < j /\ j < 1073741824
noncomputable def zib (i j : Int) : Prop := 0 <= j /\ j <= 1000000 /\ i.natAbs < 2 ^ 64
noncomputable def zgt (i j : Int) : Prop := (-(2 ^ 64) < i /\ i < 2 ^ 64) \/ (-(2 ^ 64) < j /\ j < 2 ^ 64)
theorem zgt.ok {i j : Int} (h : zgt i j) : IntMulOk i j := by
  rcases h with ⟨h1, h2⟩ | ⟨h1, h2⟩
  · exact .of_left (intBits_le_64 h1 h2)
  · exact .of_right (intBits_le_64 h1 h2)
theorem zye : OpR X (binaryOp .Add) (rI0 fun i j => .int (i + j)) := zp3 fun _ _ _ _ _ _ _ q => add_int q
theorem z0o : OpR X (binaryOp .Sub) (rI0 fun i j => .int (i - j)) := zp3 fun _ _ _ _ _ _ _ q => sub_int q
theorem zvy : OpR X (binaryOp .FloorDiv) (rI zi0 fun i j => .int (i / j)) := opI fun i j _ _ _ _ _ hc q => by
  have h1 : (0 : Int) < j := hc.1
  have h2 : j < 1073741824 := hc.2
  exact floordiv_int (by omega) (by rw [Int.fdiv_eq_ediv_of_nonneg i (by omega)]; exact q) (.inl (PyProof.noPylong_small (by omega)))
theorem zyc : OpR X (binaryOp .Mod) (rI (fun _ j => 0 < j) fun i j => .int (i % j)) := opI fun i j _ _ _ _ _ hc q => by
  have h1 : (0 : Int) < j := hc
  exact mod_int' (by omega) (by rw [Int.fmod_eq_emod_of_nonneg i (by omega)]; exact q)
theorem z02 : OpR X (binaryOp .Pow) (rI zib fun i j => .int (i ^ j.toNat)) := opI fun _ _ _ _ _ _ _ hc q => pow_int_small hc.1 hc.2.1 hc.2.2 q
end
noncomputable def znx : V -> V -> Bool
  | .non, .non => true | .non, .int _ => true | .int _, .non => true | .non, .bl _ => true | .bl _, .non => true | .non, .str _ => true | .str _, .non => true
  | .int _, .int _ => true | .bl _, .bl _ => true | .str _, .str _ => true | .byt _, .byt _ => true
  | .int _, .str _ => true | .str _, .int _ => true | .bl _, .str _ => true | .str _, .bl _ => true
  | _, _ => false
noncomputable def rEq : R2 := fun x y H Q => znx x y = true /\ Q (.bl (decide (x = y))) H
noncomputable def rNe : R2 := fun x y H Q => znx x y = true /\ Q (.bl (!decide (x = y))) H
theorem zmy {i j : Int} : decide (V.int i = V.int j) = (i == j) := by
  rw [Bool.eq_iff_iff]
  simp
theorem zjk {i j : Bool} : decide (V.bl i = V.bl j) = (i == j) := by
  rw [Bool.eq_iff_iff]
  simp
theorem zoh {i j : Str} : decide (V.str i = V.str j) = (i == j) := by
  rw [Bool.eq_iff_iff]
  simp
theorem zsd {i j : Array UInt8} : decide (V.byt i = V.byt j) = (i.toList == j.toList) := by
  rw [Bool.eq_iff_iff]
  cases i
  cases j
  simp
section
variable {X : Cx} {a b c : Expr} {ta tb tc : TE} {pos : Pos}
theorem zbh {pins : List (Addr × Obj)} {σ : St} {H : Hp} {s : Shared} {Q : VK} {k k' : Bool} (I : Inv X pins σ H s) (q : Q (.bl k) H) (e : k = k') : EP X pins σ Q (.bool k') s := by
  subst e
  exact ⟨.bl k, H, I, rfl, q⟩
theorem z3e : OpR X (compareOp .Eq) rEq := by
  intro pins s σ H x y v u Q I rx ry h
  obtain ⟨hs, q⟩ := h
  cases x with
  | non =>
    cases rx
    cases y with
    | non => cases ry; exact PySem.EqNone.eq_none_none (zbh I q (by simp))
    | bl j => cases ry; exact PySem.EqNone.eq_none_bool (zbh I q (by simp))
    | int j => obtain ⟨t', rfl⟩ := ry; exact PySem.EqNone.eq_none_int (zbh I q (by simp))
    | str j => obtain ⟨t', rfl⟩ := ry; exact PySem.EqNone.eq_none_str (zbh I q (by simp))
    | _ => exact absurd (show false = true from hs) Bool.false_ne_true
  | bl i =>
    cases rx
    cases y with
    | non => cases ry; exact PySem.EqNone.eq_bool_none (zbh I q (by simp))
    | bl j => cases ry; exact eq_bool (zbh I q zjk)
    | str j => obtain ⟨t', rfl⟩ := ry; exact PySem.EqMixed.eq_bool_str (zbh I q (by simp))
    | _ => exact absurd (show false = true from hs) Bool.false_ne_true
  | int i =>
    obtain ⟨t, rfl⟩ := rx
    cases y with
    | non => cases ry; exact PySem.EqNone.eq_int_none (zbh I q (by simp))
    | int j => obtain ⟨t', rfl⟩ := ry; exact eq_int (zbh I q zmy)
    | str j => obtain ⟨t', rfl⟩ := ry; exact PySem.EqMixed.eq_int_str (zbh I q (by simp))
    | _ => exact absurd (show false = true from hs) Bool.false_ne_true
  | str i =>
    obtain ⟨t, rfl⟩ := rx
    cases y with
    | non => cases ry; exact PySem.EqNone.eq_str_none (zbh I q (by simp))
    | bl j => cases ry; exact PySem.EqMixed.eq_str_bool (zbh I q (by simp))
    | int j => obtain ⟨t', rfl⟩ := ry; exact PySem.EqMixed.eq_str_int (zbh I q (by simp))
    | str j => obtain ⟨t', rfl⟩ := ry; exact eq_str (zbh I q zoh)
    | _ => exact absurd (show false = true from hs) Bool.false_ne_true
  | byt i =>
    obtain ⟨t, rfl⟩ := rx
    cases y with
    | byt j => obtain ⟨t', rfl⟩ := ry; exact PySem.W.eq_bytes (zbh I q zsd)
    | _ => exact absurd (show false = true from hs) Bool.false_ne_true
  | _ => cases y <;> exact absurd (show false = true from hs) Bool.false_ne_true
theorem zxr : OpR X (compareOp .NotEq) rNe := by
  intro pins s σ H x y v u Q I rx ry h
  obtain ⟨hs, q⟩ := h
  cases x with
  | non =>
    cases rx
    cases y with
    | non => cases ry; exact PySem.EqNone.ne_none_none (zbh I q (by simp))
    | bl j => cases ry; exact PySem.EqNone.ne_none_bool (zbh I q (by simp))
    | int j => obtain ⟨t', rfl⟩ := ry; exact PySem.EqNone.ne_none_int (zbh I q (by simp))
    | str j => obtain ⟨t', rfl⟩ := ry; exact PySem.EqNone.ne_none_str (zbh I q (by simp))
    | _ => exact absurd (show false = true from hs) Bool.false_ne_true
  | bl i =>
    cases rx
    cases y with
    | non => cases ry; exact PySem.EqNone.ne_bool_none (zbh I q (by simp))
    | bl j => cases ry; exact ne_bool (zbh I q (congrArg not zjk))
    | str j => obtain ⟨t', rfl⟩ := ry; exact PySem.EqMixed.ne_bool_str (zbh I q (by simp))
    | _ => exact absurd (show false = true from hs) Bool.false_ne_true
  | int i =>
    obtain ⟨t, rfl⟩ := rx
    cases y with
    | non => cases ry; exact PySem.EqNone.ne_int_none (zbh I q (by simp))
    | int j => obtain ⟨t', rfl⟩ := ry; exact ne_int (zbh I q (congrArg not zmy))
    | str j => obtain ⟨t', rfl⟩ := ry; exact PySem.EqMixed.ne_int_str (zbh I q (by simp))
    | _ => exact absurd (show false = true from hs) Bool.false_ne_true
  | str i =>
    obtain ⟨t, rfl⟩ := rx
    cases y with
    | non => cases ry; exact PySem.EqNone.ne_str_none (zbh I q (by simp))
    | bl j => cases ry; exact PySem.EqMixed.ne_str_bool (zbh I q (by simp))
    | int j => obtain ⟨t', rfl⟩ := ry; exact PySem.EqMixed.ne_str_int (zbh I q (by simp))
    | str j => obtain ⟨t', rfl⟩ := ry; exact ne_str (zbh I q (congrArg not zoh))
    | _ => exact absurd (show false = true from hs) Bool.false_ne_true
  | byt i =>
    obtain ⟨t, rfl⟩ := rx
    cases y with
    | byt j => obtain ⟨t', rfl⟩ := ry; exact PySem.W.ne_bytes (zbh I q (congrArg not zsd))
    | _ => exact absurd (show false = true from hs) Bool.false_ne_true
  | _ => cases y <;> exact absurd (show false = true from hs) Bool.false_ne_true
theorem zva : OpR X (compareOp .Lt) (rI0 fun i j => .bl (decide (i < j))) := zme fun _ _ _ _ _ _ _ q => lt_int q
theorem z1u : OpR X (compareOp .LtE) (rI0 fun i j => .bl (decide (i <= j))) := zme fun _ _ _ _ _ _ _ q => le_int q
theorem zuv : OpR X (compareOp .GtE) (rI0 fun i j => .bl (decide (j <= i))) := zme fun _ _ _ _ _ _ _ q => ge_int q
theorem z5d : OpR X (compareOp .Is) (fun x y H Q => y = .non /\ Q (.bl (decide (x = .non))) H) := by
  intro pins s σ H x y v u Q I rx ry h
  obtain ⟨rfl, q⟩ := h
  cases ry
  refine is_none_gen (zbh I q ?_)
  cases x <;> first
    | (cases rx; rfl)
    | (obtain ⟨t, rfl⟩ := rx; rfl)
theorem zyl : OpR X (compareOp .IsNot) (fun x y H Q => y = .non /\ Q (.bl (!decide (x = .non))) H) := by
  intro pins s σ H x y v u Q I rx ry h
  obtain ⟨rfl, q⟩ := h
  cases ry
  refine isnot_none_gen (zbh I q ?_)
  cases x <;> first
    | (cases rx; rfl)
    | (obtain ⟨t, rfl⟩ := rx; rfl)
theorem OpR.or {f : Value -> Value -> Sem Value} {r r' : R2} (h : OpR X f r) (h' : OpR X f r') : OpR X f (fun x y H Q => r x y H Q \/ r' x y H Q) := by
  intro pins s σ H x y v u Q I rx ry q
  rcases q with q | q
  · exact h pins s σ H x y v u Q I rx ry q
  · exact h' pins s σ H x y v u Q I rx ry q
theorem zs5 (b : Expr) {op : CmpOp} (h : op ≠ .In := by decide) (h2 : op ≠ .NotIn := by decide) : behindInMarks op b = false := by
  have e1 : (op == CmpOp.In) = false := by cases op <;> first | rfl | exact absurd rfl h
  have e2 : (op == CmpOp.NotIn) = false := by cases op <;> first | rfl | exact absurd rfl h2
  cases b <;> simp [behindInMarks, e1, e2]
theorem zve {op : CmpOp} {r : R2} (ho : OpR X (compareOp op) r) (ha : PE X a ta) (hb : PE X b tb) (hm : behindInMarks op b = false) : PE X (.Compare a [op] [b] pos) (tOp r ta tb) := by
  intro pins s σ H Q I h
  exact wpAny_Compare1 (zm3 ha hb I h fun v u s2 x y H2 I2 rx ry q => ho pins s2 σ H2 x y v u Q I2 rx ry q) hm
noncomputable def z1c (t : TE) : TT := fun σ H Q => t σ H fun x H' => ∃ k, x = .bl k /\ Q k H'
theorem zut {op : CmpOp} {r : R2} (ho : OpR X (compareOp op) r) (ha : PE X a ta) (hb : PE X b tb) (hm : behindInMarks op b = false) : PT X (.Compare a [op] [b] pos) (z1c (tOp r ta tb)) := by
  intro pins s σ H Q I h
  refine wpAny_isTrue_Compare1 (thn (ha pins s σ H _ I h) fun v s1 ⟨x, H1, I1, r1, q1⟩ => thn (hb pins s1 σ H1 _ I1 q1) fun u s2 ⟨y, H2, I2, r2, q2⟩ =>
    thn (ho pins s2 σ H2 x y v u _ I2 r1 r2 q2) fun c s3 ⟨z, H3, I3, r3, k, e, q3⟩ => ?_) hm
  subst e
  cases r3
  exact wpAny_truthy_bool ⟨H3, I3, q3⟩
noncomputable def zle (K : PySem.W.Frag) (x : V) (H : Hp) (k : Bool) : Prop :=
  match x with
  | .non => k = false
  | .bl b => k = b
  | .int i => k = (i != 0)
  | .str y => y.length <= sizeLine /\ k = ((y.length : Int) != 0)
  | .byt y => y.size <= sizeLine /\ k = ((y.size : Int) != 0)
  | .ref p => (∃ xs, SqL K H p xs /\ k = !xs.isEmpty) \/ (∃ xs, SqT K H p xs /\ k = !xs.isEmpty) \/ ∃ kvs, H p = some (.dK kvs) /\ k = !kvs.isEmpty
  | _ => False
theorem z4s {κ : Type} {kvs : List (κ × V)} {vs : List (κ × Value)} (r : KV kvs vs) : (!vs.isEmpty) = !kvs.isEmpty := by
  cases r <;> rfl
theorem zpe {xs : List V} {its : List Value} (r : zaj xs its) : (!its.toArray.isEmpty) = !xs.isEmpty := by
  cases r <;> simp
theorem zgy : (sizeLine : Nat) < 2 ^ 63 := by rw [sizeLine_eq]; decide
theorem ztm : zxx X (fun x H Q => ∃ k, zle X.K x H k /\ Q k H) := by
  intro pins s σ H x v Q I rx h
  obtain ⟨k, e, q⟩ := h
  have hl := zgy
  have hs : sizeLine = 16777216 := sizeLine_eq
  cases x with
  | non =>
    cases rx
    have e' : k = false := e
    subst e'
    exact truthy_none ⟨H, I, q⟩
  | bl b =>
    cases rx
    have e' : k = b := e
    subst e'
    exact wpAny_truthy_bool ⟨H, I, q⟩
  | int i =>
    obtain ⟨t, rfl⟩ := rx
    have e' : k = (i != 0) := e
    subst e'
    exact PySem.P.truthy_int ⟨H, I, q⟩
  | str y =>
    obtain ⟨t, rfl⟩ := rx
    obtain ⟨hy, e'⟩ : y.length <= sizeLine /\ k = ((y.length : Int) != 0) := e
    subst e'
    exact PySem.P.truthy_str (by omega) ⟨H, I.tok _, q⟩
  | byt y =>
    obtain ⟨t, rfl⟩ := rx
    obtain ⟨hy, e'⟩ : y.size <= sizeLine /\ k = ((y.size : Int) != 0) := e
    subst e'
    exact PySem.W.truthy_bytes (by omega) ⟨H, I.tok _, q⟩
  | ref p =>
    cases rx
    have e' : (∃ xs, SqL X.K H p xs /\ k = !xs.isEmpty) \/ (∃ xs, SqT X.K H p xs /\ k = !xs.isEmpty) \/ ∃ kvs, H p = some (.dK kvs) /\ k = !kvs.isEmpty := e
    rcases e' with ⟨xs, hx, e'⟩ | ⟨xs, hx, e'⟩ | ⟨kvs, hx, e'⟩
    · subst e'
      obtain ⟨its, r, pl, hz⟩ := I.list hx
      have hlen := r.length
      exact wpAny_truthy_list pl.isList (by simp only [List.size_toArray]; omega) ⟨H, I.tok _, by rw [zpe r]; exact q⟩
    · subst e'
      obtain ⟨its, r, pl, hz⟩ := I.tuple hx
      have hlen := r.length
      exact truthy_tuple pl (by simp only [List.size_toArray]; omega) ⟨H, I.tok _, by rw [zpe r]; exact q⟩
    · subst e'
      obtain ⟨hz, hS, vs, r, m⟩ : kvs.length <= sizeLine /\ (p == sysModules) = false /\ ∃ vs, KV kvs vs /\ s.heap.DictOf (zck X.prog X.w) p vs := I.hok p _ hx
      have hlen : kvs.length = vs.length := Paired.length r
      exact wpAny_truthy_dict hS m (by omega) ⟨H, I.tok _, by rw [z4s r]; exact q⟩
  | _ => exact (show False from e).elim
theorem zvn (ha : PE X a ta) (he : ∀ whole, isTrue a X.env whole = (do let v <- whole; standAt a.pos; holding [v] (truthy v))) :
    PT X a (fun σ H Q => ta σ H fun x H' => ∃ k, zle X.K x H' k /\ Q k H') := by
  intro pins s σ H Q I h
  exact isTrue_plain (thn (ha pins s σ H _ I h) fun v s1 ⟨x, H1, I1, r1, q1⟩ => ztm pins s1 σ H1 x v Q I1 r1 q1) (he _)
theorem zwi : OpR X (binaryOp .Add) (fun x y H Q => ∃ i j, x = .str i /\ y = .str j /\ i.length + j.length <= sizeLine /\ Q (.str (i ++ j)) H) := by
  intro pins s σ H x y v u Q I rx ry h
  obtain ⟨i, j, rfl, rfl, hz, q⟩ := h
  obtain ⟨t, rfl⟩ := rx
  obtain ⟨t', rfl⟩ := ry
  exact add_str (fun t' tk => ⟨.str (i ++ j), H, I.tok _, ⟨_, rfl⟩, q⟩) hz
theorem zg9 {x : V} {us : List Value} (r : zaj [x] us) : ∃ u, us = [u] /\ zam x u := by
  cases r with
  | cons r1 r2 => cases r2; exact ⟨_, rfl, r1⟩
theorem z11 {x y : V} {us : List Value} (r : zaj [x, y] us) : ∃ u w', us = [u, w'] /\ zam x u /\ zam y w' := by
  cases r with
  | cons r1 r2 =>
    cases r2 with
    | cons r3 r4 => cases r4; exact ⟨_, _, rfl, r1, r3⟩
end
end L2
namespace L2
open PySem PySem.Spec PyProof.Rows
structure zgf (h : Heap) (x dx C : Addr) (mA : Str -> Option Value) : Prop where
  obj : h.get? x = some (PySem.W.instObj C dx)
  ns : h.Ns1 dx mA
  ne : dx ≠ x
theorem zxe {h : Heap} {dx : Addr} {mA : Str -> Option Value} (n : h.Ns1 dx mA) : ∃ od, h.get? dx = some od /\ ∀ name, PySem.W.lookIn name od = some (mA name) := by
  obtain ⟨o, es, ep, ho, hd, hk, _, hm⟩ := n
  refine ⟨o, ho, fun name => ?_⟩
  have e := hm name
  unfold nsFind findBy at e
  rw [<- Array.find?_toList] at e
  unfold PySem.W.lookIn
  rw [hd]
  dsimp only
  split
  · rename_i y q
    rw [q] at e
    exact congrArg some e
  · rename_i q
    rw [q] at e
    have a : es.toList.any (·.refKey) = false := by
      rw [List.any_eq_false]
      intro y hy
      obtain ⟨z, t, hkey⟩ := hk y (Array.mem_toList_iff.mp hy)
      simp [DictEntry.refKey, hkey]
    have a' : ¬ es.toList.any (·.refKey) = true := by rw [a]; exact Bool.false_ne_true
    rw [if_neg a']
    exact congrArg some e
theorem zgf.look {h : Heap} {x dx C : Addr} {mA : Str -> Option Value} (I : zgf h x dx C mA) : ∃ od, PySem.W.InstAt h x (PySem.W.instObj C dx) C (some od) /\ ∀ name, PySem.W.lookIn name od = some (mA name) :=
  let ⟨od, ho, hl⟩ := zxe I.ns
  ⟨od, ⟨I.obj, rfl, rfl, ho⟩, hl⟩
section
variable {prog : Program} {w : World} {A : Around} {E : Value -> Shared -> Prop} {s : Shared} {K : PySem.W.Frag} {x dx C f : Addr} {mA : Str -> Option Value} {name : Str} {v : Value}
theorem zz7 {expr : Bool} {Q : Value -> Shared -> Prop} (X : K.In s.heap) (I : zgf s.heap x dx C mA) (hg : PySem.W.plainGet K C name = true) (hh : PySem.W.hasDictIn K C = true)
    (ha : PySem.W.findIn K (.ref C) name = some none) (hv : mA name = some v) (hv' : PySem.W.handedIn v = true) (h : Q v { s with toks := s.toks + 1 }) :
    wpAny (model prog w) A (getAttr (.ref x) name expr) Q E s := by
  obtain ⟨od, J, hl⟩ := I.look
  exact PySem.W.get_value X J (PySem.W.plainGet_of hg).1 (PySem.W.findObj_own hh ha rfl (by rw [hl, hv])) hv' h
theorem zt1 {pl : Sem Bool} {Q : Value × List Value -> Shared -> Prop} (X : K.In s.heap) (I : zgf s.heap x dx C mA) (hg : PySem.W.plainGet K C name = true)
    (hf : PySem.W.findIn K (.ref C) name = some (some (.ref f))) (ht : PySem.W.isFn K (.ref f) = true) (hv : mA name = none) (h : Q (.ref f, [.ref x]) s) :
    wpAny (model prog w) A (getMethod (.ref x) name pl) Q E s := by
  obtain ⟨od, J, hl⟩ := I.look
  exact PySem.W.method_fn X J (PySem.W.plainGet_of hg).1 (PySem.W.plainGet_of hg).2 hf (beq_iff_eq.mp ht) (by show (PySem.W.lookIn name od).map (·.isSome) = some false; rw [hl, hv]; rfl) h
theorem zxn {ns : List Str} {Q : Unit -> Shared -> Prop} (X : K.In s.heap) (I : zgf s.heap x dx C mA)
    (hs : PySem.W.findIn K (.ref C) "__setattr__" = some (some (.builtin "object.__setattr__"))) (hp : PySem.W.plainOver K C = true) (ht : PySem.W.takerIn K C name = some none) (hh : PySem.W.hasDictIn K C = true)
    (hw : PySem.Within mA ns) (hsz : ns.length <= sizeLine)
    (h : ∀ h', zgf h' x dx C (fun y => if y = name then some v else mA y) -> Heap.SameBut dx s.heap h' -> Q () { s with heap := h', toks := s.toks + 2 }) :
    wpAny (model prog w) A (setAttr (.ref x) name v) Q E s := by
  obtain ⟨od, J, hl⟩ := I.look
  refine PySem.W.set_plain X J hs (PySem.W.osa_open (s := { s with toks := s.toks + 1 }) (r := none) X J hp ht fun b => ?_)
  obtain ⟨cd, hc, hd'⟩ := PySem.W.any_some hh
  have hx : s.heap.get? x = some ⟨.ref C, some dx, .plain, #[]⟩ := I.obj
  refine wpAny_bind (wpAny_pure (wpAny_bind (wpAny_bind (wpAny_loadPart hx (wpAny_bind (PySem.W.Looks.here (s := { s with toks := s.toks + 1 }) (PySem.W.looks_clsIn X hc) ?_))))))
  rw [hd']
  refine wpAny_pure (a := some dx) (wpAny_bind (wpAny_pure (wpAny_bind ?_)))
  refine wpAny_nsSet1 (s := { s with toks := s.toks + 1 }) I.ns fun h' hn2 hs2 => ?_
  obtain ⟨oD, esD, epD, hoD, hdD, hcD⟩ := hn2.count (PySem.Within.cons name v hw)
  refine wpAny_bind (wpAny_lookBehind hoD (by rw [hdD]; exact pastItsLine_dict (Nat.le_trans hcD (by rw [List.length_cons]; omega))) ?_)
  exact wpAny_pure (h _ ⟨(hs2.2 _ (Ne.symm I.ne)).trans I.obj, hn2, I.ne⟩ hs2)
theorem zwl {R : Result -> Shared -> Prop} {vs : List Value} {kw : List (Str × Value)} (X : K.In s.heap) (hm : PySem.W.makesIn K C = true)
    (hi : PySem.W.findIn K (.ref C) "__init__" = some (some (.ref f))) (hf : PySem.W.typeIn K (.ref f) = some (.type "function"))
    (h : codeAny (model prog w) (A.under (.builtin "type.__call__" ⟨.ref C :: vs, kw⟩)) (.call (.ref f) ⟨.ref (s.heap.objs.size + 1) :: vs, kw⟩) (PySem.W.InitBack (s.heap.objs.size + 1) R)
      { s with heap := (s.heap.push PySem.W.emptyDict).push (PySem.W.instObj C s.heap.objs.size) }) :
    codeAny (model prog w) A (.call (.ref C) ⟨vs, kw⟩) R s := by
  obtain ⟨hh, g, d, t, os⟩ := s
  exact PySem.W.make_core (PySem.W.makes_of X hm) (PySem.W.looks_findIn X hi) (fun self => PySem.W.bind_fn X self hf) (.inl rfl) h
end
noncomputable def zco (f : Str) (v : V) : List (Str × V) -> List (Str × V)
  | [] => [(f, v)]
  | (g, x) :: r => if g = f then (g, v) :: r else (g, x) :: zco f v r
theorem ztj (f g : Str) (v : V) : ∀ fs : List (Str × V), (zco f v fs).lookup g = if g = f then some v else fs.lookup g
  | [] => by
    show List.lookup g [(f, v)] = _
    by_cases h : g = f
    · have hb : (g == f) = true := beq_iff_eq.mpr h
      simp only [List.lookup, hb, if_pos h]
    · have hb : (g == f) = false := beq_eq_false_iff_ne.mpr h
      simp only [List.lookup, hb, if_neg h]
  | (k, x) :: r => by
    have ih := ztj f g v r
    rw [show zco f v ((k, x) :: r) = (if k = f then (k, v) :: r else (k, x) :: zco f v r) from rfl]
    by_cases hk : k = f
    · rw [if_pos hk]
      by_cases h : g = k
      · have hb : (g == k) = true := beq_iff_eq.mpr h
        simp only [List.lookup, hb, if_pos (h.trans hk)]
      · have hb : (g == k) = false := beq_eq_false_iff_ne.mpr h
        simp only [List.lookup, hb, if_neg (fun e : g = f => h (e.trans hk.symm))]
    · rw [if_neg hk]
      by_cases h : g = k
      · have hb : (g == k) = true := beq_iff_eq.mpr h
        simp only [List.lookup, hb, if_neg (fun e : g = f => hk (h.symm.trans e))]
      · have hb : (g == k) = false := beq_eq_false_iff_ne.mpr h
        simp only [List.lookup, hb]
        exact ih
theorem zni (f : Str) (v : V) : ∀ fs : List (Str × V), f ∈ (zco f v fs).map (·.1) /\ ∀ g, g ∈ fs.map (·.1) -> g ∈ (zco f v fs).map (·.1)
  | [] => ⟨by simp [zco], fun g h => by simp at h⟩
  | (k, x) :: r => by
    obtain ⟨i1, i2⟩ := zni f v r
    rw [show zco f v ((k, x) :: r) = (if k = f then (k, v) :: r else (k, x) :: zco f v r) from rfl]
    by_cases hk : k = f
    · rw [if_pos hk]
      subst hk
      exact ⟨by simp, fun g h => by simpa using h⟩
    · rw [if_neg hk]
      refine ⟨?_, fun g h => ?_⟩
      · rw [List.map_cons]
        exact List.mem_cons_of_mem _ i1
      · rw [List.map_cons] at h ⊢
        rcases List.mem_cons.mp h with e | e
        · exact List.mem_cons.mpr (.inl e)
        · exact List.mem_cons_of_mem _ (i2 g e)
theorem zqh (f : Str) (v : V) : ∀ fs : List (Str × V), (zco f v fs).length <= fs.length + 1
  | [] => by simp [zco]
  | (k, x) :: r => by
    have ih := zqh f v r
    rw [show zco f v ((k, x) :: r) = (if k = f then (k, v) :: r else (k, x) :: zco f v r) from rfl]
    by_cases hk : k = f
    · rw [if_pos hk, List.length_cons, List.length_cons]; omega
    · rw [if_neg hk, List.length_cons, List.length_cons]; omega
theorem zcp.some_of {v : V} {o : Option Value} (r : zcp (some v) o) : ∃ u, o = some u /\ zam v u := by
  cases o with
  | none => exact (show False from r).elim
  | some u => exact ⟨u, rfl, r⟩
theorem zcp.none_of {o : Option Value} (r : zcp none o) : o = none := by
  cases o with
  | none => rfl
  | some u => exact (show False from r).elim
theorem z4z {v : V} {u : Value} (r : zam v u) : PySem.W.handedIn u = true := by
  cases v with
  | non => cases (show u = Value.none from r); rfl
  | bl b => cases (show u = Value.bool b from r); rfl
  | int i => obtain ⟨t, e⟩ := (show ∃ t, u = Value.int i t from r); cases e; rfl
  | str x => obtain ⟨t, e⟩ := (show ∃ t, u = Value.str x t from r); cases e; rfl
  | byt b => obtain ⟨t, e⟩ := (show ∃ t, u = Value.bytes b t from r); cases e; rfl
  | flt b => obtain ⟨t, e⟩ := (show ∃ t, u = Value.float b t from r); cases e; rfl
  | ref a => cases (show u = Value.ref a from r); rfl
  | ty n => cases (show u = Value.type n from r); rfl
section
variable {P : Program} {w : World} {H H' : Hp} {h h' : Heap} {a C dx : Addr} {fs fs' : List (Str × V)}
theorem zku (hok : HOk P w H h) (e : H a = some (.ins C dx fs)) : ∃ mA, zgf h a dx C mA /\ (∀ f, zcp (fs.lookup f) (mA f)) /\ PySem.Within mA (fs.map (·.1)) /\ fs.length <= 1000 /\ H dx = some (.own a) := by
  obtain ⟨d, z, ne, ob, mA, n, r, q⟩ := (show zb2 P w H h a (.ins C dx fs) from hok a _ e)
  exact ⟨mA, ⟨ob, n, ne⟩, r, q, z, d⟩
end
structure Cls (K : PySem.W.Frag) (C : Addr) : Prop where
  pg : PySem.W.plainGet K C Str.empty = true
  hd : PySem.W.hasDictIn K C = true
  po : PySem.W.plainOver K C = true
  sa : PySem.W.findIn K (.ref C) "__setattr__" = some (some (.builtin "object.__setattr__"))
theorem Cls.get {K : PySem.W.Frag} {C : Addr} (c : Cls K C) (f : Str) : PySem.W.plainGet K C f = true := c.pg
noncomputable def zcj (K : PySem.W.Frag) (C : Addr) (f : Str) : Prop := PySem.W.findIn K (.ref C) f = some none
theorem zcj.taker {K : PySem.W.Frag} {C : Addr} {f : Str} (n : zcj K C f) : PySem.W.takerIn K C f = some none := by
  unfold PySem.W.takerIn
  rw [show PySem.W.findIn K (.ref C) f = some none from n]
  rfl
structure zcm (K : PySem.W.Frag) (C : Addr) (m : Str) (f : Addr) : Prop where
  at_ : PySem.W.findIn K (.ref C) m = some (some (.ref f))
  fn : PySem.W.isFn K (.ref f) = true
  kp : PySem.W.keepIn K (.ref f) = true
section
variable {X : Cx} {pins : List (Addr × Obj)} {σ : St} {H : Hp} {s : Shared} {a C dx : Addr} {fs : List (Str × V)} {f : Str} {v : V} {A : Around} {E : Value -> Shared -> Prop}
theorem z0j {b : Bool} {Q : Value -> Shared -> Prop} (I : Inv X pins σ H s) (e : H a = some (.ins C dx fs)) (c : Cls X.K C) (n : zcj X.K C f) (l : fs.lookup f = some v)
    (h : ∀ u s', Inv X pins σ H s' -> zam v u -> Q u s') : wpAny (model X.prog X.w) A (getAttr (.ref a) f b) Q E s := by
  obtain ⟨mA, O, r, _, _, _⟩ := zku I.hok e
  obtain ⟨u, hu, ru⟩ := zcp.some_of (v := v) (o := mA f) (by rw [<- l]; exact r f)
  exact zz7 I.kIn O (c.get f) c.hd n hu (z4z ru) (h u _ (I.tok _) ru)
theorem z4h {m : Str} {g : Addr} {pl : Sem Bool} {Q : Value × List Value -> Shared -> Prop} (I : Inv X pins σ H s) (e : H a = some (.ins C dx fs)) (c : Cls X.K C) (k : zcm X.K C m g) (l : fs.lookup m = none)
    (h : Q (.ref g, [.ref a]) s) : wpAny (model X.prog X.w) A (getMethod (.ref a) m pl) Q E s := by
  obtain ⟨mA, O, r, _, _, _⟩ := zku I.hok e
  have hn : mA m = none := zcp.none_of (by rw [<- l]; exact r m)
  exact zt1 I.kIn O (c.get m) k.at_ k.fn hn h
theorem zyj {y : V} {u : Value} {Q : Unit -> Shared -> Prop} (I : Inv X pins σ H s) (e : H a = some (.ins C dx fs)) (c : Cls X.K C) (n : zcj X.K C f) (hl : fs.length < 1000) (ry : zam y u)
    (h : ∀ s', Inv X pins σ (upd H a (.ins C dx (zco f y fs))) s' -> Q () s') : wpAny (model X.prog X.w) A (setAttr (.ref a) f u) Q E s := by
  obtain ⟨mA, O, r, wi, _, ho⟩ := zku I.hok e
  have hz : (fs.map (·.1)).length <= sizeLine := by rw [List.length_map, sizeLine_eq]; omega
  refine zxn I.kIn O c.sa c.po n.taker c.hd wi hz fun h' O' sb => h _ ?_
  have hd : ∃ o, h'.get? dx = some o := let ⟨o, _, _, e', _⟩ := O'.ns; ⟨o, e'⟩
  refine I.write (x := a) (e := dx) (by rw [e]; exact True.intro) (.inr ho) (fun b q hb z => (sb.2 b hb).trans z) hd ?_
  refine ⟨by rw [zar O.ne]; exact ho, ?_, O.ne, O'.obj, _, O'.ns, fun g => ?_, fun g hg => ?_⟩
  · have := zqh f y fs; omega
  · show zcp ((zco f y fs).lookup g) (if g = f then some u else mA g)
    rw [ztj]
    by_cases q : g = f
    · rw [if_pos q, if_pos q]; exact ry
    · rw [if_neg q, if_neg q]; exact r g
  · by_cases q : g = f
    · rw [q]; exact (zni f y fs).1
    · refine (zni f y fs).2 g (wi g fun z => hg ?_)
      show (if g = f then some u else mA g) = none
      rw [if_neg q]; exact z
theorem Inv.made (I : Inv X pins σ H s) : Inv X pins σ (upd (upd H s.heap.objs.size (.own (s.heap.objs.size + 1))) (s.heap.objs.size + 1) (.ins C s.heap.objs.size []))
    { s with heap := (s.heap.push PySem.W.emptyDict).push (PySem.W.instObj C s.heap.objs.size) } := by
  have e1 : (s.heap.push PySem.W.emptyDict).get? s.heap.objs.size = some PySem.W.emptyDict := Heap.get?_push_size s.heap rfl
  have e2 : ((s.heap.push PySem.W.emptyDict).push (PySem.W.instObj C s.heap.objs.size)).get? (s.heap.objs.size + 1) = some (PySem.W.instObj C s.heap.objs.size) := by
    have := Heap.get?_push_size (s.heap.push PySem.W.emptyDict) (o := PySem.W.instObj C s.heap.objs.size) rfl
    rwa [Heap.size_push] at this
  have e3 : (s.heap.push PySem.W.emptyDict).Ns s.heap.objs.size (fun _ => none) := ⟨PySem.W.emptyDict, #[], _, e1, rfl, (fun e he => absurd he (by simp)), fun _ => rfl⟩
  have I1 := I.laid (a := s.heap.objs.size) (o := .own (s.heap.objs.size + 1)) (h' := s.heap.push PySem.W.emptyDict) (t' := s.toks) (fun b u q => Heap.get?_push_of_some _ q) (Nat.le_refl _) ⟨_, e1⟩
  refine I1.laid (a := s.heap.objs.size + 1) (o := .ins C s.heap.objs.size []) (t' := s.toks) (fun b u q => Heap.get?_push_of_some _ q) (Nat.le_of_eq (Heap.size_push _ _)) ?_
  have ne : s.heap.objs.size ≠ s.heap.objs.size + 1 := Nat.ne_of_lt (Nat.lt_succ_self _)
  refine ⟨by rw [zar ne, zbe], Nat.zero_le _, ne, e2, fun _ => none, (Heap.Ns1.of_empty e3).at fun o q => Heap.get?_push_of_some _ q, fun _ => True.intro, fun y hy => absurd rfl hy⟩
theorem zuu {prog : Program} {w : World} {env : Env} {e : Expr} {f : Str} {pos : Pos} {s : Shared} {Q : Value -> Shared -> Prop} (hb : attributeBase e f env (eval e env) = eval e env)
    (h : wpAny (model prog w) A (eval e env) (fun o s₁ => wpAny (model prog w) A (getAttr o f true) Q E s₁) E s) : wpAny (model prog w) A (eval (.Attribute e f pos) env) Q E s :=
  Attribute_any_ h (by rw [arm_eval_Attribute, hb])
end
noncomputable def zzw (K : PySem.W.Frag) (ta : TE) (f : Str) : TE := fun σ H Q => ta σ H fun x H1 => ∃ a C dx fs v, x = .ref a /\ H1 a = some (.ins C dx fs) /\ Cls K C /\ zcj K C f /\ fs.lookup f = some v /\ Q v H1
noncomputable def z2y (K : PySem.W.Frag) (ta tv : TE) (f : Str) : TS := fun D σ H => tv σ H fun y H1 => ta σ H1 fun x H2 => ∃ a C dx fs, x = .ref a /\ H2 a = some (.ins C dx fs) /\ Cls K C /\ zcj K C f /\ fs.length < 1000 /\
  D.nx σ (upd H2 a (.ins C dx (zco f y fs)))
section
variable {X : Cx} {o e value : Expr} {f : Str} {pos pos' tpos : Pos} {ta tv : TE}
theorem z2n (he : PE X e ta) (hb : attributeBase e f X.env (eval e X.env) = eval e X.env) : PE X (.Attribute e f pos) (zzw X.K ta f) := by
  intro pins s σ H Q I h
  refine zuu hb (thn (he pins s σ H _ I h) fun u s1 ⟨x, H1, I1, rx, a, C, dx, fs, v, ex, ea, c, n, l, q⟩ => ?_)
  subst ex
  obtain rfl : u = Value.ref a := rx
  exact z0j I1 ea c n l fun u' s2 I2 ru => ⟨v, H1, I2, ru, q⟩
theorem zub (ha : PE X o ta) (hv : PE X value tv) (hs : swapsWith value (some (.Attribute o f pos')) pos.line X.env = pure false) : PS X (.Assign [.Attribute o f pos'] value pos) (z2y X.K ta tv f) := by
  intro pins s σ H D I h
  refine plainObj_wpAny_Assign_Attribute (thn (hv pins s σ H _ I h) fun u s1 ⟨y, H1, I1, ry, q⟩ => thn (ha pins s1 σ H1 _ I1 q) fun ov s2 ⟨x, H2, I2, rx, a, C, dx, fs, ex, ea, c, n, l, q2⟩ => ?_) hs
  subst ex
  obtain rfl : ov = Value.ref a := rx
  exact zyj I2 ea c n l ry fun s3 I3 => ⟨σ, _, I3, q2⟩
end
section
variable {X : Cx} {pins : List (Addr × Obj)} {σ : St} {H : Hp} {s : Shared} {A : Around} {E : Value -> Shared -> Prop} {Q : Value -> Shared -> Prop} {c : Value} {b : Bool}
inductive zdd (K : PySem.W.Frag) (H : Hp) : V -> Value -> Prop where
  | non : zdd K H .non (.type "NoneType")
  | bl (x : Bool) : zdd K H (.bl x) (.type "bool")
  | int (i : Int) : zdd K H (.int i) (.type "int")
  | str (x : Str) : zdd K H (.str x) (.type "str")
  | flt (x : UInt64) : zdd K H (.flt x) (.type "float")
  | lst {a : Addr} {xs : List V} (e : H a = some (.lst xs)) : zdd K H (.ref a) (.type "list")
  | frz {a : Addr} {o : Obj} {xs : List V} (e : H a = some (.frz o (.lst xs))) : zdd K H (.ref a) (.type "list")
  | tup {a : Addr} {xs : List V} (e : H a = some (.tup xs)) : zdd K H (.ref a) (.type "tuple")
  | dK {a : Addr} {kvs : List (Key × V)} (e : H a = some (.dK kvs)) : zdd K H (.ref a) (.type "dict")
  | dT {a : Addr} {kvs : List (List Key × V)} (e : H a = some (.dT kvs)) : zdd K H (.ref a) (.type "dict")
  | ins {a C dx : Addr} {fs : List (Str × V)} (e : H a = some (.ins C dx fs)) (cl : Cls K C) (ha : PySem.W.findIn K (.ref C) "__class__" = some (some (.builtin "object.__class__")))
      (hn : PySem.W.specialIn K (.builtin "object.__class__") "__get__" = some (some (.builtin "getset_descriptor.__get__"))) (htk : PySem.W.takesIn K (.builtin "object.__class__") = some true)
      (hm : PySem.W.mroIn K C (.type "object") = some true) : zdd K H (.ref a) (.ref C)
theorem z3u {x : V} {u t : Value} (I : Inv X pins σ H s) (rx : zam x u) (ty : zdd X.K H x t) (e : PySem.W.kitOne X.K t c = some b) (h : ∀ tk, Q (.bool b) { s with toks := tk }) :
    wpAny (model X.prog X.w) A (call (.builtin "isinstance") [u, c]) Q E s := by
  cases ty with
  | non => cases (show u = Value.none from rx); exact PySem.W.kia_one PySem.W.kitx_none I.kIn True.intro e (fun z => nomatch z) h
  | bl y => cases (show u = Value.bool y from rx); exact PySem.W.kia_one PySem.W.kitx_bool I.kIn True.intro e (fun z => nomatch z) h
  | int i => obtain ⟨t, q⟩ := (show ∃ t, u = Value.int i t from rx); cases q; exact PySem.W.kia_one PySem.W.kitx_int I.kIn True.intro e (fun z => nomatch z) h
  | str y => obtain ⟨t, q⟩ := (show ∃ t, u = Value.str y t from rx); cases q; exact PySem.W.kia_one PySem.W.kitx_str I.kIn True.intro e (fun z => nomatch z) h
  | flt y => obtain ⟨t, q⟩ := (show ∃ t, u = Value.float y t from rx); cases q; exact PySem.W.kia_one PySem.W.kitx_float I.kIn True.intro e (fun z => nomatch z) h
  | @lst a xs ea =>
    cases (show u = Value.ref a from rx)
    obtain ⟨_, _, n, _, h1⟩ := (show zb2 X.prog X.w H s.heap a (.lst xs) from I.hok a _ ea)
    exact PySem.W.kia_one PySem.W.kitx_list I.kIn ⟨_, h1, rfl⟩ e (fun z => nomatch z) h
  | @frz a ob xs ea =>
    cases (show u = Value.ref a from rx)
    obtain ⟨_, _, _, n, _, h1⟩ := (show zb2 X.prog X.w H s.heap a (.frz ob (.lst xs)) from I.hok a _ ea)
    exact PySem.W.kia_one PySem.W.kitx_list I.kIn ⟨_, h1, rfl⟩ e (fun z => nomatch z) h
  | @tup a xs ea =>
    cases (show u = Value.ref a from rx)
    obtain ⟨_, _, _, p⟩ := (show zb2 X.prog X.w H s.heap a (.tup xs) from I.hok a _ ea)
    obtain ⟨o, h1, h2, _⟩ := p
    exact PySem.W.kia_one PySem.W.kitx_tuple I.kIn ⟨o, h1, h2⟩ e (fun z => nomatch z) h
  | @dK a kvs ea =>
    cases (show u = Value.ref a from rx)
    obtain ⟨_, _, vs, _, p⟩ := (show zb2 X.prog X.w H s.heap a (.dK kvs) from I.hok a _ ea)
    obtain ⟨o, es, ep, h1, h2, _⟩ := p
    exact PySem.W.kia_one PySem.W.kitx_dict I.kIn ⟨o, h1, h2.1⟩ e (fun z => nomatch z) h
  | @dT a kvs ea =>
    cases (show u = Value.ref a from rx)
    obtain ⟨_, _, xs, _, o, es, ep, h1, h2, _⟩ := (show zb2 X.prog X.w H s.heap a (.dT kvs) from I.hok a _ ea)
    exact PySem.W.kia_one PySem.W.kitx_dict I.kIn ⟨o, h1, h2.1⟩ e (fun z => nomatch z) h
  | @ins a C dx fs ea cl ha hn htk hm =>
    cases (show u = Value.ref a from rx)
    obtain ⟨mA, O, _⟩ := zku I.hok ea
    obtain ⟨od, J, _⟩ := O.look
    exact PySem.W.kia_one (PySem.W.kitx_own (cl.get _) cl.hd ha hn htk hm) I.kIn J e (fun z => nomatch z) h
end
end L2
namespace L2
open PySem PySem.Spec PyProof.Rows
structure zbm (k : Nat) (A : Around) : Prop where
  hd : A.handled = none
  dp : A.depth + 3 * k + 5 < recursionLimit
  un : A.units + 16 * k + 200 < cLine
theorem zbm.mono {j k : Nat} {A : Around} (r : zbm k A) (h : j <= k) : zbm j A := ⟨r.hd, by have := r.dp; omega, by have := r.un; omega⟩
theorem zbm.deeper {k : Nat} {A : Around} (r : zbm (k + 1) A) (env : Env) : zbm k (A.deeper env) :=
  ⟨r.hd, by have := r.dp; show A.depth + 1 + 3 * k + 5 < _; omega, by have := r.un; show A.units + 3 + 16 * k + 200 < _; omega⟩
theorem zbm.in1 {k : Nat} {A : Around} (r : zbm (k + 1) A) : zbm k A.in1 :=
  ⟨r.hd, by have := r.dp; show A.depth + 3 * k + 5 < _; omega, by have := r.un; show A.units + 1 + 16 * k + 200 < _; omega⟩
theorem z41 {A : Around} {C : Addr} {us : List Value} {kw : List (Str × Value)} : (A.under (.builtin "type.__call__" ⟨.ref C :: us, kw⟩)).depth = A.depth + 1 := by
  first | rfl | simp [Around.under, Code.weight, Code.isCreation, Code.isGuard, Code.isCaller, Code.frames, Code.isFrame, guardIds]
theorem z2d {A : Around} {C : Addr} {us : List Value} {kw : List (Str × Value)} : (A.under (.builtin "type.__call__" ⟨.ref C :: us, kw⟩)).units = A.units + 1 := by
  first | rfl | simp [Around.under, Code.cUnits, Code.frames, Code.isFrame]
theorem zbm.make {k : Nat} {A : Around} (r : zbm (k + 1) A) (C : Addr) (us : List Value) (kw : List (Str × Value)) : zbm k (A.under (.builtin "type.__call__" ⟨.ref C :: us, kw⟩)) :=
  ⟨r.hd, by have := r.dp; rw [z41]; omega, by have := r.un; rw [z2d]; omega⟩
theorem zbm.depth {k : Nat} {A : Around} (r : zbm k A) : A.depth < recursionLimit := by have := r.dp; omega
theorem zbm.units {k : Nat} {A : Around} (r : zbm k A) : A.units + 64 < cLine := by have := r.un; omega
noncomputable def zmk : TA := fun _ H Q => Q [] H
noncomputable def znf (ta : TE) (tr : TA) : TA := fun σ H Q => ta σ H fun x H1 => tr σ H1 fun xs H2 => Q (x :: xs) H2
section
variable {X : Cx} {e : Expr} {es : List Expr} {te : TE} {t : TA} {pos : Pos}
theorem zei : PA X [] zmk := fun _ _ _ _ H Q I h => Calls.spliced_nil ⟨[], H, I, .nil, h⟩
theorem zd0 (ha : PE X e te) (hr : PA X es t) (hs : starEach (e :: es) X.env = (false, eval e X.env) :: starEach es X.env := by rfl) : PA X (e :: es) (znf te t) := by
  intro pos pins s σ H Q I h
  rw [hs]
  show wpAny _ _ (spliced ((false, eval e X.env) :: backTo pos (starEach es X.env))) _ _ s
  refine Calls.spliced_cons (thn (ha pins s σ H _ I h) fun u s1 ⟨x, H1, I1, r1, q1⟩ => ?_)
  exact thn (hr pos pins s1 σ H1 _ I1 q1) fun us s2 ⟨xs, H2, I2, r2, q2⟩ => ⟨x :: xs, H2, I2, .cons r1 r2, q2⟩
noncomputable def zup (t : TA) : TE := fun σ H Q => t σ H fun xs H1 => xs.length <= sizeLine /\ ∀ p, H1 p = none -> Q (.ref p) (upd H1 p (.tup xs))
noncomputable def zu0 (t : TA) : TE := fun σ H Q => t σ H fun xs H1 => xs.length <= sizeLine /\ ∀ p, H1 p = none -> Q (.ref p) (upd H1 p (.lst xs))
theorem z3g {x1} (h : PA X es t) : PE X (.Tuple es x1 pos) (zup t) := by
  intro pins s σ H Q I hq
  refine wpAny_Tuple_spliced (thn (h pos pins s σ H _ I hq) fun us s1 ⟨xs, H1, I1, r, z, q⟩ => ⟨by rw [<- r.length]; exact z, ?_⟩)
  have hf : H1 s1.heap.objs.size = none := I1.hok.fresh (Nat.le_refl _)
  refine ⟨.ref s1.heap.objs.size, upd H1 s1.heap.objs.size (.tup xs), I1.laid (t' := s1.toks) (fun b u e => Heap.get?_push_of_some _ e) (Nat.le_refl _) ?_, rfl, q _ hf⟩
  exact ⟨z, us, r, ⟨_, Heap.get?_push_size _ rfl, rfl, _, rfl⟩⟩
theorem z4p (h : PA X es t) : PE X (.List es pos) (zu0 t) := by
  intro pins s σ H Q I hq
  refine wpAny_List_spliced (thn (h pos pins s σ H _ I hq) fun us s1 ⟨xs, H1, I1, r, z, q⟩ => ⟨by rw [<- r.length]; exact z, ?_⟩)
  have hf : H1 s1.heap.objs.size = none := I1.hok.fresh (Nat.le_refl _)
  refine ⟨.ref s1.heap.objs.size, upd H1 s1.heap.objs.size (.lst xs), I1.laid (t' := s1.toks) (fun b u e => Heap.get?_push_of_some _ e) (Nat.le_refl _) ?_, rfl, q _ hf⟩
  exact ⟨z, us, 0, r, Heap.get?_push_size _ rfl⟩
end
noncomputable abbrev Sp := List V -> Hp -> VK -> XK -> Prop
noncomputable abbrev CXT := List Env -> Hp -> Shared -> XK -> Value -> Shared -> Prop
structure zeu (P : Program) (w : World) (K : PySem.W.Frag) (mg : Str -> Option Value) (base : Heap) (A : Around) (outer : List Env) (s : Shared) (H : Hp) : Prop where
  frames : A.frames = some outer
  mod : Mod K mg base
  bs : ∀ b o, base.get? b = some o -> s.heap.get? b = some o /\ H b = none
  bsz : base.objs.size <= s.heap.objs.size
  funs : s.heap.FunFrames base outer
  frf : ∀ b ∈ frs outer, H b = none
  hok : HOk P w H s.heap
  bare : AllBare s.gens
noncomputable def CE (outer : List Env) (P : Program) (w : World) (H : Hp) (s : Shared) (Q : VK) (u : Value) (s' : Shared) : Prop :=
  ∃ v H', s'.os = s.os /\ AllBare s'.gens /\ Un (frs outer) [] H H' s.heap s'.heap /\ HOk P w H' s'.heap /\ zam v u /\ Q v H'
noncomputable def CR (CX : CXT) (outer : List Env) (P : Program) (w : World) (H : Hp) (s : Shared) (Q : VK) (E : XK) (r : Result) (s' : Shared) : Prop :=
  match r with
  | .ok (.ret u) => CE outer P w H s Q u s'
  | .ok _ => False
  | .error e => CX outer H s E e s'
structure zau (P : Program) (w : World) (K : PySem.W.Frag) (mg : Str -> Option Value) (base : Heap) (CX : CXT) (k : Nat) (f : Addr) (fd : FuncData) (ps : List Str) (sp : Sp) : Prop where
  len : ∀ vs H Q E, sp vs H Q E -> vs.length = ps.length
  run : ∀ (A : Around) (outer : List Env) (s : Shared) (H : Hp) (args : Args) (us : List Value) (vs : List V) (Q : VK) (E : XK), zbm k A -> zeu P w K mg base A outer s H -> BindsTo s fd args (ps.zip us) -> zaj vs us -> sp vs H Q E ->
    codeAny (model P w) A (.call (.ref f) args) (CR CX outer P w H s Q E) s
theorem zau.mono {P : Program} {w : World} {K : PySem.W.Frag} {mg : Str -> Option Value} {base : Heap} {CX : CXT} {j k : Nat} {f : Addr} {fd : FuncData} {ps : List Str} {sp : Sp} (F : zau P w K mg base CX j f fd ps sp) (h : j <= k) :
    zau P w K mg base CX k f fd ps sp := ⟨F.len, fun A outer s H args us vs Q E hr => F.run A outer s H args us vs Q E (hr.mono h)⟩
theorem zau.imp {P : Program} {w : World} {K : PySem.W.Frag} {mg : Str -> Option Value} {base : Heap} {CX : CXT} {k : Nat} {f : Addr} {fd : FuncData} {ps : List Str} {sp sp' : Sp} (F : zau P w K mg base CX k f fd ps sp)
    (h : ∀ vs H Q E, sp' vs H Q E -> sp vs H Q E) : zau P w K mg base CX k f fd ps sp' :=
  ⟨fun vs H Q E q => F.len vs H Q E (h _ _ _ _ q), fun A outer s H args us vs Q E hr he hb hv hs => F.run A outer s H args us vs Q E hr he hb hv (h _ _ _ _ hs)⟩
theorem zeu.make {P : Program} {w : World} {K : PySem.W.Frag} {mg : Str -> Option Value} {base : Heap} {A : Around} {outer : List Env} {s : Shared} {H : Hp} (e : zeu P w K mg base A outer s H) (C : Addr) (us : List Value) (kw : List (Str × Value)) :
    zeu P w K mg base (A.under (.builtin "type.__call__" ⟨.ref C :: us, kw⟩)) outer s H := ⟨by first | exact e.frames | (simpa [Around.under, Code.envs, Code.isFrame, pushEnvs] using e.frames), e.mod, e.bs, e.bsz, e.funs, e.frf, e.hok, e.bare⟩
theorem zeu.in1 {P : Program} {w : World} {K : PySem.W.Frag} {mg : Str -> Option Value} {base : Heap} {A : Around} {outer : List Env} {s : Shared} {H : Hp} (e : zeu P w K mg base A outer s H) :
    zeu P w K mg base A.in1 outer s H := ⟨e.frames, e.mod, e.bs, e.bsz, e.funs, e.frf, e.hok, e.bare⟩
section
variable {X : Cx} {pins : List (Addr × Obj)} {σ : St} {H : Hp} {s s' : Shared}
theorem Inv.env0 (I : Inv X pins σ H s) : zeu X.prog X.w X.K X.mg X.base X.A X.stack s H :=
  ⟨I.ok.frames, I.ok.mod, I.bs, Nat.le_trans I.ok.bsz I.sz, I.stack, I.stkFree, I.hok, I.bare⟩
theorem Inv.after {Q : VK} {u : Value} (I : Inv X pins σ H s) (h : CE X.stack X.prog X.w H s Q u s') : EP X pins σ Q u s' := by
  obtain ⟨v, H', os, bare, un, hok, r, q⟩ := h
  obtain ⟨hh, g, d, t, os'⟩ := s'
  obtain rfl : os' = s.os := os
  exact ⟨v, H', I.call (h' := hh) (g' := g) (d' := d) (t' := t) (ch := []) un hok bare (fun b z => absurd z (by simp)), r, q⟩
end
noncomputable def z4r (sp : Sp) (dvs : List V) (E : XK) (t : TA) : TE := fun σ H Q => t σ H fun vs H1 => sp (vs ++ dvs) H1 Q E
noncomputable def z2p (C : Addr) (m : Str) (sp : Sp) (dvs : List V) (E : XK) (ta : TE) (t : TA) : TE := fun σ H Q => ta σ H fun x H1 => ∃ a dx fs, x = .ref a /\ H1 a = some (.ins C dx fs) /\ fs.lookup m = none /\
  t σ H1 fun vs H2 => sp (x :: (vs ++ dvs)) H2 Q E
noncomputable def z4i (C : Addr) (sp : Sp) (dvs : List V) (E : XK) (t : TA) : TE := fun σ H Q => t σ H fun vs H1 => ∀ x dx, H1 x = none -> H1 dx = none -> dx ≠ x ->
  sp (.ref x :: (vs ++ dvs)) (upd (upd H1 dx (.own x)) x (.ins C dx [])) (fun v H2 => v = .non /\ Q (.ref x) H2) E
noncomputable def za2 (K : PySem.W.Frag) (fd : FuncData) (ps : List Str) (ds : List Value) : Prop :=
  ∀ (s : Shared) (us : List Value), K.In s.heap -> (us ++ ds).length = ps.length -> BindsTo s fd ⟨us, []⟩ (ps.zip (us ++ ds))
theorem za2.all {K : PySem.W.Frag} {fd : FuncData} {ps : List Str} (h : ∀ us : List Value, us.length = ps.length -> bindArgs fd ⟨us, []⟩ = pure (ps.zip us)) : za2 K fd ps [] := fun s us _ hl => by
  rw [List.append_nil] at hl ⊢
  exact .of_eq (h us hl)
noncomputable def zic (CX : CXT) (X : Cx) (E : XK) : Prop := ∀ (pins : List (Addr × Obj)) (σ : St) (H : Hp) (s : Shared) (e : Value) (s' : Shared), Inv X pins σ H s -> CX X.stack H s E e s' -> X.xe e s'
section
variable {X : Cx} {CX : CXT} {k : Nat} {f C : Addr} {fd : FuncData} {ps : List Str} {sp : Sp} {dvs : List V} {ds : List Value} {E : XK} {x m : Str} {p pos apos : Pos} {e o : Expr} {es : List Expr} {ta : TE} {t : TA}
theorem zto {pins : List (Addr × Obj)} {σ : St} {H : Hp} {s : Shared} {Q : VK} {us : List Value} {vs : List V} (F : zau X.prog X.w X.K X.mg X.base CX k f fd ps sp) (hr : zbm k X.A) (hb : za2 X.K fd ps ds) (hd : zaj dvs ds) (hx : zic CX X E)
    (I : Inv X pins σ H s) (r : zaj vs us) (h : sp (vs ++ dvs) H Q E) : wpAny (model X.prog X.w) X.A (call (.ref f) us) (EP X pins σ Q) X.xe s := by
  have r2 : zaj (vs ++ dvs) (us ++ ds) := r.append hd
  have hl : (us ++ ds).length = ps.length := by rw [<- r2.length]; exact F.len _ _ _ _ h
  refine wpAny_call (codeAny_mono (F.run X.A X.stack s H ⟨us, []⟩ (us ++ ds) (vs ++ dvs) Q E hr I.env0 (hb s us I.kIn hl) r2 h) fun r s' hq => ?_)
  cases r with
  | error e => exact hx pins σ H s e s' I hq
  | ok fl =>
    cases fl with
    | ret u => exact I.after hq
    | next => exact False.elim hq
    | brk => exact False.elim hq
    | cont => exact False.elim hq
theorem zpw (F : zau X.prog X.w X.K X.mg X.base CX k f fd ps sp) (hr : zbm k X.A) (hg : Gl X x) (hm : X.mg x = some (.ref f)) (hk : PySem.W.keepIn X.K (.ref f) = true) (hb : za2 X.K fd ps ds) (hd : zaj dvs ds) (hx : zic CX X E)
    (ha : PA X (e :: es) t) (hdb : (x == ("__debug__" : Str)) = false := by decide) (he : starEach (e :: es) X.env = (false, eval e X.env) :: starEach es X.env := by rfl) (hpl : (backTo pos (starEach es X.env)).any (·.1) = false := by rfl) :
    PE X (.Call (.Name x p) (e :: es) [] pos) (z4r sp dvs E t) := by
  intro pins s σ H Q I h
  refine wpAny_Call_Name_kw (zrp I hg hm ?_ hdb)
  refine PySem.W.callWith_K (h₀ := X.base) I.ok.mod.kin hk (thn (ha pos pins s σ H _ I h) fun us s1 ⟨vs, H1, I1, r, q⟩ => ⟨I1.kIn, ?_⟩) he hpl
  exact zto F hr hb hd hx I1 r q
theorem zzv {pl : Sem Bool} (he : PE X o ta) (c : Cls X.K C) (hm : zcm X.K C m f) (F : zau X.prog X.w X.K X.mg X.base CX k f fd ps sp) (hr : zbm k X.A) (hb : za2 X.K fd ps ds) (hd : zaj dvs ds) (hx : zic CX X E) (ha : PA X (e :: es) t)
    (hst : starEach (e :: es) X.env = (false, eval e X.env) :: starEach es X.env := by rfl) (hpl : (backTo pos (starEach es X.env)).any (·.1) = false := by rfl)
    (ht : eval (.Call (.Attribute o m apos) (e :: es) [] pos) X.env = (do
      let ov <- eval o X.env
      standAt apos.atName
      let (f, first) <- holding [ov] (getMethod ov m pl)
      callWith pos f first (backTo pos (starEach (e :: es) X.env)) (backToKw pos (keywordEach [] X.env))) := by rfl) :
    PE X (.Call (.Attribute o m apos) (e :: es) [] pos) (z2p C m sp dvs E ta t) := by
  intro pins s σ H Q I h
  refine PySem.W.methodCall_KW (pl := pl) (thn (he pins s σ H _ I h) fun u s1 ⟨x, H1, I1, rx, a, dx, fs, ex, ea, l, q⟩ => ?_) ht
  subst ex
  obtain rfl : u = Value.ref a := rx
  refine z4h I1 ea c hm l ?_
  refine PySem.W.callWith_K (first := [.ref a]) (h₀ := X.base) I.ok.mod.kin hm.kp (thn (ha pos pins s1 σ H1 _ I1 q) fun us s2 ⟨vs, H2, I2, r, q2⟩ => ⟨I2.kIn, ?_⟩) hst hpl
  exact zto (us := .ref a :: us) (vs := .ref a :: vs) F hr hb hd hx I2 (.cons rfl r) q2
structure Mk (K : PySem.W.Frag) (C f : Addr) : Prop where
  makes : PySem.W.makesIn K C = true
  init : PySem.W.findIn K (.ref C) "__init__" = some (some (.ref f))
  fn : PySem.W.isFn K (.ref f) = true
  kp : PySem.W.keepIn K (.ref C) = true
theorem zzm {pins : List (Addr × Obj)} {σ : St} {H : Hp} {s : Shared} {Q : VK} {us : List Value} {vs : List V} (M : Mk X.K C f) (F : zau X.prog X.w X.K X.mg X.base CX k f fd ps sp) (hr : zbm (k + 1) X.A) (hb : za2 X.K fd ps ds) (hd : zaj dvs ds)
    (hx : zic CX X E) (I : Inv X pins σ H s) (r : zaj vs us)
    (h : ∀ x dx, H x = none -> H dx = none -> dx ≠ x -> sp (.ref x :: (vs ++ dvs)) (upd (upd H dx (.own x)) x (.ins C dx [])) (fun v H2 => v = .non /\ Q (.ref x) H2) E) :
    wpAny (model X.prog X.w) X.A (call (.ref C) us) (EP X pins σ Q) X.xe s := by
  have hq := h (s.heap.objs.size + 1) s.heap.objs.size (I.hok.fresh (Nat.le_succ _)) (I.hok.fresh (Nat.le_refl _)) (Nat.ne_of_lt (Nat.lt_succ_self _))
  have I2 := Inv.made (C := C) I
  have r2 : zaj (V.ref (s.heap.objs.size + 1) :: (vs ++ dvs)) (Value.ref (s.heap.objs.size + 1) :: (us ++ ds)) := .cons rfl (r.append hd)
  have hl : (Value.ref (s.heap.objs.size + 1) :: us ++ ds).length = ps.length := by
    have e := r2.length
    rw [F.len _ _ _ _ hq] at e
    exact e.symm
  refine wpAny_call (zwl (f := f) I.kIn M.makes M.init (beq_iff_eq.mp M.fn) (codeAny_mono (F.run _ X.stack _ _ ⟨Value.ref (s.heap.objs.size + 1) :: us, []⟩ (Value.ref (s.heap.objs.size + 1) :: (us ++ ds)) _ _ E (hr.make C us [])
    (I2.env0.make C us []) (hb _ (Value.ref (s.heap.objs.size + 1) :: us) I2.kIn hl) r2 hq) fun r s' hq' => ?_))
  cases r with
  | error e => exact hx pins σ _ _ e s' I2 hq'
  | ok fl =>
    cases fl with
    | ret u =>
      obtain ⟨v, H', I3, rv, ev, q3⟩ := I2.after hq'
      subst ev
      exact ⟨rv, ⟨V.ref (s.heap.objs.size + 1), H', I3, rfl, q3⟩⟩
    | next => exact False.elim hq'
    | brk => exact False.elim hq'
    | cont => exact False.elim hq'
theorem z13 (M : Mk X.K C f) (F : zau X.prog X.w X.K X.mg X.base CX k f fd ps sp) (hr : zbm (k + 1) X.A) (hg : Gl X x) (hm : X.mg x = some (.ref C)) (hb : za2 X.K fd ps ds) (hd : zaj dvs ds) (hx : zic CX X E)
    (ha : PA X (e :: es) t) (hdb : (x == ("__debug__" : Str)) = false := by decide) (he : starEach (e :: es) X.env = (false, eval e X.env) :: starEach es X.env := by rfl) (hpl : (backTo pos (starEach es X.env)).any (·.1) = false := by rfl) :
    PE X (.Call (.Name x p) (e :: es) [] pos) (z4i C sp dvs E t) := by
  intro pins s σ H Q I h
  refine wpAny_Call_Name_kw (zrp I hg hm ?_ hdb)
  refine PySem.W.callWith_K (h₀ := X.base) I.ok.mod.kin M.kp (thn (ha pos pins s σ H _ I h) fun us s1 ⟨vs, H1, I1, r, q⟩ => ⟨I1.kIn, ?_⟩) he hpl
  exact zzm M F hr hb hd hx I1 r q
end
section
variable {X : Cx} {CX : CXT} {k : Nat} {f C : Addr} {fd : FuncData} {ps ks : List Str} {sp : Sp} {E : XK} {x m : Str} {p pos apos kpos : Pos} {e o : Expr} {es : List Expr} {kws : List Keyword} {te ta : TE} {t tk : TA} {nm : Option Str}
variable {g : List Value -> List Value -> List Value} {gV : List V -> List V -> List V}
end
structure za7 (N P : List Str) (sc : Scope) : Prop where
  kind : sc.kind = .function
  co : sc.isCoroutine = false
  gen : sc.isGenerator = false
  nd : N.Nodup
  pre : N.take P.length = P
  par : ∀ x ∈ P, sc.names.lookup x = some .local \/ sc.names.lookup x = some .cell
  nofree : ∀ y ∈ sc.names, y.2 ≠ .free
theorem zqz {kindOf : Str -> Option NameKind} {x : Str} : ∀ {binds : List (Str × Value)} {m : Str -> Option Value}, (∀ v, (x, v) ∉ binds) -> bindL kindOf binds m x = m x
  | [], _, _ => rfl
  | (n, v) :: r, m, h => by
    unfold bindL
    rw [zqz fun w hw => h w (List.mem_cons_of_mem _ hw)]
    split
    · have : x ≠ n := by rintro rfl; exact h v List.mem_cons_self
      simp [this]
    · rfl
theorem zql {kindOf : Str -> Option NameKind} {x : Str} : ∀ {binds : List (Str × Value)} {m : Str -> Option Value}, (∀ v, (x, v) ∉ binds) -> bindC kindOf binds m x = m x
  | [], _, _ => rfl
  | (n, v) :: r, m, h => by
    unfold bindC
    rw [zql fun w hw => h w (List.mem_cons_of_mem _ hw)]
    split
    · rfl
    · have : x ≠ n := by rintro rfl; exact h v List.mem_cons_self
      simp [this]
theorem zqc {kindOf : Str -> Option NameKind} {x : Str} {v : Value} : ∀ {P : List Str} {vs : List Value} {i : Nat} {m : Str -> Option Value}, P.Nodup -> P[i]? = some x -> vs[i]? = some v -> kindOf x = some .local ->
    bindL kindOf (P.zip vs) m x = some v
  | [], _, _, _, _, h, _, _ => by simp at h
  | _ :: _, [], _, _, _, _, h, _ => by simp at h
  | p :: P, w :: vs, 0, m, nd, h1, h2, hk => by
    simp at h1 h2; subst h1; subst h2
    show bindL kindOf ((p, w) :: P.zip vs) m p = _
    unfold bindL
    rw [zqz fun v hv => (List.nodup_cons.mp nd).1 (List.of_mem_zip hv).1, if_pos hk]
    simp
  | p :: P, w :: vs, i + 1, m, nd, h1, h2, hk => by
    show bindL kindOf ((p, w) :: P.zip vs) m x = _
    unfold bindL
    exact zqc (i := i) (List.nodup_cons.mp nd).2 (by simpa using h1) (by simpa using h2) hk
theorem zox {kindOf : Str -> Option NameKind} {x : Str} {v : Value} : ∀ {P : List Str} {vs : List Value} {i : Nat} {m : Str -> Option Value}, P.Nodup -> P[i]? = some x -> vs[i]? = some v -> kindOf x ≠ some .local ->
    bindC kindOf (P.zip vs) m x = some v
  | [], _, _, _, _, h, _, _ => by simp at h
  | _ :: _, [], _, _, _, _, h, _ => by simp at h
  | p :: P, w :: vs, 0, m, nd, h1, h2, hk => by
    simp at h1 h2; subst h1; subst h2
    show bindC kindOf ((p, w) :: P.zip vs) m p = _
    unfold bindC
    rw [zql fun v hv => (List.nodup_cons.mp nd).1 (List.of_mem_zip hv).1, if_neg hk]
    simp
  | p :: P, w :: vs, i + 1, m, nd, h1, h2, hk => by
    show bindC kindOf ((p, w) :: P.zip vs) m x = _
    unfold bindC
    exact zox (i := i) (List.nodup_cons.mp nd).2 (by simpa using h1) (by simpa using h2) hk
noncomputable def start (N : List Str) (vs : List V) : St := vs.map some ++ List.replicate (N.length - vs.length) none
noncomputable def ze8 (CX : CXT) (P : Program) (w : World) (K : PySem.W.Frag) (mg : Str -> Option Value) (base : Heap) (N : List Str) (qual : Str) (scope : Scope) (f : Addr) (cd : Value) (A : Around) (outer : List Env) (s : Shared) (H : Hp) (E : XK) : Cx where
  prog := P
  w := w
  K := K
  mg := mg
  base := base
  A := A.deeper (envOfC qual scope s.heap.objs.size f cd)
  N := N
  s₀ := s
  H₀ := H
  env := envOfC qual scope s.heap.objs.size f cd
  outer := outer
  stack := envOfC qual scope s.heap.objs.size f cd :: outer
  ex := []
  calm := true
  fn := fun _ => true
  pn := []
  xe := fun e s' => wpAny (model P w) (A.deeper (envOfC qual scope s.heap.objs.size f cd)) (leaving (envOfC qual scope s.heap.objs.size f cd) e) (fun _ s'' => CX outer H s E e s'') (fun e' s'' => CX outer H s E e' s'') s'
theorem zrb {sc : Scope} {n : Nat} {x : Str} (h : sc.names.lookup x = some .cell) : ∃ c, (cellsFrom n sc.names []).lookup x = some c := by
  have q := PySem.W.cellsFrom_some sc.names n [] (.inl h)
  exact Option.isSome_iff_exists.mp q
theorem z0b {CX : CXT} {P : Program} {w : World} {K : PySem.W.Frag} {mg : Str -> Option Value} {base : Heap} {N ps : List Str} {qual : Str} {scope : Scope} {f : Addr} {cd : Value} {A : Around} {outer : List Env} {s s1 : Shared} {H : Hp} {E : XK} {us : List Value} {vs : List V}
    (S : za7 N ps scope) (hd : A.handled = none) (e0 : zeu P w K mg base A outer s H) (hl : vs.length = ps.length) (r : zaj vs us)
    (x : InCallC s s.heap.objs.size (bindL (envOfC qual scope s.heap.objs.size f cd).kindOf (ps.zip us) fun _ => none) (cellsFrom (s.heap.objs.size + 1) scope.names []) (bindC (envOfC qual scope s.heap.objs.size f cd).kindOf (ps.zip us) fun _ => none) s1) :
    Inv (ze8 CX P w K mg base N qual scope f cd A outer s H E) [] (start N vs) H s1 := by
  have hpl : ps.length <= N.length := by have := congrArg List.length S.pre; rw [List.length_take] at this; omega
  obtain ⟨h1, tk, rfl, hk⟩ := x.done
  have noA : ∀ b : Addr, b ∉ (ze8 CX P w K mg base N qual scope f cd A outer s H E).ex := fun b z => absurd (show b ∈ ([] : List Addr) from z) (by simp)
  refine ⟨⟨e0.mod, S.kind, rfl, rfl, Nat.le_refl _, fun y z c h1 h2 => ?_, fun y hy => ?_, fun y c _ h => ?_, fun _ => hd, Around.frames_deeper e0.frames, .inr ⟨rfl, rfl⟩, fun b z => absurd z (noA b), e0.bs, e0.bsz, fun b _ _ => noA b, fun b z => absurd z (noA b), e0.funs, e0.frf⟩,
    rfl, e0.bare, Un.kept hk, ⟨_, x.toInCall.ns, fun i y v h1 h2 h3 => ?_⟩, fun y c h => ⟨_, x.cell y c h⟩, e0.hok.fresh (Nat.le_refl _), fun y c h => ?_, fun p hp => absurd (show p ∈ ([] : List (Addr × Obj)) from hp) (by simp), e0.hok.kept hk, ?_⟩
  · exact name_of_addr x.apart (PySem.mem_of_lookup h1) (PySem.mem_of_lookup h2)
  · have hy : scope.names.lookup y = some .cell \/ scope.names.lookup y = some .free := hy
    rcases hy with hy | hy
    · exact zrb hy
    · exact absurd rfl (S.nofree _ (PySem.mem_of_lookup hy))
  · exact Nat.le_of_lt (x.above y c (PySem.mem_of_lookup h))
  · have hi : i < vs.length := by
      unfold start at h2
      by_cases hi : i < vs.length
      · exact hi
      · rw [List.getElem?_append_right (by simpa using hi)] at h2
        rw [List.getElem?_replicate] at h2
        split at h2 <;> cases h2
    have ha : vs[i]? = some v := by
      unfold start at h2
      rw [List.getElem?_append_left (by simpa using hi), List.getElem?_map] at h2
      cases e : vs[i]? with
      | none => rw [e] at h2; cases h2
      | some a => rw [e] at h2; cases h2; rfl
    obtain ⟨u, hu, rv⟩ := r.get ha
    have hp : ps[i]? = some y := by
      rw [<- S.pre, List.getElem?_take_of_lt (by omega)]; exact h1
    have ndP : ps.Nodup := by rw [<- S.pre]; exact S.nd.sublist (List.take_sublist _ _)
    refine ⟨u, rv, ?_⟩
    rcases S.par y (List.mem_of_getElem? hp) with k | k
    · exact .inl ⟨k, zqc ndP hp hu k⟩
    · obtain ⟨c, e⟩ := zrb (n := s.heap.objs.size + 1) k
      refine .inr ⟨.inl k, c, e, ?_⟩
      have q := x.cell y c e
      rw [zox ndP hp hu (by show scope.names.lookup y ≠ _; rw [k]; decide)] at q
      exact q
  · exact e0.hok.fresh (Nat.le_of_lt (x.above y c (PySem.mem_of_lookup h)))
  · unfold start
    show _ = N.length
    rw [List.length_append, List.length_map, List.length_replicate]
    omega
theorem zyh {CX : CXT} {P : Program} {w : World} {K : PySem.W.Frag} {mg : Str -> Option Value} {base : Heap} {k : Nat} {f : Addr} {name qual : Str} {params : Arguments} {body : List Stmt} {scope : Scope} {dV kV doc pm cdv ct oc : Value} {an od : Option Addr}
    {osl : Array (Option Value)} {N ps : List Str} {sp : Sp} (lk : K.lookup f = some ⟨oc, od, .func (PySem.W.fnOf name qual params body scope dV kV doc pm an cdv ct), osl⟩) (hcd : PySem.W.codeIn K cdv qual = true) (S : za7 N ps scope)
    (len : ∀ vs H Q E, sp vs H Q E -> vs.length = ps.length)
    (hbody : ∀ (A : Around) (outer : List Env) (s : Shared) (H : Hp) (vs : List V) (Q : VK) (E : XK), zbm k (A.deeper (envOfC qual scope s.heap.objs.size f cdv)) -> sp vs H Q E ->
      ∃ t, PSs (ze8 CX P w K mg base N qual scope f cdv A outer s H E) body t /\ t { nx := fun _ H' => Q .non H', rt := Q } (start N vs) H) :
    zau P w K mg base CX (k + 1) f (PySem.W.fnOf name qual params body scope dV kV doc pm an cdv ct) ps sp := by
  refine ⟨len, fun A outer s H args us vs Q E hr e0 hb r hsp => ?_⟩
  have hl := len _ _ _ _ hsp
  have KX : K.In s.heap := e0.mod.kin.keeps fun b o e => (e0.bs b o e).1
  have lim : s.heap.NoLimit := e0.mod.nolimit.keeps fun b o e => (e0.bs b o e).1
  have hkind : ∀ y ∈ ps.zip us, scope.names.lookup y.1 = some .local \/ (scope.names.lookup y.1 = some .cell /\ ((cellsFrom (s.heap.objs.size + 1) scope.names []).lookup y.1).isSome = true) := fun ⟨n, v⟩ hy => by
    rcases S.par n (List.of_mem_zip hy).1 with q | q
    · exact .inl q
    · exact .inr ⟨q, PySem.W.cellsFrom_some _ _ _ (.inl q)⟩
  refine codeAny_call_function hr.depth (KX _ _ lk) rfl S.co S.gen rfl (PySem.W.codeRec_of KX hcd) (hb _ _ _ _ ?_)
  refine wpAny_newFunctionEnv_cells S.kind hkind fun env he s1 x => ?_
  subst he
  refine ⟨lim.keeps x.toInCall.keep, codeAny_func ?_⟩
  obtain ⟨t, ht, hq⟩ := hbody A outer s H vs Q E (hr.deeper _) hsp
  have I : Inv (ze8 CX P w K mg base N qual scope f cdv A outer s H E) [] (start N vs) H s1 := z0b S hr.hd e0 hl r x
  refine wpAny_mono (ht [] s1 (start N vs) H _ I hq) (fun fl s' hs => ?_) fun e s' hs => hs
  have fin : ∀ {σ' : St} {H' : Hp} {v : V} {u : Value}, Inv (ze8 CX P w K mg base N qual scope f cdv A outer s H E) [] σ' H' s' -> zam v u -> Q v H' -> CE outer P w H s Q u s' :=
    fun {σ' H' v u} J rv q => ⟨v, H', J.os, J.bare, J.base, J.hok, rv, q⟩
  cases fl with
  | ret u =>
    obtain ⟨v, σ', H', J, rv, q⟩ := hs
    exact fin J rv q
  | next =>
    obtain ⟨σ', H', J, q⟩ := hs
    exact fin (v := V.non) (u := Value.none) J rfl q
  | brk =>
    obtain ⟨_, _, _, q⟩ := hs
    exact False.elim q
  | cont =>
    obtain ⟨_, _, _, q⟩ := hs
    exact False.elim q
end L2
namespace L2
open PySem PySem.Spec PyProof.Rows
section
variable {X : Cx} {x : Str} {p pos : Pos} {e : Expr} {es : List Expr} {t : TA} {id T : String} {r : List V -> Hp -> VK -> Prop}
noncomputable def tCB (r : List V -> Hp -> VK -> Prop) (t : TA) : TE := fun σ H Q => t σ H fun vs H1 => r vs H1 Q
theorem zq1 (hc : zcw X (.builtin id) r) (hg : Gl X x) (hm : X.mg x = none) (hv : bootBuiltins x = some (.builtin id)) (ha : PA X (e :: es) t) (hn : x ≠ "__name__" := by decide) (hdb : (x == ("__debug__" : Str)) = false := by decide)
    (he : starEach (e :: es) X.env = (false, eval e X.env) :: starEach es X.env := by rfl) (hpl : (backTo pos (starEach es X.env)).any (·.1) = false := by rfl) : PE X (.Call (.Name x p) (e :: es) [] pos) (tCB r t) := by
  intro pins s σ H Q I h
  refine wpAny_Call_Name_kw (zfy I hg hm hv ?_ hn hdb)
  exact PyProof.Rows.callWith_builtin1 (thn (ha pos pins s σ H _ I h) fun us s1 ⟨vs, H1, I1, r1, q1⟩ => hc pins s1 σ H1 vs us Q I1 r1 q1) he hpl
theorem z0v (hc : zcw X (.type T) r) (hg : Gl X x) (hm : X.mg x = none) (hv : bootBuiltins x = some (.type T)) (ha : PA X (e :: es) t) (hn : x ≠ "__name__" := by decide) (hdb : (x == ("__debug__" : Str)) = false := by decide)
    (he : starEach (e :: es) X.env = (false, eval e X.env) :: starEach es X.env := by rfl) (hpl : (backTo pos (starEach es X.env)).any (·.1) = false := by rfl) : PE X (.Call (.Name x p) (e :: es) [] pos) (tCB r t) := by
  intro pins s σ H Q I h
  refine wpAny_Call_Name_kw (zfy I hg hm hv ?_ hn hdb)
  exact PyProof.Rows.callWith_type1 (thn (ha pos pins s σ H _ I h) fun us s1 ⟨vs, H1, I1, r1, q1⟩ => hc pins s1 σ H1 vs us Q I1 r1 q1) he hpl
end
end L2
namespace HT
open PySem PyProof.Rows
section
open PySem.SeqAt
open PySem.AutoSeq1 (wpAny_loadPart')
open PySem.MeetsSeq PySem.MeetsSeq2 PySem.MeetsSeq3
end
section
variable {prog : Program} {w : World} {A : Around} {E : Value -> Shared -> Prop} {s : Shared}
noncomputable def sIx (n d : Nat) : Option Int -> Nat
  | none => d
  | some v => if v < 0 then (v + (n : Int)).toNat else min v.toNat n
theorem sIx_none (n d : Nat) : sIx n d none = d := rfl
theorem sIx_nat (n d k : Nat) : sIx n d (some (k : Int)) = min k n := by
  show (if (k : Int) < 0 then ((k : Int) + (n : Int)).toNat else min (k : Int).toNat n) = min k n
  rw [if_neg (by omega), Int.toNat_natCast]
end
end HT
namespace L2
open PySem PySem.Spec PyProof.Rows
noncomputable abbrev TO := St -> Hp -> (Option Int -> Hp -> Prop) -> Prop
noncomputable def PO (X : Cx) (e : Option Expr) (t : TO) : Prop :=
  ∀ (pins : List (Addr × Obj)) (s : Shared) (σ : St) (H : Hp) (Q : Option Int -> Hp -> Prop), Inv X pins σ H s -> t σ H Q ->
    wpAny (model X.prog X.w) X.A (evalPart e X.env) (fun u s' => ∃ o H', Inv X pins σ H' s' /\ IsPart u o /\ Q o H') X.xe s
noncomputable def z05 : TO := fun _ H Q => Q none H
noncomputable def z18 (t : TE) : TO := fun σ H Q => t σ H fun x H1 => ∃ i, x = .int i /\ Q (some i) H1
theorem zyn {ns : List Int} : ∀ {us : List Value}, zaj (ns.map V.int) us -> IntsAre us ns := by
  induction ns with
  | nil => intro us r; rw [List.map_nil] at r; cases r; exact .nil
  | cons n ns ih =>
    intro us r
    rw [List.map_cons] at r
    cases r with
    | cons r1 r2 =>
      obtain ⟨t, e⟩ := r1
      subst e
      exact .cons n t (ih r2)
section
variable {X : Cx} {e : Expr} {te : TE} {lo hi : Option Expr} {tl th : TO} {pos p2 : Pos}
theorem zuh : PO X none z05 := by
  intro pins s σ H Q I h
  rw [evalPart_none]
  exact wpAny_pure ⟨none, H, I, .none, h⟩
theorem zu8 (h : PE X e te) : PO X (some e) (z18 te) := by
  intro pins s σ H Q I hw
  rw [evalPart_some]
  refine thn (h pins s σ H _ I hw) fun u s1 ⟨x, H1, I1, r1, q1⟩ => ?_
  obtain ⟨i, rfl, q⟩ := q1
  obtain ⟨t, rfl⟩ := r1
  exact ⟨some i, H1, I1, .int i t, q⟩
noncomputable def SlR (X : Cx) (r : V -> Option Int -> Option Int -> Hp -> VK -> Prop) : Prop :=
  ∀ (pins : List (Addr × Obj)) (s : Shared) (σ : St) (H : Hp) (x : V) (v vl vu : Value) (lo hi : Option Int) (sl : Addr) (Q : VK), Inv X pins σ H s -> zam x v -> s.heap.IsSliceOf sl vl vu .none -> IsPart vl lo -> IsPart vu hi -> r x lo hi H Q ->
    ∃ T id, typeLookup (.type T) "__getitem__" = pure (some (.builtin id)) /\ s.TypeIs v T /\ wpAny (model X.prog X.w) X.A (getItem v (.ref sl)) (EP X pins σ Q) X.xe s
theorem SlR.or {r r' : V -> Option Int -> Option Int -> Hp -> VK -> Prop} (h : SlR X r) (h' : SlR X r') : SlR X (fun x lo hi H Q => r x lo hi H Q \/ r' x lo hi H Q) := by
  intro pins s σ H x v vl vu lo hi sl Q I rx hs pl pu q
  rcases q with q | q
  · exact h pins s σ H x v vl vu lo hi sl Q I rx hs pl pu q
  · exact h' pins s σ H x v vl vu lo hi sl Q I rx hs pl pu q
noncomputable def tSl (r : V -> Option Int -> Option Int -> Hp -> VK -> Prop) (te : TE) (tl th : TO) : TE := fun σ H Q => te σ H fun x H1 => tl σ H1 fun l H2 => th σ H2 fun u H3 => r x l u H3 Q
theorem zz4 {r : V -> Option Int -> Option Int -> Hp -> VK -> Prop} (hr : SlR X r) (he : PE X e te) (hl : PO X lo tl) (hu : PO X hi th) : PE X (.Subscript e (.Slice lo hi none p2) pos) (tSl r te tl th) := by
  intro pins s σ H Q I h
  refine Subscript_ (thn (he pins s σ H _ I h) fun v s1 ⟨x, H1, I1, r1, q1⟩ => ?_)
  refine wpAny_Slice (thn (hl pins s1 σ H1 _ I1 q1) fun vl s2 ⟨l, H2, I2, pl, q2⟩ => thn (hu pins s2 σ H2 _ I2 q2) fun vu s3 ⟨u, H3, I3, pu, q3⟩ => ?_)
  rw [evalPart_none]
  refine wpAny_pure ?_
  have I4 : Inv X pins σ H3 { s3 with heap := s3.heap.push { cls := .type "slice", data := .fields #[vl, vu, .none] } } := I3.kept (t' := s3.toks) fun b ob q => Heap.get?_push_of_some _ q
  obtain ⟨T, id, hT, ht, hg⟩ := hr pins { s3 with heap := s3.heap.push { cls := .type "slice", data := .fields #[vl, vu, .none] } } σ H3 x v vl vu l u s3.heap.objs.size Q I4 r1 (Heap.IsSliceOf.new ..) pl pu q3
  show wpAny (model X.prog X.w) X.A (subscriptTail e (.Slice lo hi none p2) v (.ref s3.heap.objs.size)) (EP X pins σ Q) X.xe { s3 with heap := s3.heap.push { cls := .type "slice", data := .fields #[vl, vu, .none] } }
  exact tail_any (ops := [.ref s3.heap.objs.size, v]) ht hT hg (by with_unfolding_all rfl)
noncomputable def zfq (xs : List V) (lo hi : Option Int) : List V := (xs.drop (HT.sIx xs.length 0 lo)).take (HT.sIx xs.length xs.length hi - HT.sIx xs.length 0 lo)
theorem zwd (xs : List V) (lo hi : Option Int) : (zfq xs lo hi).length <= xs.length := by
  unfold zfq
  rw [List.length_take, List.length_drop]
  omega
end
end L2
namespace L2
open PySem PySem.Spec PyProof.Rows
noncomputable def ixN (n : Nat) (i : Int) : Option Nat := if 0 <= i then (if i < n then some i.toNat else none) else if -(n : Int) <= i then some (i + n).toNat else none
noncomputable def atI {α : Type} (xs : List α) (i : Int) : Option α := (ixN xs.length i).bind fun j => xs[j]?
theorem zta {n : Nat} {i : Int} {j : Nat} (h : ixN n i = some j) : seqIndex? i n = some j /\ j < n /\ -(n : Int) <= i /\ i < n := by
  unfold ixN at h
  by_cases h0 : 0 <= i
  · rw [if_pos h0] at h
    by_cases h1 : i < n
    · rw [if_pos h1] at h
      have e : i.toNat = j := Option.some.inj h
      exact ⟨by rw [seqIndex_of h0 h1, e], by omega, by omega, h1⟩
    · rw [if_neg h1] at h; cases h
  · rw [if_neg h0] at h
    by_cases h1 : -(n : Int) <= i
    · rw [if_pos h1] at h
      have e : (i + n).toNat = j := Option.some.inj h
      exact ⟨by rw [seqIndex_neg (by omega) h1, e], by omega, h1, by omega⟩
    · rw [if_neg h1] at h; cases h
theorem zsc {α : Type} {xs : List α} {i : Int} {v : α} (h : atI xs i = some v) : ∃ j, seqIndex? i xs.length = some j /\ xs[j]? = some v /\ j < xs.length /\ -(xs.length : Int) <= i /\ i < xs.length := by
  unfold atI at h
  cases e : ixN xs.length i with
  | none => rw [e] at h; cases h
  | some j =>
    rw [e] at h
    obtain ⟨h1, h2, h3, h4⟩ := zta e
    exact ⟨j, h1, h, h2, h3, h4⟩
theorem z14 {α : Type} {xs : List α} {j : Nat} {v : α} (h : xs[j]? = some v) : atI xs (j : Int) = some v := by
  have hj : j < xs.length := (List.getElem?_eq_some_iff.mp h).1
  have e : ixN xs.length (j : Int) = some j := by
    unfold ixN
    rw [if_pos (by omega), if_pos (by omega)]; simp
  unfold atI; rw [e]; exact h
noncomputable def zo5 (b : Expr) : Prop := ∀ o i, subscripted b false o i = operate [o, i] (getItem o i)
noncomputable def IxR (X : Cx) (r : R2) : Prop :=
  ∀ (value slice : Expr) (pins : List (Addr × Obj)) (s : Shared) (σ : St) (H : Hp) (x y : V) (v u : Value) (Q : VK), Inv X pins σ H s -> zam x v -> zam y u -> r x y H Q ->
    subscripted slice false v u = operate [v, u] (getItem v u) -> wpAny (model X.prog X.w) X.A (subscriptTail value slice v u) (EP X pins σ Q) X.xe s
noncomputable def MtR (X : Cx) (id : String) (r : V -> List V -> Hp -> VK -> Prop) : Prop :=
  ∀ (pins : List (Addr × Obj)) (s : Shared) (σ : St) (H : Hp) (x : V) (xs : List V) (v : Value) (us : List Value) (Q : VK), Inv X pins σ H s -> zam x v -> zaj xs us -> r x xs H Q ->
    wpAny (model X.prog X.w) X.A (call (.builtin id) (v :: us)) (EP X pins σ Q) X.xe s
section
variable {X : Cx} {a b : Expr} {ta tb : TE} {pos : Pos}
theorem IxR.or {r r' : R2} (h : IxR X r) (h' : IxR X r') : IxR X (fun x y H Q => r x y H Q \/ r' x y H Q) := by
  intro value slice pins s σ H x y v u Q I rx ry q hs
  rcases q with q | q
  · exact h value slice pins s σ H x y v u Q I rx ry q hs
  · exact h' value slice pins s σ H x y v u Q I rx ry q hs
theorem MtR.or {id : String} {r r' : V -> List V -> Hp -> VK -> Prop} (h : MtR X id r) (h' : MtR X id r') : MtR X id (fun x xs H Q => r x xs H Q \/ r' x xs H Q) := by
  intro pins s σ H x xs v us Q I rx rs q
  rcases q with q | q
  · exact h pins s σ H x xs v us Q I rx rs q
  · exact h' pins s σ H x xs v us Q I rx rs q
theorem zxu {r : R2} (hr : IxR X r) (ha : PE X a ta) (hb : PE X b tb) (hs : zo5 b) : PE X (.Subscript a b pos) (tOp r ta tb) := by
  intro pins s σ H Q I h
  exact Subscript_ (zm3 ha hb I h fun v u s2 x y H2 I2 rx ry q => hr a b pins s2 σ H2 x y v u Q I2 rx ry q (hs _ _))
noncomputable def z10 (K : PySem.W.Frag) : R2 := fun x y H Q => ∃ p xs i v, x = .ref p /\ y = .int i /\ SqL K H p xs /\ atI xs i = some v /\ Q v H
noncomputable def z1n (K : PySem.W.Frag) : R2 := fun x y H Q => ∃ p xs i v, x = .ref p /\ y = .int i /\ SqT K H p xs /\ atI xs i = some v /\ Q v H
theorem ztr : IxR X (z10 X.K) := by
  intro value slice pins s σ H x y v u Q I rx ry h hs
  obtain ⟨p, xs, i, z, rfl, rfl, hq, he, q⟩ := h
  cases rx
  obtain ⟨t, rfl⟩ := ry
  obtain ⟨its, r, pl, hz⟩ := I.list hq
  obtain ⟨j, h1, h2, h3, h4, h5⟩ := zsc he
  obtain ⟨w, ew, rw'⟩ := r.get h2
  have hl := r.length
  have hn := zgy
  have fin : EP X pins σ Q w s := ⟨z, H, I, rw', q⟩
  by_cases h0 : 0 <= i
  · have hj : i.toNat = j := by
      rw [seqIndex_of h0 h5] at h1
      exact Option.some.inj h1
    exact item_listR pl.isList h0 (by omega) (by rw [hj]; simpa using ew) fin hs
  · have hj : (i + (its.toArray.size : Int)).toNat = j := by
      rw [seqIndex_neg (by omega) h4] at h1
      rw [List.size_toArray, <- hl]
      exact Option.some.inj h1
    exact subscriptTail_builtinR (x := w) pl.isList.typeIs slot_list_getitem.lookup
      (wpAny_getItem_list_neg (Q := fun r s' => r = w /\ EP X pins σ Q r s') pl.isList (by omega) (by rw [List.size_toArray] <;> omega) (by omega) (by rw [hj]; simpa using ew) ⟨rfl, fin⟩) hs
theorem ztv : IxR X (z1n X.K) := by
  intro value slice pins s σ H x y v u Q I rx ry h hs
  obtain ⟨p, xs, i, z, rfl, rfl, hq, he, q⟩ := h
  cases rx
  obtain ⟨t, rfl⟩ := ry
  obtain ⟨its, r, pl, hz⟩ := I.tuple hq
  obtain ⟨j, h1, h2, h3, h4, h5⟩ := zsc he
  obtain ⟨w, ew, rw'⟩ := r.get h2
  have hl := r.length
  have hn := zgy
  have fin : EP X pins σ Q w s := ⟨z, H, I, rw', q⟩
  exact subscriptTail_builtinR (x := w) pl.typeIs slot_tuple_getitem.lookup
    (getItem_tuple (j := j) (Q := fun r s' => r = w /\ EP X pins σ Q r s') pl (by omega) (by omega) (by rw [List.size_toArray, <- hl]; exact h1) (by simpa using ew) ⟨rfl, fin⟩) hs
theorem zwa (its : List Value) (n j : Nat) (u : Value) : Obj.mapSeq (·.setIfInBounds j u) { cls := .type "list", data := .seq its.toArray n } = { cls := .type "list", data := .seq (its.set j u).toArray n } := by
  simp [Obj.mapSeq]
theorem Inv.lst {pins : List (Addr × Obj)} {σ : St} {H : Hp} {s : Shared} {p : Addr} {xs : List V} (I : Inv X pins σ H s) (h : H p = some (.lst xs)) :
    ∃ (its : List Value) (n : Nat), zaj xs its /\ s.heap.get? p = some { cls := .type "list", data := .seq its.toArray n } /\ xs.length <= sizeLine := by
  obtain ⟨z, its, n, r, e⟩ := I.hok p _ h
  exact ⟨its, n, r, e, z⟩
theorem Inv.lstUpd {pins : List (Addr × Obj)} {σ : St} {H : Hp} {s : Shared} {p : Addr} {xs ys : List V} {its its' : List Value} {n n' : Nat} {f : Obj -> Obj} (I : Inv X pins σ H s) (h : H p = some (.lst xs))
    (ho : s.heap.get? p = some { cls := .type "list", data := .seq its.toArray n }) (hf : f { cls := .type "list", data := .seq its.toArray n } = { cls := .type "list", data := .seq its'.toArray n' }) (r : zaj ys its') (hz : ys.length <= sizeLine) (t : Nat) :
    Inv X pins σ (upd H p (.lst ys)) { s with heap := s.heap.update p f, toks := t } := by
  have e : (s.heap.update p f).get? p = some { cls := .type "list", data := .seq its'.toArray n' } := by
    rw [Heap.get?_update_self f ho (by rw [hf] <;> rfl), hf]
  refine I.write (x := p) (e := p) (by rw [h]; trivial) (.inl rfl) (fun b u hb q => (Heap.get?_update_other _ _ (Ne.symm hb)).trans q) ⟨_, e⟩ ?_
  exact ⟨hz, its', n', r, e⟩
noncomputable def zq8 : V -> V -> V -> Hp -> (Hp -> Prop) -> Prop := fun o i v H Q => ∃ p xs k j, o = .ref p /\ i = .int k /\ H p = some (.lst xs) /\ ixN xs.length k = some j /\ Q (upd H p (.lst (xs.set j v)))
theorem zud : zro X zq8 := by
  intro pins s σ H o i v ov iv u Q I ro ri rv h
  obtain ⟨p, xs, k, j, rfl, rfl, hp, hj, q⟩ := h
  cases ro
  obtain ⟨t, rfl⟩ := ri
  obtain ⟨its, n, r, ho, hz⟩ := I.lst hp
  obtain ⟨h1, h2, h3, h4⟩ := zta hj
  have hl := r.length
  have hn := zgy
  have I' : Inv X pins σ (upd H p (.lst (xs.set j v))) { s with heap := s.heap.update p (Obj.mapSeq (·.setIfInBounds j u)) } :=
    I.lstUpd hp ho (zwa its n j u) (r.set rv j) (by rw [List.length_set]; exact hz) s.toks
  by_cases h0 : 0 <= k
  · have hk : k.toNat = j := by
      rw [seqIndex_of h0 h4] at h1
      exact Option.some.inj h1
    exact PySem.W.ki_setAt ho h0 (by omega) (by rw [List.size_toArray, <- hl]; exact h4) (by rw [hk]; exact ⟨_, I', q⟩)
  · have hk : (k + (its.toArray.size : Int)).toNat = j := by
      rw [seqIndex_neg (by omega) h3] at h1
      rw [List.size_toArray, <- hl]
      exact Option.some.inj h1
    exact PySem.W.ki_setBack ho (by omega) (by rw [List.size_toArray, <- hl]; exact h3) (by omega) (by rw [hk]; exact ⟨_, I', q⟩)
theorem zvw (lo hi : Option Int) (n : Nat) : (sliceBounds lo hi none n).1 = ((HT.sIx n 0 lo : Nat) : Int) /\ (sliceBounds lo hi none n).2.1 = ((HT.sIx n n hi : Nat) : Int) /\ (sliceBounds lo hi none n).2.2 = 1 := by
  refine ⟨?_, ?_, rfl⟩
  · cases lo with
    | none => simp [sliceBounds, HT.sIx]
    | some i =>
      simp only [sliceBounds, HT.sIx, Option.getD_none, show (1 : Int) > 0 by decide, if_true]
      by_cases h : i < 0
      · simp only [h, if_true] <;> omega
      · simp only [h, if_false] <;> omega
  · cases hi with
    | none => simp [sliceBounds, HT.sIx]
    | some i =>
      simp only [sliceBounds, HT.sIx, Option.getD_none, show (1 : Int) > 0 by decide, if_true]
      by_cases h : i < 0
      · simp only [h, if_true] <;> omega
      · simp only [h, if_false] <;> omega
theorem zuk (its : List Value) (lo hi : Option Int) : slicePick its.toArray lo hi none = ((its.drop (HT.sIx its.length 0 lo)).take (HT.sIx its.length its.length hi - HT.sIx its.length 0 lo)).toArray := by
  obtain ⟨h1, h2, h3⟩ := zvw lo hi its.toArray.size
  unfold slicePick
  rw [h1, h2, h3]
  simp only [sliceRange_one, pick_run, List.size_toArray] <;> rfl
noncomputable def zvu (K : PySem.W.Frag) : V -> Option Int -> Option Int -> Hp -> VK -> Prop := fun x lo hi H Q => ∃ a xs, x = .ref a /\ SqL K H a xs /\ ∀ p, H p = none -> Q (.ref p) (upd H p (.lst (zfq xs lo hi)))
theorem zwf : SlR X (zvu X.K) := by
  intro pins s σ H x v vl vu lo hi sl Q I rx hs pl pu h
  obtain ⟨a, xs, rfl, hx, q⟩ := h
  cases rx
  obtain ⟨its, r, ht, hz⟩ := I.list hx
  have hlen := r.length
  refine ⟨"list", _, slot_list_getitem.lookup, ht.isList.typeIs, ?_⟩
  refine wpAny_getItem_list_slice ht.isList hs pl pu .none (by simp) ?_ (by rw [List.size_toArray] <;> omega)
  rw [zuk, <- hlen]
  refine ⟨.ref s.heap.objs.size, _, I.laid (t' := s.toks) (o := .lst (zfq xs lo hi)) (fun b ob q => Heap.get?_push_of_some _ q) (Nat.le_refl _) ?_, rfl, q _ (I.hok.fresh (Nat.le_refl _))⟩
  exact ⟨Nat.le_trans (zwd xs lo hi) hz, _, 0, (r.drop (HT.sIx xs.length 0 lo)).take (HT.sIx xs.length xs.length hi - HT.sIx xs.length 0 lo), Heap.get?_push_size _ rfl⟩
noncomputable def zkx : V -> Bool
  | .non => true
  | .bl _ => true
  | .int _ => true
  | .str _ => true
  | _ => false
noncomputable def eqV : V -> V -> Bool
  | .non, .non => true
  | .bl a, .bl b => a == b
  | .bl a, .int b => (if a then 1 else 0) == b
  | .int a, .bl b => a == (if b then 1 else 0)
  | .int a, .int b => a == b
  | .str a, .str b => a == b
  | _, _ => false
theorem z0m {A : Around} {s : Shared} {y x : V} {u v : Value} (ry : zam y u) (rx : zam x v) (fy : zkx y = true) (fx : zkx x = true) : SeqAt.EqAt A s u v (eqV y x) := by
  cases y with
  | non =>
    cases ry
    cases x with
    | non => cases rx; exact SeqAt.EqAt.same _
    | bl b => cases rx; exact SeqAt.EqAt.none_bool b
    | int b => obtain ⟨t, rfl⟩ := rx; exact SeqAt.EqAt.none_int b t
    | str b => obtain ⟨t, rfl⟩ := rx; exact SeqAt.EqAt.none_str b t
    | _ => exact absurd (show false = true from fx) Bool.false_ne_true
  | bl a =>
    cases ry
    cases x with
    | non => cases rx; exact SeqAt.EqAt.bool_none a
    | bl b => cases rx; exact SeqAt.EqAt.bool_bool a b
    | int b => obtain ⟨t, rfl⟩ := rx; exact SeqAt.EqAt.bool_int a b t
    | str b => obtain ⟨t, rfl⟩ := rx; exact SeqAt.EqAt.bool_str a b t
    | _ => exact absurd (show false = true from fx) Bool.false_ne_true
  | int a =>
    obtain ⟨t', rfl⟩ := ry
    cases x with
    | non => cases rx; exact SeqAt.EqAt.int_none a t'
    | bl b => cases rx; exact SeqAt.EqAt.int_bool a t' b
    | int b => obtain ⟨t, rfl⟩ := rx; exact SeqAt.EqAt.int_int a t' b t
    | str b => obtain ⟨t, rfl⟩ := rx; exact SeqAt.EqAt.int_str a t' b t
    | _ => exact absurd (show false = true from fx) Bool.false_ne_true
  | str a =>
    obtain ⟨t', rfl⟩ := ry
    cases x with
    | non => cases rx; exact SeqAt.EqAt.str_none a t'
    | bl b => cases rx; exact SeqAt.EqAt.str_bool a t' b
    | int b => obtain ⟨t, rfl⟩ := rx; exact SeqAt.EqAt.str_int a t' b t
    | str b => obtain ⟨t, rfl⟩ := rx; exact SeqAt.EqAt.str_str a t' b t
    | _ => exact absurd (show false = true from fx) Bool.false_ne_true
  | _ => exact absurd (show false = true from fy) Bool.false_ne_true
theorem z47 : zcw X (.builtin "len") (fun xs H Q => ∃ p ys, xs = [.ref p] /\ (SqL X.K H p ys \/ SqT X.K H p ys) /\ Q (.int ys.length) H) := by
  intro pins s σ H xs us Q I r h
  obtain ⟨p, ys, rfl, hq, q⟩ := h
  obtain ⟨u, rfl, rx⟩ := zg9 r
  cases rx
  have hn := zgy
  rcases hq with hq | hq
  · obtain ⟨its, r', pl, hz⟩ := I.list hq
    have hlen := r'.length
    exact Calls.call_len_list pl.isList (by simp only [List.size_toArray] <;> omega) ⟨.int ys.length, H, I.tok _, ⟨s.toks + 1, by rw [List.size_toArray, hlen]⟩, q⟩
  · obtain ⟨its, r', pl, hz⟩ := I.tuple hq
    have hlen := r'.length
    exact len_tuple pl (by simp only [List.size_toArray] <;> omega) ⟨.int ys.length, H, I.tok _, ⟨s.toks + 1, by rw [List.size_toArray, hlen]⟩, q⟩
theorem zyr : zcw X (.builtin "len") (fun xs H Q => ∃ z, xs = [.str z] /\ z.length <= sizeLine /\ Q (.int z.length) H) := by
  intro pins s σ H xs us Q I r h
  obtain ⟨z, rfl, hz, q⟩ := h
  obtain ⟨u, rfl, t, rfl⟩ := zg9 r
  have hn := zgy
  exact len_str (by omega) ⟨.int z.length, H, I.tok _, ⟨_, rfl⟩, q⟩
theorem zcw.or {f : Value} {r r' : List V -> Hp -> VK -> Prop} (h : zcw X f r) (h' : zcw X f r') : zcw X f (fun xs H Q => r xs H Q \/ r' xs H Q) := by
  intro pins s σ H xs us Q I rs q
  rcases q with q | q
  · exact h pins s σ H xs us Q I rs q
  · exact h' pins s σ H xs us Q I rs q
theorem zzu : zcw X (.type "list") (fun xs H Q => ∃ p ys, xs = [.ref p] /\ (SqL X.K H p ys \/ SqT X.K H p ys) /\ ∀ l, H l = none -> Q (.ref l) (upd H l (.lst ys))) := by
  intro pins s σ H xs us Q I r h
  obtain ⟨p, ys, rfl, hq, q⟩ := h
  obtain ⟨u, rfl, rx⟩ := zg9 r
  cases rx
  have fin : ∀ (its : List Value), zaj ys its -> ys.length <= sizeLine -> ∀ (h' : Heap) (c' : Nat), (∀ b o', s.heap.get? b = some o' -> h'.get? b = some o') ->
      h'.get? s.heap.objs.size = some { cls := .type "list", dict := none, data := .seq its.toArray c', slots := #[] } -> EP X pins σ Q (.ref s.heap.objs.size) { s with heap := h' } := fun its r' hz h' c' kp e =>
    ⟨.ref s.heap.objs.size, _, I.laid (t' := s.toks) kp (Nat.le_refl _) (show zb2 X.prog X.w _ h' _ (.lst ys) from ⟨hz, its, c', r', e⟩), rfl, q _ (I.hok.fresh (Nat.le_refl _))⟩
  rcases hq with hq | hq
  · obtain ⟨its, r', pl, hz⟩ := I.list hq
    have hlen := r'.length
    obtain ⟨o, ho, hc, n, hd⟩ := pl.isList
    exact call_list_seq p (.inl rfl) ho hc hd (fun h' c' kp e => fin its r' hz h' c' kp e) (by simp only [List.size_toArray] <;> omega)
  · obtain ⟨its, r', pl, hz⟩ := I.tuple hq
    have hlen := r'.length
    obtain ⟨o, ho, hc, n, hd⟩ := pl
    exact call_list_seq p (.inr rfl) ho hc hd (fun h' c' kp e => fin its r' hz h' c' kp e) (by simp only [List.size_toArray] <;> omega)
noncomputable def tyV (K : PySem.W.Frag) (T : String) (x : V) (H : Hp) : Prop := match x with
  | .str _ => T = "str"
  | .int _ => T = "int"
  | .ref p => (T = "list" /\ ∃ xs, SqL K H p xs) \/ (T = "tuple" /\ ∃ o, K.lookup p = some o /\ o.cls = .type "tuple" /\ o.dict = none) \/
      (T = "dict" /\ ((∃ kvs, H p = some (.dK kvs)) \/ ∃ kvs, H p = some (.dT kvs))) \/ (T = "set" /\ ∃ S n, H p = some (.set S n))
  | _ => False
theorem zvd {pins : List (Addr × Obj)} {σ : St} {H : Hp} {s : Shared} {T : String} {x : V} {v : Value} (I : Inv X pins σ H s) (r : zam x v) (ty : tyV X.K T x H) :
    s.TypeIs v T /\ ∀ a, v = .ref a -> ∃ ob, s.heap.get? a = some ob /\ ob.dict = none := by
  cases x with
  | str z =>
    obtain ⟨t, rfl⟩ := r
    cases (show T = "str" from ty)
    exact ⟨typeIs_str s z t, fun _ e => nomatch e⟩
  | int i =>
    obtain ⟨t, rfl⟩ := r
    cases (show T = "int" from ty)
    exact ⟨typeIs_int s i t, fun _ e => nomatch e⟩
  | ref p =>
    cases r
    rcases ty with ⟨rfl, xs, hq⟩ | ⟨rfl, o, hk, hc, hd⟩ | ⟨rfl, hk⟩ | ⟨rfl, S, n, hk⟩
    · obtain ⟨its, _, pl, _⟩ := I.list hq
      refine ⟨pl.isList.typeIs, fun a e => ?_⟩
      cases e
      obtain ⟨o, n, e, c, hd, _⟩ := pl
      exact ⟨o, e, hd⟩
    · refine ⟨⟨o, I.kIn p o hk, hc⟩, fun a e => ?_⟩
      cases e
      exact ⟨o, I.kIn _ o hk, hd⟩
    · have z : ∃ o, s.heap.get? p = some o /\ o.ExactDict := by
        rcases hk with ⟨kvs, hk⟩ | ⟨kvs, hk⟩
        · obtain ⟨_, _, _, _, o, _, _, e, ex, _⟩ := I.hok p _ hk
          exact ⟨o, e, ex⟩
        · obtain ⟨_, _, _, _, o, _, _, e, ex, _⟩ := I.hok p _ hk
          exact ⟨o, e, ex⟩
      obtain ⟨o, e, ex⟩ := z
      refine ⟨⟨o, e, ex.1⟩, fun a e2 => ?_⟩
      cases e2
      exact ⟨o, e, ex.2.1⟩
    · obtain ⟨o, _, _, _, e, ex, _⟩ := I.hok p _ hk
      refine ⟨⟨o, e, ex.1⟩, fun a e2 => ?_⟩
      cases e2
      exact ⟨o, e, ex.2.1⟩
  | _ => exact False.elim ty
noncomputable def tBM (K : PySem.W.Frag) (T : String) (r : V -> List V -> Hp -> VK -> Prop) (to : TE) (t : TA) : TE := fun σ H Q => to σ H fun x H1 => tyV K T x H1 /\ t σ H1 fun xs H2 => r x xs H2 Q
variable {o e : Expr} {es : List Expr} {to : TE} {t : TA} {name : Str} {apos cpos : Pos} {T id : String} {r : V -> List V -> Hp -> VK -> Prop}
theorem zgk (pa : PlainAttrs T) (slot : Slot T name id) (hty : typeOf (.builtin id) = pure (.type "method_descriptor")) (hm : MtR X id r) (ho : PE X o to) (ha : PA X (e :: es) t)
    (hbase : attributeBase o name X.env (eval o X.env) = eval o X.env := by rfl)
    (hfew : ((backTo cpos (starEach (e :: es) X.env)).all (fun x => !x.1) && (backToKw cpos (keywordEach [] X.env)).all (fun x => x.1.isSome)
      && decide ((e :: es).length + ([] : List Keyword).length + (if ([] : List Keyword).isEmpty then 0 else 1) < 30)) = true := by rfl)
    (hline : (apos.endLine == cpos.line) = true := by rfl) (hs : starEach (e :: es) X.env = (false, eval e X.env) :: starEach es X.env := by rfl) (hplain : (backTo cpos (starEach es X.env)).any (·.1) = false := by rfl) :
    PE X (.Call (.Attribute o name apos) (e :: es) [] cpos) (tBM X.K T r to t) := by
  intro pins s σ H Q I h
  refine wpAny_Call_method_late hbase hfew hline rfl (thn (ho pins s σ H _ I h) fun v s1 ⟨x, H1, I1, r1, ty, q1⟩ => ?_)
  obtain ⟨h1, h2⟩ := zvd I1 r1 ty
  refine ⟨T, id, pa, slot, hty, h1, h2, ?_⟩
  have hA := ha cpos pins s1 σ H1 _ I1 q1
  rw [hs] at hA ⊢
  refine Calls.callWith_builtin (by show (false || (backTo cpos (starEach es X.env)).any (·.1)) = false; rw [hplain] <;> rfl) (Calls.evalArgs_plain ?_)
  exact thn hA fun us s2 ⟨vs, H2, I2, r2, q2⟩ => hm pins s2 σ H2 x vs v us Q I2 r1 r2 q2
end
end L2
namespace L2
open PySem PySem.Spec PyProof.Rows
noncomputable def MtM (X : Cx) (id : String) (r : V -> List V -> Hp -> VK -> Prop) : Prop :=
  ∀ (pins : List (Addr × Obj)) (s : Shared) (σ : St) (H : Hp) (x : V) (xs : List V) (v : Value) (us : List Value) (Q : VK), Inv X pins σ H s -> zam x v -> zaj xs us -> r x xs H Q ->
    wpAny (model X.prog X.w) X.A (call (.builtin id) (v :: us)) (EP X pins σ Q) X.xe s
theorem zaj.one : ∀ {x : V} {us : List Value}, zaj [x] us -> ∃ u, us = [u] /\ zam x u
  | _, _, .cons r .nil => ⟨_, rfl, r⟩
theorem zaj.two : ∀ {x y : V} {us : List Value}, zaj [x, y] us -> ∃ u v, us = [u, v] /\ zam x u /\ zam y v
  | _, _, _, .cons r (.cons q .nil) => ⟨_, _, rfl, r, q⟩
theorem zaj.zero : ∀ {us : List Value}, zaj [] us -> us = []
  | _, .nil => rfl
theorem zaj.eraseIdx : ∀ {xs : List V} {us : List Value} (i : Nat), zaj xs us -> zaj (xs.eraseIdx i) (us.eraseIdx i)
  | _, _, _, .nil => .nil
  | _, _, 0, .cons _ t => t
  | _, _, i + 1, .cons r t => .cons r (zaj.eraseIdx i t)
theorem zaj.rep {xs : List V} {us : List Value} (h : zaj xs us) : ∀ k : Nat, zaj (List.replicate k xs).flatten (List.replicate k us).flatten
  | 0 => .nil
  | k + 1 => by
    rw [List.replicate_succ, List.replicate_succ, List.flatten_cons, List.flatten_cons]
    exact zaj.append h (zaj.rep h k)
section
variable {X : Cx} {pins : List (Addr × Obj)} {σ : St} {H : Hp} {s : Shared} {l b : Addr} {xs ys zs : List V}
theorem Inv.lset {its its' : List Value} {n : Nat} {f : Array Value -> Array Value} {t' : Nat} (I : Inv X pins σ H s) (hH : H l = some (.lst xs))
    (e : s.heap.get? l = some { cls := .type "list", data := .seq its.toArray n }) (hf : f its.toArray = its'.toArray) (hv : zaj ys its') (hz : ys.length <= sizeLine) :
    Inv X pins σ (upd H l (.lst ys)) { s with heap := s.heap.update l (Obj.mapSeq f), toks := t' } := by
  have q := PySem.IsL.update e f
  rw [hf] at q
  refine I.write (x := l) (e := l) (by rw [hH]; exact trivial) (.inl rfl) (fun b' u hb hu => (Heap.get?_update_other s.heap (Obj.mapSeq f) (Ne.symm hb)).trans hu) ⟨_, q⟩ ?_
  exact ⟨hz, its', _, hv, q⟩
theorem Inv.lnew {its : List Value} {t' : Nat} (I : Inv X pins σ H s) (hv : zaj ys its) (hz : ys.length <= sizeLine) :
    Inv X pins σ (upd H s.heap.objs.size (.lst ys)) { s with heap := s.heap.push { cls := .type "list", data := .seq its.toArray }, toks := t' } :=
  I.laid (fun _ _ q => Heap.get?_push_of_some _ q) (Nat.le_refl _) ⟨hz, its, 0, hv, Heap.get?_push_size _ rfl⟩
theorem Inv.fresh (I : Inv X pins σ H s) : H s.heap.objs.size = none := I.hok.fresh (Nat.le_refl _)
theorem Inv.lstM (I : Inv X pins σ H s) (hH : H l = some (.lst xs)) : xs.length <= sizeLine /\ ∃ (its : List Value) (n : Nat), zaj xs its /\ xs.length = its.length /\ s.heap.get? l = some { cls := .type "list", data := .seq its.toArray n } := by
  obtain ⟨z, its, n, r, e⟩ := I.hok l _ hH
  exact ⟨z, its, n, r, r.length, e⟩
theorem zy1 {n : Nat} (h : n <= sizeLine) : Builtin.List.listTooLong n = false := by
  unfold Builtin.List.listTooLong
  exact decide_eq_false (by omega)
end
section
variable {X : Cx}
noncomputable def zqg : V -> List V -> Hp -> VK -> Prop := fun x vs H Q => ∃ l xs y, x = .ref l /\ vs = [y] /\ H l = some (.lst xs) /\ xs.length < sizeLine /\ Q .non (upd H l (.lst (xs ++ [y])))
theorem zij : MtM X "list.append" zqg := by
  intro pins s σ H x vs v us Q I rx rv h
  obtain ⟨l, xs, y, rfl, rfl, hH, hz, q⟩ := h
  cases rx
  obtain ⟨u, rfl, ru⟩ := rv.one
  obtain ⟨z, its, n, r, hl, e⟩ := I.lstM hH
  refine call_meets F.slot_list_append ⟨_, e, rfl⟩ F.entry_list_append (F.args_list_append_2 _ _) (PySem.list_append l its.toArray n u (by rw [List.size_toArray]; omega)) ⟨e, ?_⟩
  refine ⟨.non, _, I.lset (its' := its ++ [u]) hH e (by simp) (r.append (.cons ru .nil)) ?_, rfl, q⟩
  rw [List.length_append, List.length_singleton]
  omega
noncomputable def zp4 : V -> List V -> Hp -> VK -> Prop := fun x vs H Q => ∃ l b xs zs, x = .ref l /\ vs = [.ref b] /\ H l = some (.lst xs) /\ H b = some (.lst zs) /\ xs.length + zs.length <= sizeLine /\ Q .non (upd H l (.lst (xs ++ zs)))
theorem zt6 : MtM X "list.extend" zp4 := by
  intro pins s σ H x vs v us Q I rx rv h
  obtain ⟨l, b, xs, zs, rfl, rfl, hH, hB, hz, q⟩ := h
  cases rx
  obtain ⟨u, rfl, ru⟩ := rv.one
  cases ru
  obtain ⟨z, its, n, r, hl, e⟩ := I.lstM hH
  obtain ⟨z2, its2, n2, r2, hl2, e2⟩ := I.lstM hB
  have hsz : its.toArray.size + its2.toArray.size <= sizeLine := by rw [List.size_toArray, List.size_toArray]; omega
  have hlong : ¬ (!its.toArray.isEmpty && Builtin.List.listTooLong (its.toArray.size + its2.toArray.size)) = true := by
    rw [zy1 hsz, Bool.and_false]
    exact Bool.false_ne_true
  refine call_meets F.slot_list_extend ⟨_, e, rfl⟩ F.entry_list_extend (F.args_list_extend_2 _ _)
    (AutoSeq1.list_extend_list_list_0 l its.toArray n b its2.toArray n2 hlong (by rw [List.size_toArray]; omega) (by omega)) ⟨e, e2, ?_⟩
  refine ⟨.non, _, I.lset (its' := its ++ its2) hH e (by simp) (r.append r2) ?_, rfl, q⟩
  rw [List.length_append]
  omega
noncomputable def z2j : R2 := fun x y H Q => ∃ l b xs zs, x = .ref l /\ y = .ref b /\ H l = some (.lst xs) /\ H b = some (.lst zs) /\ xs.length + zs.length <= sizeLine /\ ∀ p, H p = none -> Q (.ref p) (upd H p (.lst (xs ++ zs)))
theorem zpr : OpR X (binaryOp .Add) z2j := by
  intro pins s σ H x y v u Q I rx ry h
  obtain ⟨l, b, xs, zs, rfl, rfl, hH, hB, hz, q⟩ := h
  cases rx
  cases ry
  obtain ⟨z, its, n, r, hl, e⟩ := I.lstM hH
  obtain ⟨z2, its2, n2, r2, hl2, e2⟩ := I.lstM hB
  refine PySem.P.add_list e e2 ?_ (by rw [List.size_toArray, List.size_toArray]; omega)
  have ea : its.toArray ++ its2.toArray = (its ++ its2).toArray := by simp
  rw [ea]
  exact ⟨.ref _, _, I.lnew (t' := s.toks) (r.append r2) (by rw [List.length_append]; omega), rfl, q _ I.fresh⟩
end
section
variable {prog : Program} {w : World} {A : Around} {E : Value -> Shared -> Prop} {s : Shared}
set_option maxRecDepth 100000 in
end
section
variable {X : Cx}
end
end L2
namespace Att
open PySem PySem.W PySem.Calls PyProof.Rows
theorem zu2 {P : Params} {h : Heap} : ∀ (ns : List Int) (vs : List Value), WellAll P h vs (ns.map WData.int) -> IntsAre vs ns := by
  intro ns
  induction ns with
  | nil =>
    intro vs w
    rw [List.map_nil] at w
    cases w
    exact .nil
  | cons n ns ih =>
    intro vs w
    rw [List.map_cons] at w
    cases w with
    | cons a b =>
      cases a
      exact .cons _ _ (ih _ b)
theorem z1p {l : OpenLaw} {n : Nat} (hn : l.most = some n) {P : Params} {h : Heap} {args : List WData} {vals : List Value}
    (hpre : l.row.toRowW.claim.pre args = true) (hwl : WellAll P h vals args) :
    ∃ a vs ns, vals = [Value.ref a] /\ args = [WData.list (ns.map WData.int)] /\ h.get? a = some { cls := .type "list", data := .seq vs.toArray } /\ IntsAre vs ns /\ ns.length <= n := by
  have hsh : WShape.hasAll [] args [.list .int] = true := (pre_splitW hpre).1
  have hc : l.pre.holds [] { args := args } = true := (pre_splitW hpre).2
  obtain ⟨d, r, rfl, h1, h2⟩ := hasAllW_cons hsh
  obtain rfl := hasAllW_nil h2
  obtain ⟨xs, rfl, h3⟩ := hasW_list h1
  obtain ⟨ns, rfl⟩ := items_int h3
  have hlen : ns.length <= n := by
    unfold OpenLaw.pre at hc
    have h4 : (WTm.not (.lt (.lit (.int (n : Int))) (.len (.arg 0)))).holds [] { args := [.list (ns.map .int)] } = true := by
      have h4 := (holds_andW hc).1
      rw [hn] at h4
      exact h4
    have h5 := condW_of h4 (w_not (w_lt w_lit (w_len_list (w_arg rfl))))
    rw [List.length_map] at h5
    refine Nat.le_of_not_lt fun q => ?_
    have q' : (n : Int) < ((ns.length : Nat) : Int) := by omega
    first
      | (rw [decide_eq_true q'] at h5; exact absurd h5 (by decide))
      | (simp at h5; omega)
  cases hwl with
  | cons w1 w2 =>
    cases w2
    cases w1 with
    | list ho hall => exact ⟨_, _, ns, rfl, rfl, ho, zu2 ns _ hall, hlen⟩
theorem zua (l : OpenLaw) (args : List WData) : l.row.toRowW.claim.post args (.bool true) args = true :=
  postW_of (r := l.row.toRowW) (X := (true == true))
    (show WShape.has [] (.bool true) .bool = true by first | rfl | decide | simp [WShape.has, WShape.arms, WShape.armsAll])
    (show (WTm.eq .res (.lit (.bool true))).value [] { args := args, res := some (.bool true), after := args } = some (.bool (true == true)) from w_eq_bool (w_res rfl) w_lit) rfl
theorem attach_call {l : OpenLaw} {n : Nat} {q : Program} {loose : List Str} {XP : (Str -> Option Value) -> Heap -> Prop} {YP : World -> Heap -> Prop} {d : DefRec}
    (hn : l.most = some n) (hdf : d.params.defaults = [])
    (call : ∀ (w : World) (s₀ s₁ : Shared) (mg mb : Str -> Option Value) (fa : Addr) (o : Obj) (pm cd doc : Value) (a : Addr) (vs : List Value) (ns : List Int),
      Ground q loose [] XP w s₀ mg mb s₁.heap -> YP w s₁.heap ->
      s₁.heap.get? fa = some o -> o.data = .func (docDef d.name d.params d.body d.scope pm cd doc) -> s₁.heap.CodeRec cd d.name -> mg d.name = some (.ref fa) ->
      s₁.heap.get? a = some { cls := .type "list", data := .seq vs.toArray } -> IntsAre vs ns -> ns.length <= n -> s₁.gens = #[] ->
      codeAny (model l.prog w) callerA (.call (.ref fa) ⟨[.ref a], []⟩) (fun r s' => r = .ok (.ret (.bool true)) /\ OldK s₁.heap s'.heap /\ s'.os = s₁.os /\ AllBare s'.gens) s₁) :
    WalkO q loose XP YP l.row.toRowW d [] (fun f vs => PySem.call f vs) := by
  intro w s₀ s₁ mg mb G Y fa o pm cd doc dV kV ho hd hcd hD hmg hg args vals as hpre hlay hrd hwl hlo
  obtain rfl : dV = .none := Dflts.none hD hdf
  obtain rfl : kV = .none := Dflts.noKw hD
  obtain ⟨a, vs, ns, rfl, rfl, hobj, hints, hlen⟩ := z1p hn hpre hwl
  refine enter_call (codeAny_mono (call w s₀ s₁ mg mb fa o pm cd doc a vs ns G Y ho (fd_plain hd) hcd hmg hobj hints hlen hg) fun r s' hq => ?_)
  obtain ⟨rfl, h2, h3, h4⟩ := hq
  exact ⟨.inl ⟨.bool true, .bool true, [], rfl, fun _ => rfl, .bool true, zua l _, fun _ => ⟨List.Pairwise.nil, fun _ hm => (nomatch hm)⟩⟩, h2, h3, h4⟩
section
variable {prog : Program} {w : World} {A : Around} {E : Value -> Shared -> Prop} {s : Shared} {K : Frag}
end
end Att
namespace L2
open PySem PySem.Spec PyProof.Rows
theorem zph : ∀ {vs : List Value} {ns : List Int}, IntsAre vs ns -> zaj (ns.map V.int) vs
  | _, _, .nil => .nil
  | _, _, .cons n t h => .cons ⟨t, rfl⟩ (zph h)
noncomputable def zkq (H : Hp) : Prop := ∀ b, H b = none \/ ∃ o xs, H b = some (.frz o (.lst xs))
theorem z39 {P : Program} {w : World} {K : PySem.W.Frag} {mg mb : Str -> Option Value} {CX : CXT} {k : Nat} {fa a : Addr} {fd : FuncData} {x : Str} {sp : Sp} {s₁ : Shared} {vs : List Value} {ns : List Int}
    (KX : K.In s₁.heap) (hns : s₁.heap.Ns mainGlobals mg) (hb : s₁.heap.Ns builtinsNs mb) (hbb : ∀ x : Str, x ≠ "__name__" -> mb x = bootBuiltins x) (hlim : s₁.heap.NoLimit) (hg : s₁.gens = #[])
    (ha : s₁.heap.get? a = some { cls := .type "list", data := .seq vs.toArray }) (hi : IntsAre vs ns) (hl : ns.length <= sizeLine) (hr : zbm k callerA)
    (F : ∀ base : Heap, K.In base -> base.Ns mainGlobals mg -> zau P w K mg base CX k fa fd [x] sp) (hbind : ∀ (s : Shared) (u : Value), BindsTo s fd ⟨[u], []⟩ [(x, u)])
    (hsp : ∀ H : Hp, zkq H -> SqL K H a (ns.map V.int) -> sp [.ref a] H (fun v _ => v = .bl true) fun _ _ _ => False)
    (hCX : ∀ H e s', CX [] H s₁ (fun _ _ _ => False) e s' -> False) :
    codeAny (model P w) callerA (.call (.ref fa) ⟨[.ref a], []⟩) (fun r s' => r = .ok (.ret (.bool true)) /\ OldK s₁.heap s'.heap /\ s'.os = s₁.os /\ AllBare s'.gens) s₁ := by
  have rv := zph hi
  have lenV := hi.length
  have core : ∀ H : Hp, zkq H -> SqL K H a (ns.map V.int) -> HOk P w H s₁.heap -> (∀ b, H b ≠ none -> b = a) -> (H a ≠ none -> K.lookup a = none) ->
      codeAny (model P w) callerA (.call (.ref fa) ⟨[.ref a], []⟩) (fun r s' => r = .ok (.ret (.bool true)) /\ OldK s₁.heap s'.heap /\ s'.os = s₁.os /\ AllBare s'.gens) s₁ := by
    intro H hO hS hok hA hK
    have base_of : ∀ {b : Addr} {o : Obj}, s₁.heap.get? b = some o -> H b = none -> (zfd s₁.heap H).get? b = some o := fun e n => z3x e n
    have noA : ∀ {b : Addr} {o : Obj} {es : Array DictEntry} {ep : Nat}, s₁.heap.get? b = some o -> o.data = .dict es ep -> H b = none := fun {b o es ep} e d => by
      cases q : H b with
      | none => rfl
      | some u =>
        have e' : b = a := hA b (by rw [q]; simp)
        subst e'
        rw [ha] at e; cases e
        have d' : Data.seq vs.toArray _ = Data.dict es ep := d
        cases d'
    have nsK : ∀ {b : Addr} {m : Str -> Option Value}, s₁.heap.Ns b m -> (zfd s₁.heap H).Ns b m := fun {b m} ⟨o, es, ep, e, d, r⟩ => ⟨o, es, ep, base_of e (noA e d), d, r⟩
    have hKb : K.In (zfd s₁.heap H) := fun b o e => base_of (KX b o e) (by
      cases q : H b with
      | none => rfl
      | some u =>
        have e' : b = a := hA b (by rw [q]; simp)
        subst e'
        rw [hK (by rw [q]; simp)] at e; cases e)
    have hM : Mod K mg (zfd s₁.heap H) := ⟨hKb, nsK hns, ⟨mb, nsK hb, hbb⟩, let ⟨mc, h1, h2⟩ := hlim; ⟨mc, nsK h1, h2⟩⟩
    have e0 : zeu P w K mg (zfd s₁.heap H) callerA [] s₁ H := ⟨rfl, hM, fun b o e => z3r e, Nat.le_of_eq (z5f _ _), trivial, fun b hb => absurd (show b ∈ ([] : List Addr) from hb) (by simp), hok, .of_eq hg⟩
    refine codeAny_mono ((F _ hKb (nsK hns)).run callerA [] s₁ H ⟨[.ref a], []⟩ [.ref a] [.ref a] _ _ hr e0 (hbind s₁ (.ref a)) (.cons rfl .nil) (hsp H hO hS)) fun r s' h => ?_
    cases r with
    | error e => exact (hCX H e s' h).elim
    | ok fl =>
      cases fl with
      | next => exact False.elim h
      | brk => exact False.elim h
      | cont => exact False.elim h
      | ret u =>
        obtain ⟨v, H', os, bare, un, hok', r', q⟩ := h
        have q' : v = .bl true := q
        subst q'
        obtain rfl : u = Value.bool true := r'
        refine ⟨rfl, OldK.of_keep fun b o e => ?_, os, bare⟩
        cases q : H b with
        | none => exact un.keep b o e q (by intro z; exact absurd (show b ∈ ([] : List Addr) from z) (by simp)) (by simp)
        | some u =>
          rcases hO b with z | ⟨ob, xs, z⟩
          · rw [q] at z; cases z
          · have z2 := un.frzs b ob _ z
            obtain ⟨e1, _⟩ := hok b _ z
            obtain ⟨e2, _⟩ := hok' b _ z2
            rw [e] at e1; cases e1
            exact e2
  cases hk : K.lookup a with
  | some o =>
    have e := KX a o hk
    rw [ha] at e
    cases e
    refine core (fun _ => none) (fun _ => .inl rfl) (.inr ⟨_, vs.toArray, _, hk, rfl, rfl, rfl, by rw [List.size_toArray, lenV]; exact hl, by simpa using rv⟩) (fun b u z => by have z' : (none : Option HO) = some u := z; cases z') (fun b z => absurd rfl z) fun z => absurd rfl z
  | none =>
    refine core (fun b => if b = a then some (.frz { cls := .type "list", data := .seq vs.toArray } (.lst (ns.map V.int))) else none) (fun b => ?_) (.inl (.inr ⟨{ cls := .type "list", data := .seq vs.toArray }, if_pos rfl⟩)) (fun b u z => ?_) (fun b z => ?_) fun _ => hk
    · by_cases hb : b = a
      · exact .inr ⟨_, _, if_pos hb⟩
      · exact .inl (if_neg hb)
    · by_cases hb : b = a
      · have z' := (if_pos hb).symm.trans z
        cases z'
        subst hb
        exact ⟨ha, by rw [List.length_map]; exact hl, vs, _, rv, ha⟩
      · have z' := (if_neg hb).symm.trans z
        cases z'
    · by_cases hb : b = a
      · exact hb
      · exact absurd (if_neg hb) z
end L2
namespace L2
open PySem PySem.Spec PyProof.Rows
noncomputable abbrev KOf {K : PySem.W.Frag} {h : Heap} (_ : K.In h) : PySem.W.Frag := K
theorem zvz {l : PySem.W.OpenLaw} {n k : Nat} {q : Program} {loose : List Str} {XP : (Str -> Option Value) -> Heap -> Prop} {YP : World -> Heap -> Prop} {d : DefRec} {K : Params -> PySem.W.Frag} {CX : World -> CXT} {sp : World -> Sp} {x : Str}
    (hn : l.most = some n) (hn2 : n <= sizeLine) (hdf : d.params.defaults = []) (hr : zbm k callerA)
    (hY : ∀ (w : World) (h : Heap), YP w h -> (K w.params).In h)
    (F : ∀ (w : World) (mg : Str -> Option Value) (fa : Addr) (h : Heap), (K w.params).In h -> h.Ns mainGlobals mg -> mg d.name = some (.ref fa) ->
      ∃ fd : FuncData, (∀ (s : Shared) (u : Value), BindsTo s fd ⟨[u], []⟩ [(x, u)]) /\
        ∀ base : Heap, (K w.params).In base -> base.Ns mainGlobals mg -> zau l.prog w (K w.params) mg base (CX w) k fa fd [x] (sp w))
    (hsp : ∀ (w : World) (H : Hp) (a : Addr) (ns : List Int), ns.length <= n -> zkq H -> SqL (K w.params) H a (ns.map V.int) -> sp w [.ref a] H (fun v _ => v = .bl true) fun _ _ _ => False)
    (hCX : ∀ (w : World) (H : Hp) (s : Shared) (e : Value) (s' : Shared), CX w [] H s (fun _ _ _ => False) e s' -> False) :
    PySem.W.WalkO q loose XP YP l.row.toRowW d [] (fun f vs => PySem.call f vs) := by
  refine Att.attach_call hn hdf fun w s₀ s₁ mg mb fa o pm cd doc a vs ns G Y ho hd hcd hmg hobj hints hlen hg => ?_
  have KX := hY w _ Y
  obtain ⟨fd, hb, hF⟩ := F w mg fa _ KX G.T.g hmg
  exact z39 KX G.T.g G.T.b G.T.builtins G.T.nolimit hg hobj hints (Nat.le_trans hlen hn2) hr hF hb (fun H hO hS => hsp w H a ns hlen hO hS) fun H e s' => hCX w H s₁ e s'
theorem walk_ofK {l : PySem.W.OpenLaw} {n k : Nat} {q : Program} {loose : List Str} {XP : (Str -> Option Value) -> Heap -> Prop} {YP : World -> Heap -> Prop} {d : DefRec} {K : Params -> PySem.W.Frag} {CX : CXT} {sp : PySem.W.Frag -> Sp} {x : Str}
    (hn : l.most = some n) (hn2 : n <= sizeLine) (hdf : d.params.defaults = []) (hr : zbm k callerA)
    (hY : ∀ (w : World) (h : Heap), YP w h -> (K w.params).In h)
    (F : ∀ (w : World) (mg : Str -> Option Value) (fa : Addr) (h : Heap), (K w.params).In h -> h.Ns mainGlobals mg -> mg d.name = some (.ref fa) ->
      ∃ fd : FuncData, (∀ (s : Shared) (u : Value), BindsTo s fd ⟨[u], []⟩ [(x, u)]) /\
        ∀ base : Heap, (K w.params).In base -> base.Ns mainGlobals mg -> zau l.prog w (K w.params) mg base CX k fa fd [x] (sp (K w.params)))
    (hsp : ∀ (K : PySem.W.Frag) (H : Hp) (a : Addr) (ns : List Int), ns.length <= n -> zkq H -> SqL K H a (ns.map V.int) -> sp K [.ref a] H (fun v _ => v = .bl true) fun _ _ _ => False)
    (hCX : ∀ (H : Hp) (s : Shared) (e : Value) (s' : Shared), CX [] H s (fun _ _ _ => False) e s' -> False) :
    PySem.W.WalkO q loose XP YP l.row.toRowW d [] (fun f vs => PySem.call f vs) :=
  zvz (K := K) (CX := fun _ => CX) (sp := fun w => sp (K w.params)) hn hn2 hdf hr hY F (fun w H a ns h1 h2 h3 => hsp (K w.params) H a ns h1 h2 h3) fun _ H s e s' => hCX H s e s'
end L2
namespace L2
open PySem PySem.Spec PyProof.Rows
noncomputable def zdx (s : Stmt) (j : Nat) : Stmt := match s with
  | .ClassDef _ _ _ body _ _ _ _ _ _ _ => body.getD j (.Pass ⟨0, 0, 0, 0⟩)
  | _ => .Pass ⟨0, 0, 0, 0⟩
noncomputable def zba (s : Stmt) : Arguments := match s with
  | .FunctionDef _ a _ _ _ _ _ _ _ _ => a
  | _ => { posonlyargs := [], args := [], vararg := none, kwonlyargs := [], kw_defaults := [], kwarg := none, defaults := [] }
noncomputable def za4 (s : Stmt) : List Stmt := match s with
  | .FunctionDef _ _ b _ _ _ _ _ _ _ => b
  | _ => []
noncomputable def zak (s : Stmt) : Scope := match s with
  | .FunctionDef _ _ _ _ _ _ sc _ _ _ => sc
  | _ => { kind := .function, names := [], isGenerator := false, isCoroutine := false }
noncomputable abbrev CX0 : CXT := fun _ _ _ _ _ _ => False
noncomputable abbrev E0 : XK := fun _ _ _ => False
theorem zkp {X : Cx} : zic CX0 X E0 := fun _ _ _ _ _ _ _ h => h.elim
structure Fun (K : PySem.W.Frag) (x qual : Str) (st : Stmt) (f : Addr) (fd : FuncData) : Prop where
  ex : ∃ (oc : Value) (od : Option Addr) (kV doc pm : Value) (an : Option Addr) (cdv ct : Value) (osl : Array (Option Value)),
    fd = PySem.W.fnOf x qual (zba st) (za4 st) (zak st) .none kV doc pm an cdv ct /\ K.lookup f = some ⟨oc, od, .func fd, osl⟩ /\ PySem.W.codeIn K cdv qual = true
  kp : PySem.W.keepIn K (.ref f) = true
section
variable {P : Program} {w : World} {K : PySem.W.Frag} {mg : Str -> Option Value} {base : Heap}
theorem Fun.ok {x qual : Str} {st : Stmt} {f : Addr} {fd : FuncData} {N ps : List Str} {k : Nat} {sp : Sp} (F : Fun K x qual st f fd) (S : za7 N ps (zak st)) (len : ∀ vs H Q E, sp vs H Q E -> vs.length = ps.length)
    (hbody : ∀ (cdv : Value) (A : Around) (outer : List Env) (s : Shared) (H : Hp) (vs : List V) (Q : VK) (E : XK), zbm k (A.deeper (envOfC qual (zak st) s.heap.objs.size f cdv)) -> sp vs H Q E ->
      ∃ t, PSs (ze8 CX0 P w K mg base N qual (zak st) f cdv A outer s H E).nox (za4 st) t /\ t { nx := fun _ H' => Q .non H', rt := Q } (start N vs) H) : zau P w K mg base CX0 (k + 1) f fd ps sp := by
  obtain ⟨oc, od, kV, doc, pm, an, cdv, ct, osl, rfl, lk, hcd⟩ := F.ex
  refine zyh lk hcd S len fun A outer s H vs Q E hr hsp => ?_
  obtain ⟨t, h, q⟩ := hbody cdv A outer s H vs Q E hr hsp
  exact ⟨t, h.nox, q⟩
theorem Fun.binds {x qual : Str} {st : Stmt} {f : Addr} {fd : FuncData} {ps : List Str} (F : Fun K x qual st f fd)
    (h : ∀ (kV doc pm : Value) (an : Option Addr) (cdv ct : Value) (us : List Value), us.length = ps.length -> bindArgs (PySem.W.fnOf x qual (zba st) (za4 st) (zak st) .none kV doc pm an cdv ct) ⟨us, []⟩ = pure (ps.zip us)) : za2 K fd ps [] := by
  obtain ⟨oc, od, kV, doc, pm, an, cdv, ct, osl, rfl, lk, hcd⟩ := F.ex
  exact .all (h kV doc pm an cdv ct)
theorem zbl {x qual : Str} {st : Stmt} {f : Addr} {oc : Value} {od an : Option Addr} {osl : Array (Option Value)} {kV doc pm cdv ct : Value} (l : K.lookup f = some ⟨oc, od, .func (PySem.W.fnOf x qual (zba st) (za4 st) (zak st) .none kV doc pm an cdv ct), osl⟩)
    (c : PySem.W.codeIn K cdv qual = true) (k : PySem.W.keepIn K (.ref f) = true) : Fun K x qual st f (PySem.W.fnOf x qual (zba st) (za4 st) (zak st) .none kV doc pm an cdv ct) := ⟨⟨oc, od, kV, doc, pm, an, cdv, ct, osl, rfl, l, c⟩, k⟩
end
theorem zps {n : Nat} (h : n <= 1000) : n < sizeLine := Nat.lt_of_le_of_lt h (by decide)
section
variable {X : Cx}
theorem pv (i : Nat) {x : Str} {pos : Pos} (hN : X.N[i]? = some x := by rfl) (hv : Vis X.env.scope x := by first | exact Or.inl rfl | exact Or.inr (Or.inl rfl) | exact Or.inr (Or.inr rfl)) (hd : (x == ("__debug__" : Str)) = false := by decide)
    (hcd : (x == ("__classdict__" : Str)) = false := by decide) : PE X (.Name x pos) (zde i) := zin hN hv hd hcd
end
theorem zx3 {A B : Prop} (h : B) : if false = true then A else B := by
  rw [if_neg Bool.false_ne_true]
  exact h
theorem z31 {A B : Prop} (h : A) : if true = true then A else B := by
  rw [if_pos rfl]
  exact h
noncomputable def zan (H H' : Hp) : Prop := ∀ b o, H b = some o -> H' b = some o
theorem zan.refl (H : Hp) : zan H H := fun _ _ h => h
theorem zan.trans {H H1 H2 : Hp} (a : zan H H1) (b : zan H1 H2) : zan H H2 := fun c o h => b c o (a c o h)
theorem zan.free {H H' : Hp} (e : zan H H') {l : Addr} (h : H' l = Option.none) : H l = Option.none := by
  cases q : H l with
  | none => rfl
  | some o =>
    rw [e l o q] at h
    cases h
theorem zan.seq {K : PySem.W.Frag} {H H' : Hp} {a : Addr} {xs : List V} (e : zan H H') (h : SqL K H a xs) : SqL K H' a xs := by
  rcases h with (h | ⟨o, h⟩) | h
  · exact .inl (.inl (e _ _ h))
  · exact .inl (.inr ⟨o, e _ _ h⟩)
  · exact .inr h
end L2
namespace L2
open PySem PySem.Spec PyProof.Rows
section
variable {κ : Type} [DecidableEq κ]
noncomputable def zc4 (kvs : List (κ × V)) (k : κ) : Option V := (kvs.find? fun kv => decide (kv.1 = k)).map (·.2)
noncomputable def zdk (kvs : List (κ × V)) (k : κ) (v : V) : List (κ × V) :=
  if (kvs.any fun kv => decide (kv.1 = k)) = true then kvs.map (fun kv => if kv.1 = k then (kv.1, v) else kv) else kvs ++ [(k, v)]
noncomputable def zpv (kvs : List (κ × V)) (k : κ) : List (κ × V) := kvs.filter fun kv => decide (kv.1 ≠ k)
theorem zkk {p : κ × V} {r : List (κ × V)} {k : κ} (e : p.1 = k) : zc4 (p :: r) k = some p.2 := by simp [zc4, List.find?_cons, e]
theorem zj1 {p : κ × V} {r : List (κ × V)} {k : κ} (e : ¬ p.1 = k) : zc4 (p :: r) k = zc4 r k := by simp [zc4, List.find?_cons, e]
theorem zo6 (k : κ) : ∀ kvs : List (κ × V), (kvs.any fun kv => decide (kv.1 = k)) = (zc4 kvs k).isSome
  | [] => rfl
  | p :: r => by
    rw [List.any_cons]
    by_cases e : p.1 = k
    · simp only [zkk e, decide_eq_true e, Bool.true_or, Option.isSome_some]
    · rw [zj1 e, decide_eq_false e, Bool.false_or]; exact zo6 k r
theorem zpq (kvs : List (κ × V)) (k : κ) (v : V) : (zdk kvs k v).length <= kvs.length + 1 := by
  unfold zdk
  split
  · rw [List.length_map]; omega
  · rw [List.length_append, List.length_cons, List.length_nil]; omega
theorem zcp.isSome_eq {o : Option V} {u : Option Value} (r : zcp o u) : o.isSome = u.isSome := by
  cases o with
  | none => cases u with
    | none => rfl
    | some _ => exact (show False from r).elim
  | some _ => cases u with
    | none => exact (show False from r).elim
    | some _ => rfl
theorem zcp.getD {o : Option V} {u : Option Value} {d : V} {d' : Value} (r : zcp o u) (rd : zam d d') : zam (o.getD d) (u.getD d') := by
  cases o with
  | none => cases u with
    | none => exact rd
    | some _ => exact (show False from r).elim
  | some _ => cases u with
    | none => exact (show False from r).elim
    | some _ => exact r
theorem KV.val {kvs : List (κ × V)} {vs : List (κ × Value)} (r : KV kvs vs) (k : κ) : zcp (zc4 kvs k) (valueAt vs k) := by
  unfold KV at r
  induction r with
  | nil => exact True.intro
  | @cons p q ps qs h t ih =>
    obtain ⟨h1, h2⟩ := h
    by_cases e : p.1 = k
    · have e' : q.1 = k := h1.symm.trans e
      have b : valueAt (q :: qs) k = some q.2 := by simp [valueAt, List.find?_cons, e']
      rw [zkk e, b]; exact h2
    · have e' : ¬ q.1 = k := fun z => e (h1.trans z)
      have b : valueAt (q :: qs) k = valueAt qs k := by simp [valueAt, List.find?_cons, e']
      rw [zj1 e, b]; exact ih
theorem KV.any {kvs : List (κ × V)} {vs : List (κ × Value)} (r : KV kvs vs) (k : κ) : (kvs.any fun kv => decide (kv.1 = k)) = vs.any fun kv => decide (kv.1 = k) := by
  unfold KV at r
  induction r with
  | nil => rfl
  | cons h t ih => rw [List.any_cons, List.any_cons, ih, h.1]
theorem KV.repl {kvs : List (κ × V)} {vs : List (κ × Value)} (r : KV kvs vs) (k : κ) {y : V} {u : Value} (ry : zam y u) :
    KV (kvs.map fun kv => if kv.1 = k then (kv.1, y) else kv) (vs.map fun kv => if kv.1 = k then (kv.1, u) else kv) := by
  unfold KV at r ⊢
  induction r with
  | nil => exact .nil
  | @cons p q ps qs h t ih =>
    rw [List.map_cons, List.map_cons]
    refine .cons ?_ ih
    obtain ⟨h1, h2⟩ := h
    by_cases e : p.1 = k
    · rw [if_pos e, if_pos (h1.symm.trans e)]; exact ⟨h1, ry⟩
    · rw [if_neg e, if_neg (fun z => e (h1.trans z))]; exact ⟨h1, h2⟩
theorem KV.put {kvs : List (κ × V)} {vs : List (κ × Value)} (r : KV kvs vs) (k : κ) {y : V} {u : Value} (ry : zam y u) : KV (zdk kvs k y) (stored vs k u) := by
  unfold zdk stored
  rw [r.any k]
  by_cases e : (vs.any fun kv => decide (kv.1 = k)) = true
  · rw [if_pos e, if_pos e]; exact r.repl k ry
  · rw [if_neg e, if_neg e]; exact Paired.snoc r ⟨rfl, ry⟩
theorem KV.drop {kvs : List (κ × V)} {vs : List (κ × Value)} (r : KV kvs vs) (k : κ) : KV (zpv kvs k) (without vs k) := by
  unfold KV at r ⊢
  unfold zpv without
  induction r with
  | nil => exact .nil
  | @cons p q ps qs h t ih =>
    obtain ⟨h1, h2⟩ := h
    rw [List.filter_cons, List.filter_cons]
    by_cases e : p.1 = k
    · have a : ¬ decide (p.1 ≠ k) = true := by simp [e]
      have b : ¬ decide (q.1 ≠ k) = true := by simp [h1.symm.trans e]
      rw [if_neg a, if_neg b]; exact ih
    · have e' : ¬ q.1 = k := fun z => e (h1.trans z)
      have a : decide (p.1 ≠ k) = true := by simp [e]
      have b : decide (q.1 ≠ k) = true := by simp [e']
      rw [if_pos a, if_pos b]; exact .cons ⟨h1, h2⟩ ih
theorem KV.length {kvs : List (κ × V)} {vs : List (κ × Value)} (r : KV kvs vs) : kvs.length = vs.length := Paired.length r
end
theorem zk3 {P : Program} {w : World} {k : Key} {u : Value} (r : zam (kV k) u) : (zck P w).is k u = true := by
  cases k with
  | inl i => obtain ⟨t, e⟩ := (show ∃ t, u = Value.int i t from r); subst e; exact z46 P w i t
  | inr x => obtain ⟨t, e⟩ := (show ∃ t, u = Value.str x t from r); subst e; exact zwe P w x t
theorem zsv {P : Program} {w : World} : ∀ {ks : List Key} {us : List Value}, zaj (ks.map kV) us -> ItemsAre (zck P w) ks us
  | [], _, r => by rw [List.map_nil] at r; cases r; exact .nil
  | k :: ks, _, r => by
    rw [List.map_cons] at r
    cases r with
    | cons h t => exact .cons (zk3 h) (zsv t)
noncomputable abbrev KT (H : Hp) : List (List Key × V) -> List (List Key × Addr × Value) -> Prop := Paired fun p q => p.1 = q.1 /\ H q.2.1 = some (.tup (p.1.map kV)) /\ zam p.2 q.2.2
theorem KT.val {H : Hp} {kvs : List (List Key × V)} {xs : List (List Key × Addr × Value)} (r : KT H kvs xs) (k : List Key) : zcp (zc4 kvs k) ((atKey xs k).map (·.2)) := by
  induction r with
  | nil => exact True.intro
  | @cons p q ps qs h t ih =>
    obtain ⟨h1, _, h2⟩ := h
    by_cases e : p.1 = k
    · have e' : q.1 = k := h1.symm.trans e
      have b : atKey (q :: qs) k = some q.2 := by simp [atKey, List.find?_cons, e']
      rw [zkk e, b]; exact h2
    · have e' : ¬ q.1 = k := fun z => e (h1.trans z)
      have b : atKey (q :: qs) k = atKey qs k := by simp [atKey, List.find?_cons, e']
      rw [zj1 e, b]; exact ih
theorem KT.repl {H : Hp} {kvs : List (List Key × V)} {xs : List (List Key × Addr × Value)} (r : KT H kvs xs) (k : List Key) {y : V} {u : Value} (ry : zam y u) :
    KT H (kvs.map fun kv => if kv.1 = k then (kv.1, y) else kv) (xs.map (putAt k u)) := by
  induction r with
  | nil => exact .nil
  | @cons p q ps qs h t ih =>
    rw [List.map_cons, List.map_cons]
    refine .cons ?_ ih
    obtain ⟨h1, h2, h3⟩ := h
    unfold putAt
    by_cases e : p.1 = k
    · rw [if_pos e, if_pos (h1.symm.trans e)]; exact ⟨h1, h2, ry⟩
    · rw [if_neg e, if_neg (fun z => e (h1.trans z))]; exact ⟨h1, h2, h3⟩
theorem KT.put {H : Hp} {kvs : List (List Key × V)} {xs : List (List Key × Addr × Value)} (r : KT H kvs xs) (k : List Key) {b : Addr} {y : V} {u : Value} (hb : H b = some (.tup (k.map kV))) (ry : zam y u) :
    KT H (zdk kvs k y) (storedH xs k b u) := by
  have e : (kvs.any fun kv => decide (kv.1 = k)) = (atKey xs k).isSome := by
    rw [zo6, (r.val k).isSome_eq, Option.isSome_map]
  unfold zdk storedH
  rw [e]
  by_cases q : (atKey xs k).isSome = true
  · rw [if_pos q, if_pos q]; exact r.repl k ry
  · rw [if_neg q, if_neg q]; exact Paired.snoc r ⟨rfl, hb, ry⟩
theorem KT.keeps {H H' : Hp} {kvs : List (List Key × V)} {xs : List (List Key × Addr × Value)} (r : KT H kvs xs) (ht : ∀ b ys, H b = some (.tup ys) -> H' b = some (.tup ys)) : KT H' kvs xs :=
  Paired.mapP r fun _ _ z => ⟨z.1, ht _ _ z.2.1, z.2.2⟩
section
variable {P : Program} {w : World} {H : Hp} {h : Heap} {a : Addr}
theorem zsg {u : HO} (ok : HOk P w H h) (e : Rd H a u) : zb2 P w H h a u := e.ok ok
theorem zjh {kvs : List (Key × V)} (ok : HOk P w H h) (e : Rd H a (.dK kvs)) : kvs.length <= sizeLine /\ (a == sysModules) = false /\ ∃ vs, KV kvs vs /\ h.DictOf (zck P w) a vs :=
  show zb2 P w H h a (.dK kvs) from zsg ok e
theorem zra {kvs : List (Key × V)} (ok : HOk P w H h) (e : H a = some (.dK kvs)) : kvs.length <= sizeLine /\ (a == sysModules) = false /\ ∃ vs, KV kvs vs /\ h.DictOf (zck P w) a vs := zjh ok (.inl e)
theorem zjv {ks : List Key} (ok : HOk P w H h) (e : H a = some (.tup (ks.map kV))) : (tupleKind (zck P w)).is h ks a := by
  obtain ⟨_, its, r, o, h1, h2, n, h3⟩ := (show zb2 P w H h a (.tup (ks.map kV)) from ok a _ e)
  exact ⟨o, its.toArray, n, h1, h2, h3, by simpa using zsv r⟩
theorem zi2 {kvs : List (List Key × V)} (ok : HOk P w H h) (e : Rd H a (.dT kvs)) : kvs.length <= sizeLine /\ (a == sysModules) = false /\
    ∃ xs, KT H kvs xs /\ h.DictOfH (tupleKind (zck P w)) a xs := by
  obtain ⟨z, y, xs, r, o, es, ep, h1, h2, h3, h4, h5⟩ := (show zb2 P w H h a (.dT kvs) from zsg ok e)
  refine ⟨z, y, xs, r, o, es, ep, h1, h2, h3, h4, fun x hx => ?_, h5⟩
  have all : ∀ {l : List (List Key × V)} {m : List (List Key × Addr × Value)}, KT H l m -> ∀ x ∈ m, (tupleKind (zck P w)).is h x.1 x.2.1 := by
    intro l m q
    induction q with
    | nil => intro x hx; exact nomatch hx
    | @cons p q ps qs hq t ih =>
      intro x hx
      rcases List.mem_cons.mp hx with e | hx
      · subst e
        exact zjv ok (by rw [<- hq.1]; exact hq.2.1)
      · exact ih x hx
  exact all r x hx
theorem zx8 {kvs : List (List Key × V)} (ok : HOk P w H h) (e : H a = some (.dT kvs)) : kvs.length <= sizeLine /\ (a == sysModules) = false /\
    ∃ xs, KT H kvs xs /\ h.DictOfH (tupleKind (zck P w)) a xs := zi2 ok (.inl e)
end
noncomputable def zet (H : Hp) (a : Addr) (y : V) (r : Option V) : Prop :=
  (∃ kvs k, Rd H a (.dK kvs) /\ y = kV k /\ r = zc4 kvs k) \/ ∃ kvs k b, Rd H a (.dT kvs) /\ y = .ref b /\ H b = some (.tup (k.map kV)) /\ r = zc4 kvs k
noncomputable def zgm (H : Hp) (a : Addr) (y v : V) (H' : Hp) : Prop :=
  (∃ kvs k, H a = some (.dK kvs) /\ y = kV k /\ kvs.length < sizeLine /\ H' = upd H a (.dK (zdk kvs k v))) \/
  ∃ kvs k b, H a = some (.dT kvs) /\ y = .ref b /\ H b = some (.tup (k.map kV)) /\ kvs.length < sizeLine /\ H' = upd H a (.dT (zdk kvs k v))
theorem zet.k {H : Hp} {a : Addr} {kvs : List (Key × V)} {k : Key} (e : H a = some (.dK kvs)) : zet H a (kV k) (zc4 kvs k) := .inl ⟨kvs, k, .inl e, rfl, rfl⟩
theorem zet.t {H : Hp} {a b : Addr} {kvs : List (List Key × V)} {k : List Key} (e : H a = some (.dT kvs)) (eb : H b = some (.tup (k.map kV))) : zet H a (.ref b) (zc4 kvs k) := .inr ⟨kvs, k, b, .inl e, rfl, eb, rfl⟩
theorem zgm.k {H : Hp} {a : Addr} {kvs : List (Key × V)} {k : Key} {v : V} (e : H a = some (.dK kvs)) (hl : kvs.length < sizeLine) : zgm H a (kV k) v (upd H a (.dK (zdk kvs k v))) := .inl ⟨kvs, k, e, rfl, hl, rfl⟩
theorem zgm.t {H : Hp} {a b : Addr} {kvs : List (List Key × V)} {k : List Key} {v : V} (e : H a = some (.dT kvs)) (eb : H b = some (.tup (k.map kV))) (hl : kvs.length < sizeLine) :
    zgm H a (.ref b) v (upd H a (.dT (zdk kvs k v))) := .inr ⟨kvs, k, b, e, rfl, eb, hl, rfl⟩
section
variable {X : Cx} {pins : List (Addr × Obj)} {σ : St} {H : Hp} {s : Shared} {a : Addr} {y v : V} {u r : Value} {o : Option V} {A : Around} {E : Value -> Shared -> Prop}
theorem Inv.big (I : Inv X pins σ H s) : sysModules < s.heap.objs.size := by
  have h : mainGlobals < s.heap.objs.size := (I.mod.glob.keeps I.bk).lt
  exact Nat.lt_trans (by decide) h
theorem zvp {Q : Value -> Shared -> Prop} (hu : A.units + 1 < cLine) (I : Inv X pins σ H s) (g : zet H a y (some v)) (ry : zam y u) (h : ∀ w' s', Inv X pins σ H s' -> zam v w' -> Q w' s') :
    wpAny (model X.prog X.w) A (getItem (.ref a) u) Q E s := by
  rcases g with ⟨kvs, k, e, ey, l⟩ | ⟨kvs, k, b, e, ey, eb, l⟩
  · subst ey
    obtain ⟨z, hd, vs, rel, dd⟩ := zjh I.hok e
    obtain ⟨w', hw, rw'⟩ := zcp.some_of (v := v) (o := valueAt vs k) (by rw [l]; exact rel.val k)
    exact wpAny_getItem_of (zk3 ry) dd.mapOf hw (h w' _ (I.tok _) rw')
  · subst ey
    cases (show u = Value.ref b from ry)
    obtain ⟨z, hd, xs, rel, dd⟩ := zi2 I.hok e
    obtain ⟨w', hw, rw'⟩ := zcp.some_of (v := v) (o := (atKey xs k).map (·.2)) (by rw [l]; exact rel.val k)
    obtain ⟨p, hp, hp2⟩ := Option.map_eq_some_iff.mp hw
    refine wpAny_getItem_heap (tupleKind_room_in1 hu) (zjv I.hok eb) dd hp ?_
    rw [hp2]
    exact h w' _ (I.tok _) rw'
theorem zqx {h' : Heap} {t' : Nat} {ob : HO} (I : Inv X pins σ H s) (mu : Mut (H a)) (hs : Heap.SameBut a s.heap h') (he : ∃ q, h'.get? a = some q) (new : zb2 X.prog X.w (upd H a ob) h' a ob) :
    Inv X pins σ (upd H a ob) { s with heap := h', toks := t' } :=
  I.write (x := a) (e := a) mu (.inl rfl) (fun b q hb z => (hs.2 b hb).trans z) he new
theorem z1o {P : Program} {w : World} {H' : Hp} {h' : Heap} {kvs : List (Key × V)} {vs : List (Key × Value)} (z : kvs.length <= sizeLine) (hd : (a == sysModules) = false) (rel : KV kvs vs) (dd : h'.DictOf (zck P w) a vs) :
    zb2 P w H' h' a (.dK kvs) := ⟨z, hd, vs, rel, dd⟩
theorem z27 {H' : Hp} {Q : Unit -> Shared -> Prop} (hu : A.units + 1 < cLine) (I : Inv X pins σ H s) (g : zgm H a y v H') (ry : zam y u) (rv : zam v r) (h : ∀ s', Inv X pins σ H' s' -> Q () s') :
    wpAny (model X.prog X.w) A (setItem (.ref a) u r) Q E s := by
  rcases g with ⟨kvs, k, e, ey, l, eH⟩ | ⟨kvs, k, b, e, ey, eb, l, eH⟩
  · subst ey eH
    obtain ⟨z, hd, vs, rel, dd⟩ := zra I.hok e
    have hz : vs.length <= sizeLine := by rw [<- rel.length]; exact z
    have hl : (zdk kvs k v).length <= sizeLine := by have := zpq kvs k v; omega
    refine wpAny_setItem_pairs (hsz := hz) (zk3 ry) dd fun h' dd' hs => h _ ?_
    have he : ∃ q, h'.get? a = some q := let ⟨q, _, _, hq, _⟩ := dd'; ⟨q, hq⟩
    exact zqx I (by rw [e]; exact True.intro) hs he (z1o hl hd (rel.put k rv) dd')
  · subst ey eH
    cases (show u = Value.ref b from ry)
    obtain ⟨z, hd, xs, rel, dd⟩ := zx8 I.hok e
    have hz : xs.length <= sizeLine := by rw [<- Paired.length rel]; exact z
    have hl : (zdk kvs k v).length <= sizeLine := by have := zpq kvs k v; omega
    refine wpAny_setItem_heap (hsz := hz) (tupleKind_room_in1 hu) (zjv I.hok eb) dd fun h' dd' hs => h _ ?_
    obtain ⟨q, es, ep, hq, h2, h3, h4, _, h5⟩ := dd'
    refine zqx I (by rw [e]; exact True.intro) hs ⟨q, hq⟩ ⟨hl, hd, _, (rel.put k eb rv).keeps fun c ys ec => ?_, q, es, ep, hq, h2, h3, h4, h5⟩
    rw [zar (zsl ec e (fun z => nomatch z))]
    exact ec
end
section
variable {X : Cx} {pins : List (Addr × Obj)} {σ : St} {H : Hp} {s : Shared} {a : Addr} {kvs : List (Key × V)} {k : Key} {u : Value} {A : Around} {E : Value -> Shared -> Prop}
end
noncomputable def zmb (i : Expr) : Prop := ∀ ov iv, subscripted i false ov iv = operate [ov, iv] (getItem ov iv)
theorem zu9 {prog : Program} {w : World} {A : Around} {E : Value -> Shared -> Prop} {s : Shared} {env : Env} {value slice : Expr} {pos : Pos} {T id : String} {Q : Value -> Shared -> Prop}
    (hl : typeLookup (.type T) "__getitem__" = pure (some (.builtin id))) (hs : zmb slice)
    (h : wpAny (model prog w) A (eval value env) (fun o s₁ => wpAny (model prog w) A (eval slice env) (fun i s₂ => s₂.TypeIs o T /\ wpAny (model prog w) A (getItem o i) Q E s₂) E s₁) E s) :
    wpAny (model prog w) A (eval (.Subscript value slice pos) env) Q E s := by
  refine Subscript_ (wpAny_mono h (fun o s₁ h₁ => wpAny_mono h₁ (fun i s₂ h₂ => ?_) fun _ _ x => x) fun _ _ x => x)
  obtain ⟨hT, h₂⟩ := h₂
  unfold subscriptTail
  refine wpAny_bind ?_
  rw [getitemInPython_of_ne hT.not_modules]
  refine wpAny_bind (wpAny_specialOf hT hl ?_)
  have fin : wpAny (model prog w) A (subscripted slice false o i) (fun r s₃ => wpAny (model prog w) A (letTemporaryGo value o r >>= fun _ => pure r) Q E s₃) E s₂ := by
    rw [hs o i]
    exact wpAny_operating (wpAny_mono h₂ (fun r s₃ h₃ => wpAny_bind (wpAny_letTemporaryGo (wpAny_pure h₃))) fun _ _ x => x)
  first
    | exact wpAny_pure (wpAny_bind fin)
    | exact wpAny_bind (wpAny_pure (wpAny_bind fin))
    | exact wpAny_bind fin
theorem zz9 {X : Cx} {pins : List (Addr × Obj)} {σ : St} {H : Hp} {s : Shared} {a : Addr} {y : V} {o : Option V} (I : Inv X pins σ H s) (g : zet H a y o) : s.TypeIs (.ref a) "dict" := by
  rcases g with ⟨kvs, k, e, _, _⟩ | ⟨kvs, k, b, e, _, _, _⟩
  · obtain ⟨_, _, vs, _, dd⟩ := zjh I.hok e
    exact dd.typeIs
  · obtain ⟨_, _, xs, _, dd⟩ := zi2 I.hok e
    exact dd.typeIs
noncomputable def z3p (td ty : TE) : TE := fun σ H Q => td σ H fun x H1 => ty σ H1 fun y H2 => ∃ a v, x = .ref a /\ zet H2 a y (some v) /\ Q v H2
noncomputable def zr3 (td ty tv : TE) : TS := fun D σ H => tv σ H fun v H1 => td σ H1 fun x H2 => ty σ H2 fun y H3 => ∃ a H4, x = .ref a /\ zgm H3 a y v H4 /\ D.nx σ H4
section
variable {X : Cx} {o i e value : Expr} {pos pos' tpos : Pos} {td ty tv : TE}
theorem zu3 (hu : X.A.units + 1 < cLine) (ho : PE X o td) (hi : PE X i ty) (hs : zmb i) : PE X (.Subscript o i pos) (z3p td ty) := by
  intro pins s σ H Q I h
  refine zu9 PySem.F.slot_dict_getitem.lookup hs (thn (ho pins s σ H _ I h) fun u s1 ⟨x, H1, I1, rx, q1⟩ => thn (hi pins s1 σ H1 _ I1 q1) fun iv s2 ⟨y, H2, I2, ry, a, v, ex, g, q2⟩ => ?_)
  subst ex
  obtain rfl : u = Value.ref a := rx
  exact ⟨zz9 I2 g, zvp hu I2 g ry fun w' s3 I3 rw' => ⟨v, H2, I3, rw', q2⟩⟩
theorem z3l (hu : X.A.units + 1 < cLine) (ho : PE X o td) (hi : PE X i ty) (hv : PE X value tv) (hs : swapsWith value (some (.Subscript o i pos')) pos.line X.env = pure false) :
    PS X (.Assign [.Subscript o i pos'] value pos) (zr3 td ty tv) := by
  intro pins s σ H D I h
  refine wpAny_Assign_Subscript (thn (hv pins s σ H _ I h) fun r s1 ⟨v, H1, I1, rv, q1⟩ => thn (ho pins s1 σ H1 _ I1 q1) fun u s2 ⟨x, H2, I2, rx, q2⟩ => thn (hi pins s2 σ H2 _ I2 q2) fun iv s3 ⟨y, H3, I3, ry, a, H4, ex, g, q3⟩ => ?_) hs
  subst ex
  obtain rfl : u = Value.ref a := rx
  exact z27 hu I3 g ry rv fun s4 I4 => ⟨σ, H4, I4, q3⟩
end
theorem z4g {P : Program} {w : World} {H : Hp} (h : Heap) (hb : sysModules < h.objs.size) : zb2 P w H (h.push { cls := .type "dict", data := .dict #[] }) h.objs.size (.dK []) :=
  ⟨Nat.zero_le _, beq_eq_false_iff_ne.mpr (Ne.symm (Nat.ne_of_lt hb)), [], .nil, Heap.DictOf.new h⟩
noncomputable def zpk : TE := fun _ H Q => ∀ p, H p = none -> Q (.ref p) (upd H p (.dK []))
section
variable {X : Cx} {pos : Pos}
theorem z37 : PE X (.Dict [] [] pos) zpk := fun pins s σ H Q I h =>
  wpAny_Dict_empty ⟨.ref s.heap.objs.size, _, I.laid (a := s.heap.objs.size) (o := .dK []) (t' := s.toks) (fun _ _ q => Heap.get?_push_of_some _ q) (Nat.le_refl _) (z4g s.heap I.big), rfl, h _ (I.hok.fresh (Nat.le_refl _))⟩
end
structure M2 (X : Cx) (o : Expr) (m : Str) (apos : Pos) (e f : Expr) (cpos : Pos) : Prop where
  base : attributeBase o m X.env (eval o X.env) = eval o X.env
  few : ((backTo cpos (starEach [e, f] X.env)).all (fun x => !x.1) && (backToKw cpos (keywordEach [] X.env)).all (fun x => x.1.isSome)
    && decide (([e, f] : List Expr).length + ([] : List Keyword).length + (if ([] : List Keyword).isEmpty then 0 else 1) < 30)) = true
  line : (apos.endLine == cpos.line) = true
  trees : backTo cpos (starEach [e, f] X.env) = [(false, eval e X.env), (false, eval f X.env)]
noncomputable def IsD (H : Hp) (a : Addr) : Prop := (∃ kvs, Rd H a (.dK kvs)) \/ ∃ kvs, Rd H a (.dT kvs)
theorem zwu {X : Cx} {pins : List (Addr × Obj)} {σ : St} {H : Hp} {s : Shared} {a : Addr} (I : Inv X pins σ H s) (d : IsD H a) :
    s.TypeIs (.ref a) "dict" /\ (∀ b, Value.ref a = .ref b -> ∃ ob, s.heap.get? b = some ob /\ ob.dict = none) /\ (a == sysModules) = false := by
  rcases d with ⟨kvs, e⟩ | ⟨kvs, e⟩
  · obtain ⟨_, hd, vs, _, dd⟩ := zjh I.hok e
    refine ⟨dd.typeIs, fun b q => ?_, hd⟩
    cases q
    obtain ⟨ob, _, _, h1, h2, _⟩ := dd
    exact ⟨ob, h1, h2.2.1⟩
  · obtain ⟨_, hd, xs, _, dd⟩ := zi2 I.hok e
    refine ⟨dd.typeIs, fun b q => ?_, hd⟩
    cases q
    obtain ⟨ob, _, _, h1, h2, _⟩ := dd
    exact ⟨ob, h1, h2.2.1⟩
section
variable {X : Cx} {pins : List (Addr × Obj)} {σ : St} {H : Hp} {s : Shared} {a : Addr} {y d : V} {u r : Value} {o : Option V} {A : Around} {E : Value -> Shared -> Prop}
theorem z0f {Q : Value -> Shared -> Prop} (hu : A.units + 1 < cLine) (I : Inv X pins σ H s) (g : zet H a y o) (ry : zam y u) (rd : zam d r) (h : ∀ w' s', Inv X pins σ H s' -> zam (o.getD d) w' -> Q w' s') :
    wpAny (model X.prog X.w) A (call (.builtin "dict.get") [.ref a, u, r]) Q E s := by
  rcases g with ⟨kvs, k, e, ey, l⟩ | ⟨kvs, k, b, e, ey, eb, l⟩
  · subst ey
    obtain ⟨z, hd, vs, rel, dd⟩ := zjh I.hok e
    refine call_meetsIn PySem.F.slot_dict_get dd.typeIs PySem.F.entry_dict_get (PySem.F.args_dict_get_3 _ _ _) (meets_dict_get_default (zck X.prog X.w) a (zk3 ry) hd r) ⟨_, dd.mapOf, h _ _ (I.tok _) ?_⟩
    rw [l]
    exact (rel.val k).getD rd
  · subst ey
    cases (show u = Value.ref b from ry)
    obtain ⟨z, hd, xs, rel, dd⟩ := zi2 I.hok e
    refine call_meetsIn PySem.F.slot_dict_get dd.typeIs PySem.F.entry_dict_get (PySem.F.args_dict_get_3 _ _ _) (meetsH_dict_get_default (tupleKind (zck X.prog X.w)) a b hd r) ⟨tupleKind_room_in1 hu, k, xs, zjv I.hok eb, dd, h _ _ (I.tok _) ?_⟩
    rw [l]
    exact (rel.val k).getD rd
end
noncomputable def z3s (td ty tx : TE) : TE := fun σ H Q => td σ H fun x H1 => ∃ a, x = .ref a /\ IsD H1 a /\ ty σ H1 fun y H2 => tx σ H2 fun z H3 => ∃ o, zet H3 a y o /\ Q (o.getD z) H3
section
variable {X : Cx} {o e f : Expr} {apos cpos : Pos} {td ty tx : TE}
theorem zyf (hu : X.A.units + 1 < cLine) (ho : PE X o td) (he : PE X e ty) (hf : PE X f tx) (m : M2 X o "get" apos e f cpos) : PE X (.Call (.Attribute o "get" apos) [e, f] [] cpos) (z3s td ty tx) := by
  intro pins s σ H Q I h
  refine wpAny_Call_method m.base m.few m.line PySem.F.plainAttrs_dict PySem.F.slot_dict_get PySem.F.type_dict_get (thn (ho pins s σ H _ I h) fun u s1 ⟨x, H1, I1, rx, a, ex, d, q1⟩ => ?_)
  subst ex
  obtain rfl : u = Value.ref a := rx
  obtain ⟨t1, t2, _⟩ := zwu I1 d
  refine ⟨t1, t2, ?_⟩
  rw [m.trees]
  refine Calls.callWith_builtin rfl (Calls.evalArgs_plain (Calls.spliced_cons (thn (he pins s1 σ H1 _ I1 q1) fun iv s2 ⟨y, H2, I2, ry, q2⟩ =>
    Calls.spliced_cons (thn (hf pins s2 σ H2 _ I2 q2) fun fv s3 ⟨z, H3, I3, rz, ov, g, q3⟩ => Calls.spliced_nil ?_))))
  exact z0f hu I3 g ry rz fun w' s4 I4 rw' => ⟨_, H3, I4, rw', q3⟩
end
section
variable {X : Cx} {pins : List (Addr × Obj)} {σ : St} {H : Hp} {s : Shared} {a : Addr} {kvs : List (Key × V)} {A : Around} {E : Value -> Shared -> Prop}
end
section
variable {X : Cx} {pins : List (Addr × Obj)} {σ : St} {H : Hp} {s : Shared} {a : Addr} {y : V} {u : Value} {A : Around} {E : Value -> Shared -> Prop}
end
end L2
namespace L2
open PySem PySem.Spec PyProof.Rows
section
variable {κ : Type} [DecidableEq κ]
end
end L2
set_option maxHeartbeats 4000000
namespace L2
open PySem
theorem zod {env : Env} (f : (Str × NameKind) -> List (Str × Addr) -> Sem (ForInStep (List (Str × Addr))))
    (h1 : ∀ n k r, k ≠ NameKind.free -> f (n, k) r = pure (.yield r))
    (h2 : ∀ n r c, env.cells.lookup n = some c -> f (n, .free) r = pure (.yield ((n, c) :: r))) :
    ∀ (l : List (Str × NameKind)) (acc : List (Str × Addr)), (∀ x ∈ l, x.2 = .free -> ∃ c, env.cells.lookup x.1 = some c) ->
      (∀ x c, acc.lookup x = some c -> env.cells.lookup x = some c) ->
      ∃ cl, forIn l acc f = (pure cl : Sem _) /\ (∀ x c, cl.lookup x = some c -> env.cells.lookup x = some c) /\
        (∀ x, ((∃ c, acc.lookup x = some c) \/ (x, NameKind.free) ∈ l) -> ∃ c, cl.lookup x = some c)
  | [], acc, _, ha => ⟨acc, rfl, ha, fun x hx => hx.elim id (fun z => nomatch z)⟩
  | (n, k) :: l, acc, hl, ha => by
    have hl' : ∀ x ∈ l, x.2 = .free -> ∃ c, env.cells.lookup x.1 = some c := fun x hx => hl x (List.mem_cons_of_mem _ hx)
    by_cases hk : k = .free
    · subst hk
      obtain ⟨c, hc⟩ := hl (n, .free) List.mem_cons_self rfl
      have hc' : env.cells.lookup n = some c := hc
      have ha' : ∀ x c', ((n, c) :: acc).lookup x = some c' -> env.cells.lookup x = some c' := fun x c' hx => by
        rw [List.lookup_cons] at hx
        cases e : x == n with
        | true =>
          rw [e] at hx
          cases hx
          rw [eq_of_beq e]; exact hc'
        | false =>
          rw [e] at hx
          exact ha x c' hx
      obtain ⟨cl, e, a1, a2⟩ := zod f h1 h2 l ((n, c) :: acc) hl' ha'
      refine ⟨cl, ?_, a1, fun x hx => a2 x ?_⟩
      · rw [List.forIn_cons, h2 n acc c hc', pure_bind]
        exact e
      · have here : ∀ c', acc.lookup x = some c' -> ∃ c'', ((n, c) :: acc).lookup x = some c'' := fun c' z => by
          rw [List.lookup_cons]
          cases e : x == n with
          | true => exact ⟨c, rfl⟩
          | false => exact ⟨c', z⟩
        rcases hx with ⟨c', z⟩ | hx
        · exact .inl (here c' z)
        · rcases List.mem_cons.mp hx with z | z
          · cases z
            refine .inl ⟨c, ?_⟩
            rw [List.lookup_cons, beq_self_eq_true]
          · exact .inr z
    · obtain ⟨cl, e, a1, a2⟩ := zod f h1 h2 l acc hl' ha
      refine ⟨cl, ?_, a1, fun x hx => a2 x ?_⟩
      · rw [List.forIn_cons, h1 n k acc hk, pure_bind]
        exact e
      · rcases hx with hx | hx
        · exact .inl hx
        · rcases List.mem_cons.mp hx with z | z
          · cases z; exact absurd rfl hk
          · exact .inr z
theorem zoo {scope : Scope} {env : Env} (h : ∀ x ∈ scope.names, x.2 = .free -> ∃ c, env.cells.lookup x.1 = some c) :
    ∃ cl, closureFor scope env = pure cl /\ (∀ x c, cl.lookup x = some c -> env.cells.lookup x = some c) /\ (∀ x, (x, NameKind.free) ∈ scope.names -> ∃ c, cl.lookup x = some c) := by
  unfold closureFor
  obtain ⟨cl, e, a1, a2⟩ := zod (env := env) (fun (x : Str × NameKind) (r : List (Str × Addr)) => (match x with
      | (name, kind) => if (kind == NameKind.free) = true then (do let a <- cellOf env name; pure (ForInStep.yield ((name, a) :: r))) else (pure (ForInStep.yield r) : Sem _)))
    (fun n k r hk => by
      have : (k == NameKind.free) = false := by simpa using hk
      simp only [this, Bool.false_eq_true, if_false])
    (fun n r c hc => by
      simp only [beq_self_eq_true, if_true, cellOf, hc, pure_bind])
    scope.names [] h (fun x c z => by cases z)
  refine ⟨cl, ?_, a1, fun x hx => a2 x (.inr hx)⟩
  refine (congrArg (fun (t : Sem (List (Str × Addr))) => t >>= pure) ?_).trans ((congrArg (fun (t : Sem (List (Str × Addr))) => t >>= pure) e).trans (pure_bind _ _))
  rfl
section
variable {prog : Program} {w : World} {A : Around} {R : Result -> Shared -> Prop} {s : Shared}
noncomputable abbrev E00 : Value -> Shared -> Prop := fun _ _ => False
theorem zvl {elt target iter : Expr} {ifs : List Expr} {scope : Scope} {pos : Pos} {it acc : Value} {env : Env} (I : Nat -> Shared -> Prop)
    (turn : ∀ n s, I n s -> wpAny (model prog w) A (pyNext it) (fun r s₁ => match r with
      | none => R (.ok .next) s₁
      | some v => wpAny (model prog w) A (letOwnedTupleGo target it v) (fun _ s₁' => wpAny (model prog w) A (assign target env v) (fun _ s₂ =>
          wpAny (model prog w) A (forIn ifs true fun c r => if r = true then do let ok <- isTrue c env (eval c env); pure (ForInStep.yield ok) else pure (ForInStep.yield r)) (fun ok s₃ =>
            if ok = true then wpAny (model prog w) A (eval elt env) (fun x s₄ =>
              wpAny (model prog w) A (call (.builtin "list.append") [acc, x]) (fun _ s₅ => ∃ m, m < n /\ I m s₅) E00 s₄) E00 s₃
            else ∃ m, m < n /\ I m s₃) E00 s₂) E00 s₁') E00 s₁) E00 s)
    (n : Nat) (h : I n s) :
    codeAny (model prog w) A (.compLoop (.ListComp elt [⟨target, iter, ifs, 0⟩] scope pos) 0 it acc env) R s := by
  refine codeAny_loop rfl I (fun n s hI => ?_) n h
  show wpAny _ A ((compTurn (.ListComp elt [⟨target, iter, ifs, 0⟩] scope pos) 0 it acc env).onRaise (fun x => do noteFrame x env; theTreesLotGoes x)) _ _ s
  refine wpAny_noted ?_
  rw [compTurn_list]
  refine wpAny_mono (E := E00) ?_ (fun _ _ z => z) (fun _ _ z => z.elim)
  refine wpAny_bind (wpAny_standAt (wpAny_bind (wpAny_mono (turn n s hI) (fun r s₁ h₁ => ?_) fun _ _ h' => h')))
  cases r with
  | none => exact wpAny_pure h₁
  | some v =>
    refine wpAny_bind (wpAny_mono h₁ (fun _ s₁' h₁' => ?_) fun _ _ h' => h')
    refine wpAny_bind (wpAny_mono h₁' (fun _ s₂ h₂ => wpAny_bind (wpAny_mono h₂ (fun ok s₃ h₃ => ?_) fun _ _ h' => h')) fun _ _ h' => h')
    cases ok with
    | false => exact wpAny_pure ⟨rfl, h₃⟩
    | true =>
      exact wpAny_bind (wpAny_bind (wpAny_mono h₃ (fun x s₄ h₄ => wpAny_bind (wpAny_mono h₄ (fun _ s₅ h₅ => wpAny_pure (wpAny_pure ⟨rfl, h₅⟩)) fun _ _ h' => h')) fun _ _ h' => h'))
end
end L2
namespace L2
open PySem PySem.Spec PyProof.Rows
noncomputable abbrev Cx.comp (X : Cx) (scope : Scope) (Nc : List Str) (cl : List (Str × Addr)) (C : Addr) (ex : List Addr) (s₂ : Shared) (H₂ : Hp) : Cx :=
  { X with N := Nc, s₀ := s₂, H₀ := H₂, env := compEnvC scope cl C X.env, outer := X.stack, ex := ex, fn := fun _ => false, pn := [], xe := E00 }
theorem zn6 {env : Env} : ∀ {names : List (Str × NameKind)} {x : Str}, names.lookup x = some .free ->
    (names.map fun (n, k) => if (k == NameKind.free && env.scope.kind == .function && env.kindOf n == some .cell) then (n, NameKind.cell) else (n, k)).lookup x = some .cell \/
    (names.map fun (n, k) => if (k == NameKind.free && env.scope.kind == .function && env.kindOf n == some .cell) then (n, NameKind.cell) else (n, k)).lookup x = some .free
  | [], _, h => by simp at h
  | (n, k) :: r, x, h => by
    have ih := @zn6 env r x
    rw [List.map_cons]
    show List.lookup x ((if (k == NameKind.free && env.scope.kind == .function && env.kindOf n == some .cell) = true then (n, NameKind.cell) else (n, k)) :: _) = _ \/ List.lookup x ((if (k == NameKind.free && env.scope.kind == .function && env.kindOf n == some .cell) = true then (n, NameKind.cell) else (n, k)) :: _) = _
    rw [List.lookup_cons] at h
    cases hx : x == n with
    | true =>
      rw [hx] at h
      cases h
      split
      · left; rw [List.lookup_cons, hx]
      · right; rw [List.lookup_cons, hx]
    | false =>
      rw [hx] at h
      split
      · rw [List.lookup_cons, hx]; exact ih h
      · rw [List.lookup_cons, hx]; exact ih h
theorem zno {env : Env} {k' : NameKind} (hk' : k' = .cell \/ k' = .free) : ∀ {names : List (Str × NameKind)} {x : Str},
    (names.map fun (n, k) => if (k == NameKind.free && env.scope.kind == .function && env.kindOf n == some .cell) then (n, NameKind.cell) else (n, k)).lookup x = some k' ->
    (x, NameKind.free) ∈ names \/ (x, NameKind.cell) ∈ names
  | [], _, h => by simp at h
  | (n, k) :: r, x, h => by
    have ih := @zno env k' hk' r x
    rw [List.map_cons] at h
    have h' : List.lookup x ((if (k == NameKind.free && env.scope.kind == .function && env.kindOf n == some .cell) = true then (n, NameKind.cell) else (n, k)) :: (r.map fun (n, k) => if (k == NameKind.free && env.scope.kind == .function && env.kindOf n == some .cell) then (n, NameKind.cell) else (n, k))) = some k' := h
    cases hx : x == n with
    | true =>
      have e := eq_of_beq hx
      subst e
      split at h'
      · rename_i hc
        have hk : k = .free := by
          rw [Bool.and_eq_true, Bool.and_eq_true] at hc
          exact eq_of_beq hc.1.1
        subst hk
        exact .inl List.mem_cons_self
      · rw [List.lookup_cons, hx] at h'
        have e : k = k' := Option.some.inj h'
        subst e
        rcases hk' with z | z
        · subst z; exact .inr List.mem_cons_self
        · subst z; exact .inl List.mem_cons_self
    | false =>
      have h2 : (r.map fun (n, k) => if (k == NameKind.free && env.scope.kind == .function && env.kindOf n == some .cell) then (n, NameKind.cell) else (n, k)).lookup x = some k' := by
        split at h' <;> (rw [List.lookup_cons, hx] at h'; exact h')
      rcases ih h2 with z | z
      · exact .inl (List.mem_cons_of_mem _ z)
      · exact .inr (List.mem_cons_of_mem _ z)
noncomputable def zhm (scope : Scope) (outer : List (Str × NameKind)) (N Nc : List Str) (k : Nat) (js : List Nat) : Bool :=
  scope.names.all (fun x => (x.2 != .free || outer.lookup x.1 == some .cell || outer.lookup x.1 == some .free) && x.2 != .cell && (x.2 != .local || scope.names.lookup x.1 == some .local)) &&
  scope.kind == .function && Nc.length == k + js.length &&
  (List.range js.length).all (fun i => match Nc[k + i]?, js[i]? with
    | some x, some j => N[j]? == some x && scope.names.lookup x == some .free
    | _, _ => false)
structure zjp (scope : Scope) (outer : List (Str × NameKind)) (N Nc : List Str) (k : Nat) (js : List Nat) : Prop where
  free : ∀ x ∈ scope.names, x.2 = .free -> outer.lookup x.1 = some .cell \/ outer.lookup x.1 = some .free
  nocell : ∀ x ∈ scope.names, x.2 ≠ .cell
  loc : ∀ x ∈ scope.names, x.2 = .local -> scope.names.lookup x.1 = some .local
  kind : scope.kind = .function
  len : Nc.length = k + js.length
  at' : ∀ i j, js[i]? = some j -> ∃ x, Nc[k + i]? = some x /\ N[j]? = some x /\ scope.names.lookup x = some .free
theorem zjp.of {scope : Scope} {outer : List (Str × NameKind)} {N Nc : List Str} {k : Nat} {js : List Nat} (h : zhm scope outer N Nc k js = true) : zjp scope outer N Nc k js := by
  unfold zhm at h
  rw [Bool.and_eq_true, Bool.and_eq_true, Bool.and_eq_true] at h
  obtain ⟨⟨⟨h1, h2⟩, h3⟩, h4⟩ := h
  rw [List.all_eq_true] at h1 h4
  refine ⟨fun x hx e => ?_, fun x hx e => ?_, fun x hx e => ?_, eq_of_beq h2, eq_of_beq h3, fun i j e => ?_⟩
  · have := h1 x hx
    simp only [Bool.and_eq_true, Bool.or_eq_true, bne_iff_ne, beq_iff_eq] at this
    rcases this.1.1 with (z | z) | z
    · exact absurd e z
    · exact .inl z
    · exact .inr z
  · have := h1 x hx
    simp only [Bool.and_eq_true, Bool.or_eq_true, bne_iff_ne, beq_iff_eq] at this
    exact this.1.2 e
  · have := h1 x hx
    simp only [Bool.and_eq_true, Bool.or_eq_true, bne_iff_ne, beq_iff_eq] at this
    rcases this.2 with z | z
    · exact absurd e z
    · exact z
  · have hi : i < js.length := (List.getElem?_eq_some_iff.mp e).1
    have := h4 i (List.mem_range.mpr hi)
    rw [e] at this
    cases q : Nc[k + i]? with
    | none => rw [q] at this; cases this
    | some x =>
      rw [q] at this
      simp only [Bool.and_eq_true, beq_iff_eq] at this
      exact ⟨x, rfl, this.1, this.2⟩
noncomputable def zer (k : Nat) (js : List Nat) (σ : St) : St := List.replicate k none ++ js.map fun j => (σ[j]?).getD none
noncomputable def PTs (X : Cx) (ifs : List Expr) (t : TT) : Prop :=
  ∀ (pins : List (Addr × Obj)) (s : Shared) (σ : St) (H : Hp) (Q : Bool -> Hp -> Prop), Inv X pins σ H s -> t σ H Q ->
    wpAny (model X.prog X.w) X.A (forIn ifs true fun c r => if r = true then do let ok <- isTrue c X.env (eval c X.env); pure (ForInStep.yield ok) else pure (ForInStep.yield r)) (TP X pins σ Q) X.xe s
noncomputable def zul : TT := fun _ H Q => Q true H
theorem z3q {X : Cx} : PTs X [] zul := fun _ _ _ H _ I h => wpAny_tests_nil ⟨H, I, h⟩
theorem z2h {X : Cx} {c : Expr} {t : TT} (h : PT X c t) : PTs X [c] t := fun pins s σ H Q I q => wpAny_tests_one (h pins s σ H Q I q)
noncomputable def zqp (J : It) (g : TG) (tt : TT) (te : TE) (σ0 : St) (H1 : Hp) (Q : VK) : Prop :=
  ∃ W : Nat -> Nat -> List V -> St -> Hp -> Prop, (∃ m, W 0 m [] σ0 H1) /\ ∀ i m ys σ' H', W i m ys σ' H' ->
    (J.stop i H' /\ ys.length <= sizeLine /\ ∀ D, H1 D = none -> H' D = none -> Q (.ref D) (upd H' D (.lst ys))) \/
    (J.go i H' /\ ys.length <= sizeLine /\ ∃ N : List V -> St -> Hp -> Prop, (∀ ys' σ2 H2, N ys' σ2 H2 -> ∃ m', m' < m /\ W (i + 1) m' ys' σ2 H2) /\
      ∀ x H2, J.yld i H' x H2 -> g x σ' H2 fun σ3 H3 => tt σ3 H3 fun b H4 => if b = true then te σ3 H4 fun y H5 => N (ys ++ [y]) σ3 H5 else N ys σ3 H4)
noncomputable def zna (k : Nat) (js : List Nat) (wi : TI) (g : TG) (tt : TT) (te : TE) : TE := fun σ H Q => wi σ H fun J H1 => zqp J g tt te (zer k js σ) H1 Q
section
variable {X : Cx} {elt tg iter : Expr} {ifs : List Expr} {scope : Scope} {pos : Pos} {Nc : List Str} {k : Nat} {js : List Nat} {wi : TI} {g : TG} {tt : TT} {te : TE}
noncomputable abbrev zel (us : List Value) (n : Nat) : Obj := { cls := .type "list", data := .seq us.toArray n }
theorem zor {pins : List (Addr × Obj)} {σ : St} {H2 : Hp} {s2 : Shared} {it : Addr} {fp : List Addr} {tn : Nat -> Heap -> Prop} {J : It} {cl : List (Str × Addr)} {Q : VK} {RR : Value -> Addr -> Result -> Shared -> Prop} {E : Value -> Shared -> Prop}
    (hc : X.calm = true) (ck : zjp scope X.env.scope.names X.N Nc k js)
    (hg : ∀ cl C ex s₂ H₂, PG (X.comp scope Nc cl C ex s₂ H₂) tg g) (ht : ∀ cl C ex s₂ H₂, PTs (X.comp scope Nc cl C ex s₂ H₂) ifs tt) (he : ∀ cl C ex s₂ H₂, PE (X.comp scope Nc cl C ex s₂ H₂) elt te)
    (a1 : ∀ x c, cl.lookup x = some c -> X.env.cells.lookup x = some c) (a2 : ∀ x, (x, NameKind.free) ∈ scope.names -> ∃ c, cl.lookup x = some c)
    (I2 : Inv X pins σ H2 s2) (T : zf5 X.prog X.w X.K tg J fp it tn) (st2 : tn 0 s2.heap) (f2 : ∀ b ∈ fp, zee X pins H2 b) (hW : zqp J g tt te (zer k js σ) H2 Q)
    (hRR : ∀ (D C : Addr) (s' : Shared) (H' : Hp), Inv X pins σ H' s' -> (∃ m, s'.heap.Ns C m) -> zee X pins H' C -> Q (.ref D) H' -> RR (.ref D) C (.ok .next) s') :
    wpAny (model X.prog X.w) X.A (newList []) (fun acc s₃ => wpAny (model X.prog X.w) X.A (newFunctionEnv scope X.env.globals cl [] X.env.qual none .none (some X.env)) (fun cenv s₄ =>
      codeAny (model X.prog X.w) X.A (.compStart (.ListComp elt [⟨tg, iter, ifs, 0⟩] scope pos) 0 (.ref it) acc { cenv with scope := relabel scope X.env }) (RR acc cenv.locals) s₄) E s₃) E s2 := by
  obtain ⟨W, ⟨m0, w0⟩, turn⟩ := hW
  refine wpAny_newObj_type (wpAny_newFunctionEnv ck.nocell (by intro y hy; simp at hy) (fun h₁ hns₁ hsb₁ => ?_) ck.kind)
  dsimp only at hns₁ hsb₁ ⊢
  generalize hP : s2.heap.push { cls := .type "list", dict := none, data := .seq ([] : List Value).toArray } = P at hns₁ hsb₁ ⊢
  generalize hD : s2.heap.objs.size = D at hP hns₁ hsb₁ ⊢
  have hCs : P.objs.size = D + 1 := by rw [<- hP, Heap.size_push, hD]
  generalize hC : P.objs.size = C at hCs hns₁ hsb₁ ⊢
  have hDC' : D < C := by rw [hCs]; exact Nat.lt_succ_self _
  have hDC : D ≠ C := Nat.ne_of_lt hDC'
  have below : ∀ b o, s2.heap.get? b = some o -> b < D := fun b o e => hD ▸ Heap.lt_size e
  have old : ∀ b o, s2.heap.get? b = some o -> h₁.get? b = some o := fun b o e => by
    have hb := below b o e
    exact hsb₁.extBut b o (Nat.ne_of_lt (Nat.lt_trans hb hDC')) (Heap.get?_push_of_some _ (hP ▸ Heap.get?_push_of_some _ e))
  have hDo : h₁.get? D = some (zel [] 0) := hsb₁.extBut _ _ hDC (Heap.get?_push_of_some _ (by rw [<- hP, <- hD]; exact Heap.get?_push_size _ rfl))
  have Hn : ∀ b, D <= b -> H2 b = none := fun b hb => I2.hok.fresh (by omega)
  have fpo : ∀ b ∈ fp, b < D := fun b hb => by obtain ⟨o, e, _⟩ := T.obj 0 _ st2 b hb; exact below b o e
  have clo : ∀ x c, cl.lookup x = some c -> c < D := fun x c e => by
    obtain ⟨v, o, ho, _⟩ := I2.cell x c (a1 x c e)
    exact below c o ho
  have stko : ∀ b ∈ frs X.stack, b < D := fun b hb => by
    obtain ⟨_, o, ho, _⟩ := I2.stack.mem hb
    exact below b o ho
  let Y : Cx := X.comp scope Nc cl C fp s2 H2
  have yk : Y.Ok := by
    refine ⟨I2.ok.mod, ck.kind, I2.ok.glob, I2.ok.blt, ?_, ?_, ?_, ?_, I2.ok.hd, I2.ok.frames, .inl rfl, ?_, I2.bs, ?_, ?_, ?_, I2.stack, I2.stkFree⟩
    · show s2.heap.objs.size <= C
      omega
    · exact fun x y c h1 h2 => I2.ok.inj x y c (a1 x c h1) (a1 y c h2)
    · intro x hx
      have : (x, NameKind.free) ∈ scope.names \/ (x, NameKind.cell) ∈ scope.names := by
        rcases hx with hx | hx
        · exact zno (.inl rfl) hx
        · exact zno (.inr rfl) hx
      rcases this with z | z
      · exact a2 x z
      · exact absurd rfl (ck.nocell _ z)
    · exact fun x c z => nomatch z
    · intro b hb
      refine ⟨?_, fun x c e => ?_⟩
      · exact Nat.ne_of_lt (Nat.lt_trans (fpo b hb) hDC')
      · exact (f2 b hb).2.2.2.2.1 x c (a1 x c e)
    · exact Nat.le_trans I2.ok.bsz I2.sz
    · intro b o e hb
      rcases (f2 b hb).2.2.2.1 with z | z
      · exact I2.ok.noex b o e z
      · exact absurd (Nat.lt_of_lt_of_le (Heap.lt_size e) (Nat.le_trans I2.ok.bsz z)) (Nat.lt_irrefl _)
    · intro b hb z
      rcases List.mem_cons.mp (I2.stkSub b z) with e | e
      · exact (f2 b hb).2.1 e
      · exact (f2 b hb).2.2.1 e
  have I4 : Inv Y [(D, zel [] 0)] (zer k js σ) H2 { s2 with heap := h₁, toks := s2.toks + ([] : List (Str × Value)).length } := by
    refine ⟨yk, rfl, I2.bare, Un.kept old, ⟨_, hns₁, fun i x v e1 e2 e3 => ?_⟩, fun x c e => ?_, Hn C (by omega), fun x c e => I2.freeC x c (a1 x c e), fun p hp => ?_, I2.hok.kept old, ?_⟩
    · have e1 : Nc[i]? = some x := e1
      unfold zer at e2
      have hik : k <= i := by
        rcases Nat.lt_or_ge i k with z | z
        · rw [List.getElem?_append_left (by simpa using z), List.getElem?_replicate] at e2
          simp [z] at e2
        · exact z
      rw [List.getElem?_append_right (by simpa using hik), List.getElem?_map] at e2
      simp only [List.length_replicate] at e2
      cases q : js[i - k]? with
      | none => rw [q] at e2; cases e2
      | some j =>
        rw [q] at e2
        obtain ⟨x', q1, q2, q3⟩ := ck.at' _ _ q
        rw [show k + (i - k) = i by omega, e1] at q1
        cases q1
        have e2 : (σ[j]?).getD none = some v := Option.some.inj e2
        have e2' : σ[j]? = some (some v) := by
          cases z : σ[j]? with
          | none => rw [z] at e2; cases e2
          | some y => rw [z] at e2; rw [show y = some v from e2]
        have hmem : (x, NameKind.free) ∈ scope.names := by
          have : ∀ l : List (Str × NameKind), l.lookup x = some .free -> (x, NameKind.free) ∈ l := by
            intro l
            induction l with
            | nil => intro z; cases z
            | cons a l ih =>
              intro z
              obtain ⟨n, kk⟩ := a
              rw [List.lookup_cons] at z
              cases hb : x == n with
              | true =>
                rw [hb] at z
                cases z
                rw [eq_of_beq hb]; exact List.mem_cons_self
              | false => rw [hb] at z; exact List.mem_cons_of_mem _ (ih z)
          exact this _ q3
        have hout : X.env.kindOf x = some .cell \/ X.env.kindOf x = some .free := ck.free _ hmem rfl
        obtain ⟨m, hn, hl⟩ := I2.loc
        have vis : Vis X.env.scope x := by
          rcases hout with z | z
          · exact .inr (.inl z)
          · exact .inr (.inr z)
        obtain ⟨u, r, l⟩ := hl j x v q2 e2' vis
        refine ⟨u, r, .inr ⟨zn6 q3, ?_⟩⟩
        rcases l with ⟨z, _⟩ | ⟨_, c, hcl, hcell⟩
        · rcases hout with y | y <;> (rw [y] at z; cases z)
        · obtain ⟨c', hc'⟩ := a2 x hmem
          have := a1 x c' hc'
          rw [hcl] at this
          cases this
          exact ⟨c, hc', hcell.keeps old⟩
    · obtain ⟨v, z⟩ := I2.cell x c (a1 x c e)
      exact ⟨v, z.keeps old⟩
    · have hp : p ∈ [(D, zel [] 0)] := (List.mem_append.mp hp).elim (fun z => nomatch (show p ∈ ([] : List (Addr × Obj)) from z)) id
      have hp : p = (D, zel [] 0) := List.mem_singleton.mp hp
      subst hp
      refine ⟨hDo, Hn D (Nat.le_refl _), hDC, fun z => ?_, fun v z => by cases z⟩
      exact absurd (stko D z) (Nat.lt_irrefl _)
    · show (zer k js σ).length = Nc.length
      rw [ck.len]
      simp [zer]
  have st1 : tn 0 h₁ := T.keep 0 _ _ st2 fun b _ o e => old b o e
  have fpY : ∀ {H' : Hp} {p : List (Addr × Obj)}, (∀ q ∈ p, q.1 = D) -> (∀ b ∈ fp, H' b = none) -> ∀ b ∈ fp, zee Y p H' b := fun {H' p} hp hn b hb => by
    refine ⟨hn b hb, (yk.exf b hb).1, yk.exfs b hb, .inl hb, fun x c e => (yk.exf b hb).2 x c e, fun q hq => ?_⟩
    have hq : q ∈ p := (List.mem_append.mp hq).elim (fun z => nomatch (show q ∈ ([] : List (Addr × Obj)) from z)) id
    rw [hp q hq]
    exact Nat.ne_of_gt (fpo b hb)
  have loop : codeAny (model X.prog X.w) X.A (.compLoop (.ListComp elt [⟨tg, iter, ifs, 0⟩] scope pos) 0 (.ref it) (.ref D) (compEnvC scope cl C X.env)) (RR (.ref D) C) { s2 with heap := h₁, toks := s2.toks + ([] : List (Str × Value)).length } := by
    refine zvl (fun n s' => ∃ i ys us nn σ' H', Inv Y [(D, zel us nn)] σ' H' s' /\ tn i s'.heap /\ (∀ b ∈ fp, H' b = none) /\ zaj ys us /\ W i n ys σ' H') ?_ m0
      ⟨0, [], [], 0, zer k js σ, H2, I4, st1, fun b hb => (f2 b hb).1, .nil, w0⟩
    rintro n s3 ⟨i, ys, us, nn, σ3, H3, I3, st3, fr3, rv, w3⟩
    have one : ∀ q ∈ [(D, zel us nn)], q.1 = D := fun q hq => by
      have : q = (D, zel us nn) := by simpa using hq
      rw [this]
    rcases turn i n ys σ3 H3 w3 with ⟨stop, hz, qn⟩ | ⟨go, hz, N, hN, step⟩
    · refine thn (T.done Y rfl rfl rfl hc i _ s3 σ3 H3 E00 I3 (fpY one fr3) st3 stop) fun r s4 ⟨hr, I5⟩ => ?_
      subst hr
      show RR (.ref D) C (.ok .next) s4
      obtain ⟨pD, nD, _, _, _⟩ := I5.pin (D, zel us nn) (by simp)
      have bs : Un (frs X.stack) fp H2 H3 s2.heap s4.heap := I5.base
      have h2D : ∀ b o, H2 b = some o -> b ≠ D := fun b o e z => by rw [z, Hn D (Nat.le_refl _)] at e; cases e
      have I6 : Inv X pins σ (upd H3 D (.lst ys)) s4 := by
        refine I2.call' (ch := fp) I5.os ⟨bs.keep, bs.slot, fun b o e n hx => ?_, bs.there, fun b xs e => ?_, fun b o u e => ?_, fun b ps e => ?_⟩ (fun b u e => ?_) I5.bare fun b hb => ?_
        · rw [zar (Nat.ne_of_lt (below b o e))]
          exact bs.free b o e n hx
        · rw [zar (h2D b _ e)]; exact bs.tups b xs e
        · rw [zar (h2D b _ e)]; exact bs.frzs b o u e
        · rw [zar (h2D b _ e)]; exact bs.tbls b ps e
        · by_cases hb : b = D
          · subst hb
            rw [zbe] at e
            cases e
            exact ⟨hz, us, nn, rv, pD⟩
          · rw [zar hb] at e
            exact (I5.hok b u e).stay (fun c v _ q => q) (fun c q => by rw [zar (zci q nD)]; exact q) fun c xs q => by rw [zar (zci q nD)]; exact q
        · obtain ⟨_, f1, _, f3, f4, f5⟩ := f2 b hb
          exact ⟨f3, f1, f4, f5⟩
      obtain ⟨m, hn, _⟩ := I5.loc
      refine hRR D C s4 _ I6 ⟨m, hn⟩ (I2.fpOk (by omega) ?_) (qn D (Hn D (Nat.le_refl _)) nD)
      rw [zar hDC.symm]
      exact I5.free
    · refine thn (T.item Y rfl rfl rfl hc i _ s3 σ3 H3 E00 I3 (fpY one fr3) st3 go) fun r s4 ⟨u, hr, h4⟩ => ?_
      subst hr
      refine thn h4 fun _ s5 ⟨x, H5, I5, r5, y5, st5, fr5⟩ => ?_
      have I5' := I5.pinned (fpY one fr5) (T.obj _ _ st5)
      refine thn (hg cl C fp s2 H2 _ s5 σ3 H5 x u _ I5' r5 (step x H5 y5)) fun _ s6 ⟨σ6, H6, I6, q6⟩ => ?_
      refine thn (ht cl C fp s2 H2 _ s6 σ6 H6 _ I6 q6) fun b s7 ⟨H7, I7, q7⟩ => ?_
      have kp : ∀ {H8 : Hp} {s8 : Shared}, Inv Y ([(D, zel us nn)] ++ zir fp s5.heap) σ6 H8 s8 -> tn (i + 1) s8.heap /\ (∀ b ∈ fp, H8 b = none) := fun {H8 s8} I8 => by
        refine ⟨T.keep _ _ _ st5 fun b hb o e => (I8.pin (b, o) (List.mem_append_right _ (List.mem_append_right _ (zk8 hb e)))).1, fun b hb => ?_⟩
        obtain ⟨o, e, d⟩ := T.obj _ _ st5 b hb
        exact (I8.pin (b, o) (List.mem_append_right _ (List.mem_append_right _ (zk8 hb e)))).2.1
      cases b with
      | false =>
        rw [if_neg Bool.false_ne_true] at q7 ⊢
        obtain ⟨m', hm, w7⟩ := hN _ _ _ q7
        obtain ⟨st7, fr7⟩ := kp I7
        exact ⟨m', hm, i + 1, ys, us, nn, σ6, H7, I7.unpinned, st7, fr7, rv, w7⟩
      | true =>
        rw [if_pos rfl] at q7 ⊢
        refine thn (he cl C fp s2 H2 _ s7 σ6 H7 _ I7 q7) fun uy s8 ⟨y, H8, I8, r8, q8⟩ => ?_
        obtain ⟨m', hm, w8⟩ := hN _ _ _ q8
        obtain ⟨st8, fr8⟩ := kp I8
        obtain ⟨pD, nD, pC, pF, _⟩ := I8.pin (D, zel us nn) (by simp)
        have hl := rv.length
        refine wpAny_list_append_plain (items := us.toArray) ⟨nn, pD⟩ (fun h' hl' sb => ?_) (by simp only [List.size_toArray] <;> omega)
        obtain ⟨n', e'⟩ := hl'
        have I8n : Inv Y [] σ6 H8 s8 := I8.pins_of (fun _ z => nomatch z)
        have I9 : Inv Y [] σ6 H8 { s8 with heap := h' } := I8n.turned (t' := s8.toks) (it := D) (fun b o hb e => (sb.2 b hb).trans e) nD pC (.inr (by show s2.heap.objs.size <= D; omega)) (fun x c e => Nat.ne_of_lt (clo x c e)) (fun p hp => nomatch hp)
        refine ⟨m', hm, i + 1, ys ++ [y], us ++ [uy], n', σ6, H8, I9.pins_of (fun p hp => ?_), ?_, fr8, rv.append (.cons r8 .nil), w8⟩
        · have hp : p = (D, zel (us ++ [uy]) n') := by simpa using hp
          subst hp
          refine ⟨?_, nD, pC, pF, fun v z => by cases z⟩
          have e2 : h'.get? D = some { cls := .type "list", data := .seq (us.toArray.push uy) n' } := e'
          show h'.get? D = some { cls := .type "list", data := .seq (us ++ [uy]).toArray n' }
          rw [e2]
          simp
        · exact T.keep _ _ _ st8 fun b hb o e => (sb.2 b (Nat.ne_of_lt (fpo b hb))).trans e
  exact codeAny_compStart_list loop (T.self X.A 0 _ _ _ st1 loop)
theorem z25 (k : Nat) (js : List Nat) (Nc : List Str) (hc : X.calm = true) (hi : PI X tg iter wi)
    (hg : ∀ cl C ex s₂ H₂, PG (X.comp scope Nc cl C ex s₂ H₂) tg g) (ht : ∀ cl C ex s₂ H₂, PTs (X.comp scope Nc cl C ex s₂ H₂) ifs tt) (he : ∀ cl C ex s₂ H₂, PE (X.comp scope Nc cl C ex s₂ H₂) elt te)
    (ck : zhm scope X.env.scope.names X.N Nc k js = true := by rfl) (hs : ∀ x, foldedSetIterable iter X.env x = pure x := by intro _; rfl) :
    PE X (.ListComp elt [⟨tg, iter, ifs, 0⟩] scope pos) (zna k js wi g tt te) := by
  intro pins s σ H Q I h
  have ck := zjp.of ck
  rw [eval_ListComp]
  obtain ⟨cl, hcl, a1, a2⟩ := zoo (scope := scope) (env := X.env) fun x hx e => I.ok.has x.1 (ck.free x hx e)
  refine wpAny_comprehension_free (use := none) rfl hs hcl ck.kind ck.loc (thn (hi pins s σ H _ I h) fun v s1 h1 => thn h1 fun itv s2 h2 => ?_)
  obtain ⟨it, fp, tn, J, H2, e, I2, T, st2, f2, hW⟩ := h2
  subst e
  refine zor (RR := fun acc C => compPost (model X.prog X.w) X.A X.xe none (EP X pins σ Q) acc C) hc ck hg ht he a1 a2 I2 T st2 f2 hW fun D C s' H' I' ⟨m, hn⟩ fC q => ?_
  obtain ⟨f0, f1, _, f3, f4, f5⟩ := fC
  exact ⟨m, hn, fun h' hs' => ⟨.ref D, H', I'.turned (t' := s'.toks) (fun b o hb e => (hs'.2 b hb).trans e) f0 f1 f3 f4 f5, rfl, q⟩⟩
theorem z1l {i : Nat} {x : Str} {pos' spos : Pos} (k : Nat) (js : List Nat) (Nc : List Str) (hN : X.N.Nodup) (hi' : X.N[i]? = some x) (hx : Loc X.env.scope x) (hc : X.calm = true) (hi : PI X tg iter wi)
    (hg : ∀ cl C ex s₂ H₂, PG (X.comp scope Nc cl C ex s₂ H₂) tg g) (ht : ∀ cl C ex s₂ H₂, PTs (X.comp scope Nc cl C ex s₂ H₂) ifs tt) (he : ∀ cl C ex s₂ H₂, PE (X.comp scope Nc cl C ex s₂ H₂) elt te)
    (hsw : swapsWith (.ListComp elt [⟨tg, iter, ifs, 0⟩] scope pos) (some (.Name x pos')) spos.line X.env = pure true := by rfl)
    (ck : zhm scope X.env.scope.names X.N Nc k js = true := by rfl) (hs : ∀ x, foldedSetIterable iter X.env x = pure x := by intro _; rfl)
    (hf : X.fn x = true \/ X.env.scope.names.lookup x = some .local := by first | exact .inl rfl | exact .inr rfl | assumption) :
    PS X (.Assign [.Name x pos'] (.ListComp elt [⟨tg, iter, ifs, 0⟩] scope pos) spos) (zf6 (zna k js wi g tt te) (zfv i)) := by
  intro pins s σ H D I h
  have ck := zjp.of ck
  rw [exec_Assign_Name_used _ _ _ _ hsw]
  refine wpAny_bind (wpAny_standAt (wpAny_bind ?_))
  show wpAny _ X.A (do let _ <- comprehension (.ListComp elt [⟨tg, iter, ifs, 0⟩] scope pos) scope X.env _ (newList []) false (eval iter X.env) (some (assign (.Name x pos') X.env))) _ _ s
  obtain ⟨cl, hcl, a1, a2⟩ := zoo (scope := scope) (env := X.env) fun x hx e => I.ok.has x.1 (ck.free x hx e)
  refine wpAny_bind (wpAny_mono (wpAny_comprehension_free (use := some (assign (.Name x pos') X.env)) (Q := fun _ s' => SP X pins D .next s') rfl hs hcl ck.kind ck.loc
    (thn (hi pins s σ H _ I h) fun v s1 h1 => thn h1 fun itv s2 h2 => ?_)) (fun _ s' hq => wpAny_pure (wpAny_pure hq)) fun _ _ e => e)
  obtain ⟨it, fp, tn, J, H2, e, I2, T, st2, f2, hW⟩ := h2
  subst e
  refine zor (RR := fun acc C => compPost (model X.prog X.w) X.A X.xe (some (assign (.Name x pos') X.env)) (fun _ s' => SP X pins D .next s') acc C) hc ck hg ht he a1 a2 I2 T st2 f2 hW fun D' C s' H' I' ⟨m, hn⟩ fC q => ?_
  obtain ⟨f0, f1, f2', f3, f4, f5⟩ := fC
  show wpAny _ X.A (assign (.Name x pos') X.env (.ref D')) _ _ _
  refine wpAny_assign_Name (zp0 (v := .ref D') I' hN hi' hx rfl (fun s'' I'' ⟨a, sb, ha⟩ => ?_) hf)
  have hCa : C ≠ a := by
    rcases ha with z | z
    · rw [z]; exact f1
    · exact (f4 x a z).symm
  exact ⟨m, hn.sameBut sb hCa, fun h' hs' => ⟨_, H', I''.turned (t' := s''.toks) (fun b o hb e => (hs'.2 b hb).trans e) f0 f1 f3 f4 f5, q⟩⟩
end
section
variable {K : PySem.W.Frag} {g : TG} {tt : TT} {te : TE} {σ0 : St} {H1 : Hp} {Q : VK}
end
end L2
namespace L2
open PySem PySem.Spec PyProof.Rows
section
variable {X : Cx}
theorem zs3 : OpR X (compareOp .Is) (fun x y H Q => ∃ b, y = .bl b /\ (x = .non \/ ∃ c, x = .bl c) /\ Q (.bl (decide (x = .bl b))) H) := by
  intro pins s σ H x y v u Q I rx ry h
  obtain ⟨b, rfl, hx, q⟩ := h
  cases ry
  rcases hx with rfl | ⟨c, rfl⟩
  · cases rx
    exact wpAny_is_plain rfl (zbh I q (by cases b <;> rfl))
  · cases rx
    exact wpAny_is_plain rfl (zbh I q (by cases b <;> cases c <;> rfl))
theorem zq5 : OpR X (compareOp .IsNot) (fun x y H Q => ∃ b, y = .bl b /\ (x = .non \/ ∃ c, x = .bl c) /\ Q (.bl (!decide (x = .bl b))) H) := by
  intro pins s σ H x y v u Q I rx ry h
  obtain ⟨b, rfl, hx, q⟩ := h
  cases ry
  rcases hx with rfl | ⟨c, rfl⟩
  · cases rx
    exact wpAny_isNot_plain rfl (zbh I q (by cases b <;> rfl))
  · cases rx
    exact wpAny_isNot_plain rfl (zbh I q (by cases b <;> cases c <;> rfl))
theorem z0r (hc : X.calm = true) : zcw X (.builtin "sum") (fun xs H Q => ∃ (p : Addr) (ns : List Int), xs = [.ref p] /\ SqL X.K H p (ns.map V.int) /\ Q (.int ns.sum) H) := by
  intro pins s σ H xs us Q I r h
  obtain ⟨p, ns, rfl, hq, q⟩ := h
  obtain ⟨u, rfl, rx⟩ := zg9 r
  cases rx
  obtain ⟨its, r', pl, hz⟩ := I.list hq
  have hi : IntsAre its ns := zyn r'
  obtain ⟨xs, e⟩ := hi.allInts.items
  refine sum_intListG (I.ok.hd hc) (xs := xs) (by rw [<- e]; exact pl.isList) fun h' tk t' hk => ?_
  have es : preSum (numAt xs) xs.size = ns.sum := by
    rw [preSum_eq, List.take_of_length_le (by simp), <- nums_intItems, <- e]
    show (numsOf its).sum = ns.sum
    rw [hi.numsOf]
  rw [es]
  exact ⟨.int ns.sum, H, I.kept hk, ⟨_, rfl⟩, q⟩
theorem zyd : zcw X (.builtin "isinstance") (fun xs H Q => ∃ x T t b, xs = [x, .ty T] /\ zdd X.K H x t /\ PySem.W.kitOne X.K t (.type T) = some b /\ Q (.bl b) H) := by
  intro pins s σ H xs us Q I r h
  obtain ⟨x, T, t, b, rfl, ty, e, q⟩ := h
  obtain ⟨u, w', rfl, rx, rc⟩ := z11 r
  cases (show w' = Value.type T from rc)
  exact z3u I rx ty e fun tk => ⟨.bl b, H, I.tok tk, rfl, q⟩
theorem PE.or {e : Expr} {t t' : TE} (h : PE X e t) (h' : PE X e t') : PE X e (fun σ H Q => t σ H Q \/ t' σ H Q) := by
  intro pins s σ H Q I q
  rcases q with q | q
  · exact h pins s σ H Q I q
  · exact h' pins s σ H Q I q
end
theorem Paired.at' {α β : Type} {F : α -> β -> Prop} : ∀ {l₁ : List α} {l₂ : List β} {i : Nat} {a : α} {b : β}, Paired F l₁ l₂ -> l₁[i]? = some a -> l₂[i]? = some b -> F a b
  | _, _, _, _, _, .nil, e, _ => by simp at e
  | _, _, 0, _, _, .cons r _, e, e' => by simp at e e'; subst e e'; exact r
  | _, _, i + 1, a, b, .cons _ t, e, e' => Paired.at' (i := i) t (by simpa using e) (by simpa using e')
theorem zaj.at' {xs : List V} {us : List Value} {i : Nat} {u : Value} (r : zaj xs us) (e : us[i]? = some u) : ∃ x, xs[i]? = some x /\ zam x u := by
  have hl := r.length
  have hi : i < xs.length := by have := (List.getElem?_eq_some_iff.mp e).1; omega
  refine ⟨xs[i], by simp [hi], ?_⟩
  obtain ⟨u', e', r'⟩ := r.get (i := i) (x := xs[i]) (by simp [hi])
  rw [e] at e'; cases e'; exact r'
section
variable {X : Cx} {pins : List (Addr × Obj)} {σ : St} {H : Hp} {s : Shared}
end
end L2
namespace L2
open PySem PySem.Spec PyProof.Rows
theorem zhr {env : Env} {k' : NameKind} (hk : k' ≠ .free) : ∀ {names : List (Str × NameKind)} {x : Str}, names.lookup x = some k' ->
    (names.map fun (n, k) => if (k == NameKind.free && env.scope.kind == .function && env.kindOf n == some .cell) then (n, NameKind.cell) else (n, k)).lookup x = some k'
  | [], _, h => by simp at h
  | (n, k) :: r, x, h => by
    have ih := @zhr env k' hk r x
    rw [List.map_cons]
    show List.lookup x ((if (k == NameKind.free && env.scope.kind == .function && env.kindOf n == some .cell) = true then (n, NameKind.cell) else (n, k)) :: _) = _
    rw [List.lookup_cons] at h
    cases hx : x == n with
    | true =>
      rw [hx] at h
      have e : k = k' := Option.some.inj h
      subst e
      have hf : (k == NameKind.free) = false := by simpa using hk
      rw [hf, Bool.false_and, Bool.false_and, if_neg Bool.false_ne_true, List.lookup_cons, hx]
    | false =>
      rw [hx] at h
      split
      · rw [List.lookup_cons, hx]; exact ih h
      · rw [List.lookup_cons, hx]; exact ih h
theorem z2r {env : Env} {scope : Scope} {x : Str} (h : Vis scope x) : Vis (relabel scope env) x := by
  rcases h with h | h | h
  · exact .inl (zhr (by decide) h)
  · exact .inr (.inl (zhr (by decide) h))
  · rcases zn6 (env := env) h with z | z
    · exact .inr (.inl z)
    · exact .inr (.inr z)
section
variable {X : Cx} {scope : Scope} {Nc : List Str} {cl : List (Str × Addr)} {C : Addr} {ex : List Addr} {s₂ : Shared} {H₂ : Hp}
theorem pvc (i : Nat) {x : Str} {pos : Pos} (hN : Nc[i]? = some x := by rfl) (hv : Vis scope x := by first | exact Or.inl rfl | exact Or.inr (Or.inl rfl) | exact Or.inr (Or.inr rfl)) (hd : (x == ("__debug__" : Str)) = false := by decide)
    (hcd : (x == ("__classdict__" : Str)) = false := by decide) : PE (X.comp scope Nc cl C ex s₂ H₂) (.Name x pos) (zde i) := zin hN (z2r hv) hd hcd
theorem pgc (i : Nat) {x : Str} {pos : Pos} (hN : Nc.Nodup := by decide +kernel) (hi : Nc[i]? = some x := by rfl) (hl : scope.names.lookup x = some .local := by rfl) : PG (X.comp scope Nc cl C ex s₂ H₂) (.Name x pos) (zfv i) :=
  zte (X := X.comp scope Nc cl C ex s₂ H₂) hN hi (.inl (zhr (by decide) hl)) (.inr (zhr (by decide) hl))
theorem glc {x : Str} (h : scope.names.lookup x = some .globalImplicit) : Gl (X.comp scope Nc cl C ex s₂ H₂) x := zhr (env := X.env) (by decide) h
end
theorem zbk {H : Hp} {p : Addr} {o : HO} (h : H p = none) : zan H (upd H p o) := fun b u e => by rw [zar (zci e h)]; exact e
theorem zan.tup {K : PySem.W.Frag} {H H' : Hp} {a : Addr} {xs : List V} (e : zan H H') (h : SqT K H a xs) : SqT K H' a xs := by
  rcases h with (h | ⟨o, h⟩) | h
  · exact .inl (.inl (e _ _ h))
  · exact .inl (.inr ⟨o, e _ _ h⟩)
  · exact .inr h
noncomputable def zeo (p : Addr) (H H' : Hp) : Prop := ∀ b o, H b = some o -> b ≠ p -> H' b = some o
theorem zeo.refl (p : Addr) (H : Hp) : zeo p H H := fun _ _ h _ => h
theorem zeo.trans {p : Addr} {H H1 H2 : Hp} (a : zeo p H H1) (b : zeo p H1 H2) : zeo p H H2 := fun c o h n => b c o (a c o h n) n
theorem zan.grow {p : Addr} {H H' : Hp} (a : zan H H') : zeo p H H' := fun c o h _ => a c o h
theorem zeo.same {p : Addr} {H H' : Hp} (a : zeo p H H') (h : H p = none) : zan H H' := fun c o e => a c o e (zci e h)
theorem zeo.seq {K : PySem.W.Frag} {p : Addr} {H H' : Hp} {a : Addr} {xs : List V} (e : zeo p H H') (n : a ≠ p) (h : SqL K H a xs) : SqL K H' a xs := by
  rcases h with (h | ⟨o, h⟩) | h
  · exact .inl (.inl (e _ _ h n))
  · exact .inl (.inr ⟨o, e _ _ h n⟩)
  · exact .inr h
noncomputable def zjd (K : PySem.W.Frag) (H : Hp) (L : Addr) (its : List (Int × Int)) : Prop :=
  ∃ zs : List (Addr × Int × Int), SqL K H L (zs.map fun z => V.ref z.1) /\ (∀ z ∈ zs, SqT K H z.1 [.int z.2.1, .int z.2.2]) /\ its = zs.map (·.2) /\ zs.length <= 1000
theorem zan.items {K : PySem.W.Frag} {H H' : Hp} {L : Addr} {its : List (Int × Int)} (e : zan H H') (h : zjd K H L its) : zjd K H' L its := by
  obtain ⟨zs, h1, h2, h3, h4⟩ := h
  exact ⟨zs, e.seq h1, fun z hz => e.tup (h2 z hz), h3, h4⟩
noncomputable def InR (n : Nat) (its : List (Int × Int)) : Prop := ∀ z ∈ its, 0 <= z.1 /\ z.1 < (n : Int)
noncomputable def za1 (p : Option Bool -> Bool) (es : List (Option Bool)) (its : List (Int × Int)) : Int := ((its.filter fun z => p (es.getD z.1.toNat none)).map (·.2)).sum
inductive Prt where
  | inn (t : Int) | out (t : Int) | least (k : Int) (its : List (Int × Int)) | most (k : Int) (its : List (Int × Int))
noncomputable def Prt.InR (n : Nat) : Prt -> Prop
  | .inn t => 0 <= t /\ t < (n : Int)
  | .out t => 0 <= t /\ t < (n : Int)
  | .least _ its => L2.InR n its
  | .most _ its => L2.InR n its
noncomputable def ztu (K : PySem.W.Frag) (H : Hp) (p : Addr) : Prt -> Prop
  | .inn t => SqT K H p [.str "in", .int t]
  | .out t => SqT K H p [.str "out", .int t]
  | .least k its => ∃ L, SqT K H p [.str "least", .int k, .ref L] /\ zjd K H L its
  | .most k its => ∃ L, SqT K H p [.str "most", .int k, .ref L] /\ zjd K H L its
noncomputable def bs (l : List Bool) : List (Option Bool) := l.map some
noncomputable def Prt.holds (rs ws : List Bool) : Prt -> Bool
  | .inn t => (rs.getD t.toNat false)
  | .out t => !(ws.getD t.toNat false)
  | .least k its => decide (k <= za1 (· == some true) (bs rs) its)
  | .most k its => decide (za1 (· == some true) (bs ws) its <= k)
end L2
namespace L2
open PySem PySem.Spec PyProof.Rows
section
variable {X : Cx} {pins : List (Addr × Obj)} {σ : St} {H : Hp} {s : Shared} {h' : Heap}
theorem Inv.turnedMany {t' : Nat} {ch : List Addr} (I : Inv X pins σ H s) (k : ∀ b o, b ∉ ch -> s.heap.get? b = some o -> h'.get? b = some o) (hf : ∀ b ∈ ch, zee X pins H b) : Inv X pins σ H { s with heap := h', toks := t' } := by
  refine I.step (g' := s.gens) (d' := s.drawn) (ch := ch) (fun b hb => ?_) (fun b o _ _ hc e _ => k b o hc e) (fun b o _ _ hc e _ => ⟨o.slots, k b o hc e⟩) (fun _ _ _ _ n => n)
    (fun b o hc e => ⟨o, k b o hc e⟩) (fun _ _ e => e) (fun _ _ _ e => e) (fun b ps e => ⟨#[], by rw [e]; simp⟩) (fun m hm => ?_) (fun b u e => ?_) I.bare
  · obtain ⟨_, f1, _, f3, f4, f5⟩ := hf b hb
    exact ⟨f3, f1, f4, f5⟩
  · obtain ⟨o, es, ep, ho, r⟩ := hm
    exact ⟨o, es, ep, k _ o (fun z => (hf _ z).2.1 rfl) ho, r⟩
  · refine (I.hok b u e).stay (fun c v hc q => k c v (fun z => ?_) q) (fun _ q => q) fun _ _ q => q
    have hn := (hf c z).1
    rcases hc with y | y
    · rw [y, e] at hn; cases hn
    · rw [hn] at y; cases y
theorem Inv.track {p : Addr} {o : HO} (I : Inv X pins σ H s) (f : zee X pins H p) (ob : zb2 X.prog X.w (upd H p o) s.heap p o) : Inv X pins σ (upd H p o) s := by
  obtain ⟨f0, f1, f2, f3, f4, f5⟩ := f
  have ne : ∀ b u, H b = some u -> b ≠ p := fun b u e => zci e f0
  have one : ∀ b : Addr, b ∉ [p] -> b ≠ p := fun b hb z => hb (by rw [z]; simp)
  refine I.step (g' := s.gens) (d' := s.drawn) (t' := s.toks) (h' := s.heap) (ch := [p]) (fun b hb => ?_) (fun b o _ _ hc e _ => e) (fun b o _ _ hc e _ => ⟨o.slots, e⟩) (fun b o hc e n => ?_)
    (fun b o hc e => ⟨o, e⟩) (fun b xs e => ?_) (fun b o u e => ?_) (fun b ps e => ⟨#[], ?_⟩) (fun m hm => hm) (fun b u e => ?_) I.bare
  · have e : b = p := by simpa using hb
    subst e
    exact ⟨f3, f1, f4, f5⟩
  · rw [zar (one b hc)]; exact n
  · rw [zar (ne b _ e)]; exact e
  · rw [zar (ne b _ e)]; exact e
  · rw [zar (ne b _ e), e]; simp
  · by_cases hb : b = p
    · subst hb
      rw [zbe] at e
      cases e
      exact ob
    · rw [zar hb] at e
      exact (I.hok b u e).stay (fun c v _ q => q) (fun c q => by rw [zar (ne c _ q)]; exact q) fun c xs q => by rw [zar (ne c _ q)]; exact q
end
section
variable {X : Cx} {elts : List Expr} {kx : Nat} {tpos : Pos}
end
end L2
namespace L2
open PySem PySem.Spec PyProof.Rows
noncomputable def zv8 (p : Int -> Bool) (its : List (Int × Int)) : Int := ((its.filter fun z => p z.1).map (·.2)).sum
noncomputable def Prt.sure (es : List (Option Bool)) : Prt -> Bool
  | .inn t => es.getD t.toNat none == some true
  | .out t => es.getD t.toNat none == some false
  | .least k its => decide (k <= za1 (· == some true) es its)
  | .most k its => decide (za1 (fun e => !(e == some false)) es its <= k)
noncomputable def zlf (L : Addr) (its : List (Int × Int)) (vs : List V) : Prt -> Prop
  | .inn t => vs = [.str "in", .int t]
  | .out t => vs = [.str "out", .int t]
  | .least k i => vs = [.str "least", .int k, .ref L] /\ i = its
  | .most k i => vs = [.str "most", .int k, .ref L] /\ i = its
theorem zlf.at {K : PySem.W.Frag} {H : Hp} {L p : Addr} {its : List (Int × Int)} {vs : List V} {r : Prt} (t : zlf L its vs r) (hp : H p = some (.tup vs)) (hL : zjd K H L its) : ztu K H p r := by
  cases r with
  | inn t' => cases t; exact SqT.of hp
  | out t' => cases t; exact SqT.of hp
  | least k i => obtain ⟨rfl, rfl⟩ := t; exact ⟨L, SqT.of hp, hL⟩
  | most k i => obtain ⟨rfl, rfl⟩ := t; exact ⟨L, SqT.of hp, hL⟩
structure zlo (Hb : Hp) (r L : Addr) (its : List (Int × Int)) (n : Nat) (rows : List (Addr × List V × Prt)) (H : Hp) : Prop where
  same : zan Hb H
  lst : H r = some (.lst (rows.map fun z => V.ref z.1))
  all : ∀ z ∈ rows, H z.1 = some (.tup z.2.1) /\ zlf L its z.2.1 z.2.2 /\ z.2.2.InR n
theorem zlo.more {Hb H : Hp} {r L : Addr} {its : List (Int × Int)} {n : Nat} {rows : List (Addr × List V × Prt)} (R : zlo Hb r L its n rows H) (hr : Hb r = none) {p : Addr} (hp : H p = none) {vs : List V} {pr : Prt} (ht : zlf L its vs pr) (hin : pr.InR n) :
    (upd H p (.tup vs)) r = some (.lst (rows.map fun z => V.ref z.1)) /\ zlo Hb r L its n (rows ++ [(p, vs, pr)]) (upd (upd H p (.tup vs)) r (.lst (rows.map (fun z => V.ref z.1) ++ [.ref p]))) /\
    (∀ b o, H b = some o -> b ≠ r -> (upd (upd H p (.tup vs)) r (.lst (rows.map (fun z => V.ref z.1) ++ [.ref p]))) b = some o) := by
  have nrp : r ≠ p := zci R.lst hp
  refine ⟨by rw [zar nrp]; exact R.lst, ⟨fun b o e => ?_, ?_, fun z hz' => ?_⟩, fun b o e nb => ?_⟩
  · rw [zar (zci e hr), zar (zci (R.same _ _ e) hp)]
    exact R.same _ _ e
  · rw [zbe, List.map_append]
    rfl
  · rcases List.mem_append.mp hz' with hz' | hz'
    · obtain ⟨h1, h2⟩ := R.all z hz'
      refine ⟨?_, h2⟩
      rw [zar (zsl h1 R.lst (by intro e; cases e)), zar (zci h1 hp)]
      exact h1
    · have : z = (p, vs, pr) := by simpa using hz'
      subst this
      refine ⟨?_, ht, hin⟩
      rw [zar nrp.symm, zbe]
  · rw [zar nb, zar (zci e hp)]
    exact e
end L2
namespace L2
open PySem PySem.Spec PyProof.Rows
inductive D where
  | non
  | bl (b : Bool)
  | int (i : Int)
  | str (x : Str)
  | lst (xs : List D)
  | tup (xs : List D)
  | kl (xs : List D)
  | kt (xs : List D)
  | dic (ks : List Key) (xs : List D)
  | ins (c : Str) (ns : List Str) (xs : List D)
  | kd (ks : List Key) (xs : List D)
  deriving Inhabited
set_option genInjectivity false in
structure Gc where
  K : PySem.W.Frag
  cl : Str -> Addr
mutual
noncomputable def Rep (G : Gc) (H : Hp) : D -> V -> Prop
  | .non, v => v = .non
  | .bl b, v => v = .bl b
  | .int i, v => v = .int i
  | .str x, v => v = .str x
  | .lst ds, v => ∃ a vs, v = .ref a /\ H a = some (.lst vs) /\ zae G H ds vs
  | .tup ds, v => ∃ a vs, v = .ref a /\ H a = some (.tup vs) /\ zae G H ds vs
  | .kl ds, v => ∃ a vs, v = .ref a /\ SqL G.K H a vs /\ zae G H ds vs
  | .kt ds, v => ∃ a vs, v = .ref a /\ SqT G.K H a vs /\ zae G H ds vs
  | .dic ks ds, v => ∃ a vs, v = .ref a /\ H a = some (.dK (ks.zip vs)) /\ ks.length = vs.length /\ zae G H ds vs
  | .ins c ns ds, v => ∃ a dx vs, v = .ref a /\ H a = some (.ins (G.cl c) dx (ns.zip vs)) /\ ns.length = vs.length /\ zae G H ds vs
  | .kd ks ds, v => ∃ a od vs, v = .ref a /\ H a = some (.frz od (.dK (ks.zip vs))) /\ ks.length = vs.length /\ zae G H ds vs
noncomputable def zae (G : Gc) (H : Hp) : List D -> List V -> Prop
  | [], vs => vs = []
  | d :: ds, vs => ∃ v r, vs = v :: r /\ Rep G H d v /\ zae G H ds r
end
section
variable {G : Gc} {H H' Hf Hf' : Hp}
mutual
theorem Rep.upM (s : zan H H') : ∀ (d : D) (v : V), Rep G H d v -> Rep G H' d v
  | .non, _, h => h
  | .bl _, _, h => h
  | .int _, _, h => h
  | .str _, _, h => h
  | .lst ds, _, ⟨a, vs, e, q, r⟩ => ⟨a, vs, e, s _ _ q, zae.upM s ds vs r⟩
  | .tup ds, _, ⟨a, vs, e, q, r⟩ => ⟨a, vs, e, s _ _ q, zae.upM s ds vs r⟩
  | .kl ds, _, ⟨a, vs, e, q, r⟩ => ⟨a, vs, e, s.seq q, zae.upM s ds vs r⟩
  | .kt ds, _, ⟨a, vs, e, q, r⟩ => ⟨a, vs, e, s.tup q, zae.upM s ds vs r⟩
  | .dic _ ds, _, ⟨a, vs, e, q, l, r⟩ => ⟨a, vs, e, s _ _ q, l, zae.upM s ds vs r⟩
  | .ins _ _ ds, _, ⟨a, dx, vs, e, q, l, r⟩ => ⟨a, dx, vs, e, s _ _ q, l, zae.upM s ds vs r⟩
  | .kd _ ds, _, ⟨a, od, vs, e, q, l, r⟩ => ⟨a, od, vs, e, s _ _ q, l, zae.upM s ds vs r⟩
theorem zae.upM (s : zan H H') : ∀ (ds : List D) (vs : List V), zae G H ds vs -> zae G H' ds vs
  | [], _, h => h
  | d :: ds, _, ⟨v, r, e, h1, h2⟩ => ⟨v, r, e, Rep.upM s d v h1, zae.upM s ds r h2⟩
end
theorem Rep.up {d : D} {v : V} (r : Rep G H d v) (s : zan H H') : Rep G H' d v := Rep.upM s d v r
theorem zae.up {ds : List D} {vs : List V} (r : zae G H ds vs) (s : zan H H') : zae G H' ds vs := zae.upM s ds vs r
theorem zae.nil : zae G H [] [] := rfl
theorem zae.cons {d : D} {ds : List D} {v : V} {vs : List V} (h : Rep G H d v) (t : zae G H ds vs) : zae G H (d :: ds) (v :: vs) := ⟨v, vs, rfl, h, t⟩
theorem zae.length : ∀ {ds : List D} {vs : List V}, zae G H ds vs -> ds.length = vs.length
  | [], _, h => by cases (show _ = [] from h); rfl
  | d :: ds, _, ⟨v, r, e, _, h⟩ => by subst e; simp [zae.length h]
theorem zae.append : ∀ {ds es : List D} {vs us : List V}, zae G H ds vs -> zae G H es us -> zae G H (ds ++ es) (vs ++ us)
  | [], _, _, _, h, t => by cases (show _ = [] from h); exact t
  | d :: ds, _, _, _, ⟨v, r, e, h1, h2⟩, t => by subst e; exact ⟨v, r ++ _, rfl, h1, zae.append h2 t⟩
theorem zae.get : ∀ {ds : List D} {vs : List V} {i : Nat} {d : D}, zae G H ds vs -> ds[i]? = some d -> ∃ v, vs[i]? = some v /\ Rep G H d v
  | [], _, _, _, _, e => by simp at e
  | d :: ds, _, 0, _, ⟨v, r, e, h1, _⟩, e' => by subst e; simp at e'; subst e'; exact ⟨v, rfl, h1⟩
  | d :: ds, _, i + 1, d', ⟨v, r, e, _, h2⟩, e' => by
    subst e
    obtain ⟨u, a, b⟩ := zae.get (i := i) (d := d') h2 (by simpa using e')
    exact ⟨u, by simpa using a, b⟩
theorem zae.get' : ∀ {ds : List D} {vs : List V} {i : Nat} {v : V}, zae G H ds vs -> vs[i]? = some v -> ∃ d, ds[i]? = some d /\ Rep G H d v := fun {ds vs i v} h e => by
  have hl := h.length
  have hi : i < ds.length := by have := (List.getElem?_eq_some_iff.mp e).1; omega
  obtain ⟨u, a, b⟩ := h.get (i := i) (d := ds[i]) (by simp [hi])
  rw [e] at a; cases a
  exact ⟨ds[i], by simp [hi], b⟩
theorem zae.ints : ∀ (ns : List Int), zae G H (ns.map D.int) (ns.map V.int)
  | [] => rfl
  | n :: ns => ⟨_, _, rfl, rfl, zae.ints ns⟩
theorem zae.take : ∀ {ds : List D} {vs : List V} (n : Nat), zae G H ds vs -> zae G H (ds.take n) (vs.take n)
  | _, _, 0, _ => rfl
  | [], _, n + 1, h => by cases (show _ = [] from h); rfl
  | d :: ds, _, n + 1, ⟨v, r, e, h1, h2⟩ => by subst e; exact ⟨v, r.take n, rfl, h1, zae.take n h2⟩
theorem zae.drop : ∀ {ds : List D} {vs : List V} (n : Nat), zae G H ds vs -> zae G H (ds.drop n) (vs.drop n)
  | _, _, 0, h => h
  | [], _, n + 1, h => by cases (show _ = [] from h); rfl
  | d :: ds, _, n + 1, ⟨v, r, e, h1, h2⟩ => by subst e; exact zae.drop n h2
theorem zae.set : ∀ {ds : List D} {vs : List V} (i : Nat) {d : D} {v : V}, zae G H ds vs -> Rep G H d v -> zae G H (ds.set i d) (vs.set i v)
  | [], _, _, _, _, h, _ => by cases (show _ = [] from h); exact .nil
  | e :: ds, _, 0, _, _, ⟨v, r, e', _, h2⟩, q => by subst e'; exact ⟨_, r, rfl, q, h2⟩
  | e :: ds, _, i + 1, _, _, ⟨v, r, e', h1, h2⟩, q => by subst e'; exact ⟨v, r.set i _, rfl, h1, zae.set i h2 q⟩
end
noncomputable def zfg : HO -> Bool
  | .tup _ => true
  | _ => false
structure Ext (Hf H Hf' H' : Hp) : Prop where
  f : zan Hf Hf'
  h : zan H H'
  s : zan Hf' H'
  n : ∀ l o, H l = some o -> zfg o = false -> Hf' l = Hf l
section
variable {Hf H Hf1 H1 Hf2 H2 : Hp} {p : Addr} {o : HO}
theorem Ext.refl (s : zan Hf H) : Ext Hf H Hf H := ⟨zan.refl _, zan.refl _, s, fun _ _ _ _ => rfl⟩
theorem Ext.trans (a : Ext Hf H Hf1 H1) (b : Ext Hf1 H1 Hf2 H2) : Ext Hf H Hf2 H2 := ⟨a.f.trans b.f, a.h.trans b.h, b.s, fun l o e t => (b.n l o (a.h l o e) t).trans (a.n l o e t)⟩
theorem Ext.new (s : zan Hf H) (h : H p = none) : Ext Hf H (upd Hf p o) (upd H p o) :=
  ⟨zbk (s.free h), zbk h, fun b u e => by
    by_cases hb : b = p
    · subst hb; rw [zbe] at e ⊢; exact e
    · rw [zar hb] at e ⊢; exact s b u e, fun l u e _ => by rw [zar (zci e h)]⟩
theorem Ext.tmp (s : zan Hf H) (h : H p = none) : Ext Hf H Hf (upd H p o) := ⟨zan.refl _, zbk h, s.trans (zbk h), fun _ _ _ _ => rfl⟩
theorem Ext.grow (s : zan Hf H) (g : zan H H1) : Ext Hf H Hf H1 := ⟨zan.refl _, g, s.trans g, fun _ _ _ _ => rfl⟩
theorem Ext.fix (a : Ext Hf H Hf1 H1) (hn : H p = none) (hf : Hf1 p = none) (hp : H1 p = some o) : Ext Hf H (upd Hf1 p o) H1 :=
  ⟨a.f.trans (zbk hf), a.h, fun b u e => by
    by_cases hb : b = p
    · subst hb; rw [zbe] at e; rw [hp]; exact e
    · rw [zar hb] at e; exact a.s b u e, fun l u e t => by rw [zar (zci e hn)]; exact a.n l u e t⟩
end
inductive O where
  | fz (d : D)
  | lst (xs : List O)
  | tup (xs : List O)
  | dic (ks : List Key) (xs : List O)
  | ins (c : Str) (ns : List Str) (xs : List O)
  | jnk (n : Nat)
  deriving Inhabited
mutual
noncomputable def OT (G : Gc) (Hf H : Hp) : O -> V -> List Addr -> Prop
  | .fz d, v, fp => Rep G Hf d v /\ fp = []
  | .lst os, v, fp => ∃ a vs fs, v = .ref a /\ H a = some (.lst vs) /\ OTs G Hf H os vs fs /\ fp = a :: fs
  | .tup os, v, fp => ∃ a vs, v = .ref a /\ H a = some (.tup vs) /\ OTs G Hf H os vs fp
  | .dic ks os, v, fp => ∃ a vs fs, v = .ref a /\ H a = some (.dK (ks.zip vs)) /\ ks.length = vs.length /\ OTs G Hf H os vs fs /\ fp = a :: fs
  | .ins c ns os, v, fp => ∃ a dx vs fs, v = .ref a /\ H a = some (.ins (G.cl c) dx (ns.zip vs)) /\ ns.length = vs.length /\ OTs G Hf H os vs fs /\ fp = a :: fs
  | .jnk n, v, fp => ∃ a vs, v = .ref a /\ H a = some (.lst vs) /\ vs.length <= n /\ fp = [a]
noncomputable def OTs (G : Gc) (Hf H : Hp) : List O -> List V -> List Addr -> Prop
  | [], vs, fp => vs = [] /\ fp = []
  | o :: os, vs, fp => ∃ v r f1 f2, vs = v :: r /\ OT G Hf H o v f1 /\ OTs G Hf H os r f2 /\ fp = f1 ++ f2
end
mutual
noncomputable def O.toD : O -> D
  | .fz d => d
  | .lst os => .lst (O.toDs os)
  | .tup os => .tup (O.toDs os)
  | .dic ks os => .dic ks (O.toDs os)
  | .ins c ns os => .ins c ns (O.toDs os)
  | .jnk _ => .non
noncomputable def O.toDs : List O -> List D
  | [] => []
  | o :: os => o.toD :: O.toDs os
end
mutual
noncomputable def O.kn : O -> Bool
  | .fz _ => true
  | .lst os => O.kns os
  | .tup os => O.kns os
  | .dic _ os => O.kns os
  | .ins _ _ os => O.kns os
  | .jnk _ => false
noncomputable def O.kns : List O -> Bool
  | [] => true
  | o :: os => o.kn && O.kns os
end
section
variable {G : Gc} {Hf H Hf' H' : Hp}
mutual
theorem OT.frameM (f : zan Hf Hf') : ∀ (o : O) (v : V) (fp : List Addr), OT G Hf H o v fp -> (∀ b u, H b = some u -> (zfg u = true \/ b ∈ fp) -> H' b = some u) -> OT G Hf' H' o v fp
  | .fz d, _, _, h, _ => ⟨h.1.up f, h.2⟩
  | .lst os, _, fp, ⟨a, vs, fs, e, q, r, ef⟩, k => ⟨a, vs, fs, e, k _ _ q (.inr (by rw [ef]; exact List.mem_cons_self)), OTs.frameM f os vs fs r (fun b u hb hm => k b u hb (hm.imp_right fun z => by rw [ef]; exact List.mem_cons_of_mem _ z)), ef⟩
  | .tup os, _, fp, ⟨a, vs, e, q, r⟩, k => ⟨a, vs, e, k _ _ q (.inl rfl), OTs.frameM f os vs fp r k⟩
  | .dic ks os, _, fp, ⟨a, vs, fs, e, q, z, r, ef⟩, k => ⟨a, vs, fs, e, k _ _ q (.inr (by rw [ef]; exact List.mem_cons_self)), z, OTs.frameM f os vs fs r (fun b u hb hm => k b u hb (hm.imp_right fun z => by rw [ef]; exact List.mem_cons_of_mem _ z)), ef⟩
  | .ins c ns os, _, fp, ⟨a, dx, vs, fs, e, q, z, r, ef⟩, k => ⟨a, dx, vs, fs, e, k _ _ q (.inr (by rw [ef]; exact List.mem_cons_self)), z, OTs.frameM f os vs fs r (fun b u hb hm => k b u hb (hm.imp_right fun z => by rw [ef]; exact List.mem_cons_of_mem _ z)), ef⟩
  | .jnk n, _, fp, ⟨a, vs, e, q, z, ef⟩, k => ⟨a, vs, e, k _ _ q (.inr (by rw [ef]; exact List.mem_cons_self)), z, ef⟩
theorem OTs.frameM (f : zan Hf Hf') : ∀ (os : List O) (vs : List V) (fp : List Addr), OTs G Hf H os vs fp -> (∀ b u, H b = some u -> (zfg u = true \/ b ∈ fp) -> H' b = some u) -> OTs G Hf' H' os vs fp
  | [], _, _, h, _ => h
  | o :: os, _, fp, ⟨v, r, f1, f2, e, h1, h2, ef⟩, k => ⟨v, r, f1, f2, e, OT.frameM f o v f1 h1 (fun b u hb hm => k b u hb (hm.imp_right fun z => by rw [ef]; exact List.mem_append_left _ z)), OTs.frameM f os r f2 h2 (fun b u hb hm => k b u hb (hm.imp_right fun z => by rw [ef]; exact List.mem_append_right _ z)), ef⟩
end
theorem OT.frame {o : O} {v : V} {fp : List Addr} (h : OT G Hf H o v fp) (f : zan Hf Hf') (k : ∀ b u, H b = some u -> (zfg u = true \/ b ∈ fp) -> H' b = some u) : OT G Hf' H' o v fp := OT.frameM f o v fp h k
theorem OT.up {o : O} {v : V} {fp : List Addr} (h : OT G Hf H o v fp) (f : zan Hf Hf') (s : zan H H') : OT G Hf' H' o v fp := h.frame f fun b u e _ => s b u e
theorem znu {α β : Type} : ∀ {ks : List α} {vs us : List β}, ks.length = vs.length -> ks.length = us.length -> ks.zip vs = ks.zip us -> vs = us
  | [], [], [], _, _, _ => rfl
  | k :: ks, v :: vs, u :: us, h1, h2, e => by
    rw [List.zip_cons_cons, List.zip_cons_cons] at e
    injection e with e1 e2
    injection e1 with _ e3
    rw [e3, znu (by simpa using h1) (by simpa using h2) e2]
  | [], _ :: _, _, h, _, _ => by cases h
  | [], [], _ :: _, _, h, _ => by cases h
  | _ :: _, [], _, h, _, _ => by cases h
  | _ :: _, _ :: _, [], _, h, _ => by cases h
mutual
theorem OT.funM : ∀ (o : O) (v : V) (f f' : List Addr), OT G Hf H o v f -> OT G Hf' H o v f' -> f = f'
  | .fz d, _, _, _, h, h' => h.2.trans h'.2.symm
  | .lst os, _, _, _, ⟨a, vs, fs, e, q, r, ef⟩, ⟨a', vs', fs', e', q', r', ef'⟩ => by
    subst e ef ef'
    cases e'
    rw [q] at q'
    cases q'
    rw [OTs.funM os vs fs fs' r r']
  | .tup os, _, f, f', ⟨a, vs, e, q, r⟩, ⟨a', vs', e', q', r'⟩ => by
    subst e
    cases e'
    rw [q] at q'
    cases q'
    exact OTs.funM os vs f f' r r'
  | .dic ks os, _, _, _, ⟨a, vs, fs, e, q, z, r, ef⟩, ⟨a', vs', fs', e', q', z', r', ef'⟩ => by
    subst e ef ef'
    cases e'
    rw [q] at q'
    have := znu z z' (HO.dK.inj (Option.some.inj q'))
    subst this
    rw [OTs.funM os vs fs fs' r r']
  | .ins c ns os, _, _, _, ⟨a, dx, vs, fs, e, q, z, r, ef⟩, ⟨a', dx', vs', fs', e', q', z', r', ef'⟩ => by
    subst e ef ef'
    cases e'
    rw [q] at q'
    have := znu z z' (HO.ins.inj (Option.some.inj q')).2.2
    subst this
    rw [OTs.funM os vs fs fs' r r']
  | .jnk n, _, _, _, ⟨a, vs, e, q, z, ef⟩, ⟨a', vs', e', q', z', ef'⟩ => by
    subst e ef ef'
    cases e'
    rfl
theorem OTs.funM : ∀ (os : List O) (vs : List V) (f f' : List Addr), OTs G Hf H os vs f -> OTs G Hf' H os vs f' -> f = f'
  | [], _, _, _, h, h' => h.2.trans h'.2.symm
  | o :: os, _, _, _, ⟨v, r, f1, f2, e, h1, h2, ef⟩, ⟨v', r', f1', f2', e', h1', h2', ef'⟩ => by
    subst e ef ef'
    cases e'
    rw [OT.funM o v f1 f1' h1 h1', OTs.funM os r f2 f2' h2 h2']
end
mutual
theorem OT.memM : ∀ (o : O) (v : V) (f : List Addr), OT G Hf H o v f -> ∀ a ∈ f, ∃ u, H a = some u /\ zfg u = false
  | .fz d, _, _, h, a, ha => by rw [h.2] at ha; cases ha
  | .lst os, _, _, ⟨a, vs, fs, e, q, r, ef⟩, b, hb => by
    subst ef
    rcases List.mem_cons.mp hb with z | z
    · subst z; exact ⟨_, q, rfl⟩
    · exact OTs.memM os vs fs r b z
  | .tup os, _, f, ⟨a, vs, e, q, r⟩, b, hb => OTs.memM os vs f r b hb
  | .dic ks os, _, _, ⟨a, vs, fs, e, q, z, r, ef⟩, b, hb => by
    subst ef
    rcases List.mem_cons.mp hb with z | z
    · subst z; exact ⟨_, q, rfl⟩
    · exact OTs.memM os vs fs r b z
  | .ins c ns os, _, _, ⟨a, dx, vs, fs, e, q, z, r, ef⟩, b, hb => by
    subst ef
    rcases List.mem_cons.mp hb with z | z
    · subst z; exact ⟨_, q, rfl⟩
    · exact OTs.memM os vs fs r b z
  | .jnk n, _, _, ⟨a, vs, e, q, z, ef⟩, b, hb => by
    subst ef
    rw [List.mem_singleton.mp hb]
    exact ⟨_, q, rfl⟩
theorem OTs.memM : ∀ (os : List O) (vs : List V) (f : List Addr), OTs G Hf H os vs f -> ∀ a ∈ f, ∃ u, H a = some u /\ zfg u = false
  | [], _, _, h, a, ha => by rw [h.2] at ha; cases ha
  | o :: os, _, _, ⟨v, r, f1, f2, e, h1, h2, ef⟩, a, ha => by
    subst ef
    rcases List.mem_append.mp ha with z | z
    · exact OT.memM o v f1 h1 a z
    · exact OTs.memM os r f2 h2 a z
end
mutual
theorem OT.repM (s : zan Hf H) : ∀ (o : O) (v : V) (f : List Addr), o.kn = true -> OT G Hf H o v f -> Rep G H o.toD v
  | .fz d, _, _, _, h => by rw [O.toD]; exact h.1.up s
  | .lst os, _, _, hk, ⟨a, vs, fs, e, q, r, ef⟩ => by rw [O.kn] at hk; rw [O.toD]; exact ⟨a, vs, e, q, OTs.repM s os vs fs hk r⟩
  | .tup os, _, f, hk, ⟨a, vs, e, q, r⟩ => by rw [O.kn] at hk; rw [O.toD]; exact ⟨a, vs, e, q, OTs.repM s os vs f hk r⟩
  | .dic ks os, _, _, hk, ⟨a, vs, fs, e, q, z, r, ef⟩ => by rw [O.kn] at hk; rw [O.toD]; exact ⟨a, vs, e, q, z, OTs.repM s os vs fs hk r⟩
  | .ins c ns os, _, _, hk, ⟨a, dx, vs, fs, e, q, z, r, ef⟩ => by rw [O.kn] at hk; rw [O.toD]; exact ⟨a, dx, vs, e, q, z, OTs.repM s os vs fs hk r⟩
  | .jnk _, _, _, hk, _ => by rw [O.kn] at hk; cases hk
theorem OTs.repM (s : zan Hf H) : ∀ (os : List O) (vs : List V) (f : List Addr), O.kns os = true -> OTs G Hf H os vs f -> zae G H (O.toDs os) vs
  | [], _, _, _, h => by rw [O.toDs]; exact h.1
  | o :: os, _, _, hk, ⟨v, r, f1, f2, e, h1, h2, ef⟩ => by
    rw [O.kns, Bool.and_eq_true] at hk
    rw [O.toDs]
    exact ⟨v, r, e, OT.repM s o v f1 hk.1 h1, OTs.repM s os r f2 hk.2 h2⟩
end
theorem OT.rep {o : O} {v : V} {f : List Addr} (h : OT G Hf H o v f) (s : zan Hf H) (hk : o.kn = true) : Rep G H o.toD v := OT.repM s o v f hk h
theorem OTs.fz : ∀ {ds : List D} {vs : List V}, zae G Hf ds vs -> OTs G Hf H (ds.map .fz) vs []
  | [], _, h => ⟨h, rfl⟩
  | d :: ds, _, ⟨v, r, e, h1, h2⟩ => ⟨v, r, [], [], e, ⟨h1, rfl⟩, OTs.fz h2, rfl⟩
end
inductive Sl where
  | no
  | im (d : D)
  | own (xs : List D)
  | ownd (ks : List Key) (xs : List D)
  | obj (c : Str) (ns : List Str) (xs : List D)
  | pin (l : Addr) (xs : List D)
  | pind (l : Addr) (ks : List Key) (xs : List D)
  | pino (l : Addr) (c : Str) (ns : List Str) (xs : List D)
  | deep (o : O)
  | val (u : V)
noncomputable def Sl.isOwn : Sl -> Bool
  | .own _ => true
  | .ownd _ _ => true
  | .obj _ _ _ => true
  | .pin _ _ => true
  | .pind _ _ _ => true
  | .pino _ _ _ _ => true
  | _ => false
noncomputable def Sl.calm : Sl -> Bool
  | .no => true
  | .im _ => true
  | _ => false
noncomputable def zc9 (G : Gc) (Hf H : Hp) (l : Addr) : Sl -> Prop
  | .own ds => ∃ vs, H l = some (.lst vs) /\ zae G Hf ds vs
  | .ownd ks ds => ∃ vs, H l = some (.dK (ks.zip vs)) /\ ks.length = vs.length /\ zae G Hf ds vs
  | .obj c ns ds => ∃ dx vs, H l = some (.ins (G.cl c) dx (ns.zip vs)) /\ ns.length = vs.length /\ zae G Hf ds vs
  | .pin l0 ds => l = l0 /\ ∃ vs, H l = some (.lst vs) /\ zae G Hf ds vs
  | .pind l0 ks ds => l = l0 /\ ∃ vs, H l = some (.dK (ks.zip vs)) /\ ks.length = vs.length /\ zae G Hf ds vs
  | .pino l0 c ns ds => l = l0 /\ ∃ dx vs, H l = some (.ins (G.cl c) dx (ns.zip vs)) /\ ns.length = vs.length /\ zae G Hf ds vs
  | _ => False
theorem zc9.there {G : Gc} {Hf H : Hp} {l : Addr} {s : Sl} (h : zc9 G Hf H l s) : ∃ o, H l = some o := by
  cases s with
  | own ds => obtain ⟨vs, h, _⟩ := h; exact ⟨_, h⟩
  | ownd ks ds => obtain ⟨vs, h, _⟩ := h; exact ⟨_, h⟩
  | obj c ns ds => obtain ⟨dx, vs, h, _⟩ := h; exact ⟨_, h⟩
  | pin l0 ds => obtain ⟨_, vs, h, _⟩ := h; exact ⟨_, h⟩
  | pind l0 ks ds => obtain ⟨_, vs, h, _⟩ := h; exact ⟨_, h⟩
  | pino l0 c ns ds => obtain ⟨_, dx, vs, h, _⟩ := h; exact ⟨_, h⟩
  | _ => exact h.elim
theorem zc9.there2 {G : Gc} {Hf H : Hp} {l : Addr} {s : Sl} (h : zc9 G Hf H l s) : ∃ o, H l = some o /\ zfg o = false := by
  cases s with
  | own ds => obtain ⟨vs, h, _⟩ := h; exact ⟨_, h, rfl⟩
  | ownd ks ds => obtain ⟨vs, h, _⟩ := h; exact ⟨_, h, rfl⟩
  | obj c ns ds => obtain ⟨dx, vs, h, _⟩ := h; exact ⟨_, h, rfl⟩
  | pin l0 ds => obtain ⟨_, vs, h, _⟩ := h; exact ⟨_, h, rfl⟩
  | pind l0 ks ds => obtain ⟨_, vs, h, _⟩ := h; exact ⟨_, h, rfl⟩
  | pino l0 c ns ds => obtain ⟨_, dx, vs, h, _⟩ := h; exact ⟨_, h, rfl⟩
  | _ => exact h.elim
theorem zc9.up {G : Gc} {Hf H Hf' H' : Hp} {l : Addr} {s : Sl} (h : zc9 G Hf H l s) (f : zan Hf Hf') (e : ∀ o, H l = some o -> H' l = some o) : zc9 G Hf' H' l s := by
  cases s with
  | own ds => obtain ⟨vs, h, r⟩ := h; exact ⟨vs, e _ h, r.up f⟩
  | ownd ks ds => obtain ⟨vs, h, z, r⟩ := h; exact ⟨vs, e _ h, z, r.up f⟩
  | obj c ns ds => obtain ⟨dx, vs, h, z, r⟩ := h; exact ⟨dx, vs, e _ h, z, r.up f⟩
  | pin l0 ds => obtain ⟨q, vs, h, r⟩ := h; exact ⟨q, vs, e _ h, r.up f⟩
  | pind l0 ks ds => obtain ⟨q, vs, h, z, r⟩ := h; exact ⟨q, vs, e _ h, z, r.up f⟩
  | pino l0 c ns ds => obtain ⟨q, dx, vs, h, z, r⟩ := h; exact ⟨q, dx, vs, e _ h, z, r.up f⟩
  | _ => exact h.elim
noncomputable def zc1 (G : Gc) (H0 Hf H : Hp) (v : Option V) : Sl -> Prop
  | .no => True
  | .im d => ∃ u, v = some u /\ Rep G Hf d u
  | .deep o => ∃ u fp, v = some u /\ OT G Hf H o u fp /\ fp.Nodup /\ ∀ a ∈ fp, H0 a = none /\ Hf a = none
  | .val u => v = some u
  | s => ∃ l, v = some (.ref l) /\ H0 l = none /\ Hf l = none /\ zc9 G Hf H l s
theorem zc1.own {G : Gc} {H0 Hf H : Hp} {v : Option V} {s : Sl} (hs : s.isOwn = true) (h : zc1 G H0 Hf H v s) : ∃ l, v = some (.ref l) /\ H0 l = none /\ Hf l = none /\ zc9 G Hf H l s := by
  cases s <;> first | exact h | cases hs
theorem zc1.ofOwn {G : Gc} {H0 Hf H : Hp} {v : Option V} {s : Sl} (hs : s.isOwn = true) (h : ∃ l, v = some (.ref l) /\ H0 l = none /\ Hf l = none /\ zc9 G Hf H l s) : zc1 G H0 Hf H v s := by
  cases s <;> first | exact h | cases hs
noncomputable def Holds (G : Gc) (Hf H : Hp) (s : Sl) (v : V) (a : Addr) : Prop := match s with
  | .deep o => ∃ fp, OT G Hf H o v fp /\ a ∈ fp
  | s => s.isOwn = true /\ v = .ref a
theorem Holds.own {G : Gc} {Hf H : Hp} {s : Sl} {v : V} {a : Addr} (hs : s.isOwn = true) : Holds G Hf H s v a ↔ v = .ref a := by
  cases s <;> first | exact ⟨fun h => h.2, fun h => ⟨rfl, h⟩⟩ | cases hs
theorem Holds.calm {G : Gc} {Hf H : Hp} {s : Sl} {v : V} {a : Addr} (h : Holds G Hf H s v a) (hs : s.calm = true) : False := by
  cases s <;> first | exact Bool.noConfusion h.1 | cases hs
theorem zc1.back {G : Gc} {H0 Hf H Hf' H' : Hp} {s : Sl} {v : V} {a : Addr} (q : zc1 G H0 Hf H (some v) s) (k : ∀ o fp, s = .deep o -> OT G Hf H o v fp -> OT G Hf' H' o v fp) (h : Holds G Hf' H' s v a) : Holds G Hf H s v a := by
  cases s with
  | deep o =>
    obtain ⟨u, fp, e, r, _⟩ := q
    cases e
    obtain ⟨fp', r', ha⟩ := h
    have := OT.funM o v fp fp' (k o fp rfl r) r'
    subst this
    exact ⟨fp, r, ha⟩
  | _ => exact h
theorem zc1.there {G : Gc} {H0 Hf H : Hp} {s : Sl} {v : V} {a : Addr} (q : zc1 G H0 Hf H (some v) s) (h : Holds G Hf H s v a) : ∃ o, H a = some o /\ zfg o = false := by
  cases hs : s.isOwn with
  | true =>
    obtain ⟨l, e, _, _, ho⟩ := q.own hs
    have e2 := (Holds.own hs).mp h
    cases e
    cases e2
    exact ho.there2
  | false =>
    cases s with
    | deep o =>
      obtain ⟨fp, r, ha⟩ := h
      exact OT.memM o v fp r a ha
    | _ => first | exact Bool.noConfusion h.1 | cases hs
structure zai (G : Gc) (Hf0 H0 Hf H : Hp) (σ : St) (ρ : List Sl) : Prop where
  ext : Ext Hf0 H0 Hf H
  len : σ.length = ρ.length
  at' : ∀ (i : Nat) (v : Option V) (s : Sl), σ[i]? = some v -> ρ[i]? = some s -> zc1 G H0 Hf H v s
  dj : ∀ (i j : Nat) (s t : Sl) (v w : V) (a : Addr), ρ[i]? = some s -> ρ[j]? = some t -> σ[i]? = some (some v) -> σ[j]? = some (some w) -> Holds G Hf H s v a -> Holds G Hf H t w a -> i = j
section
variable {G : Gc} {Hf0 H0 Hf H Hf' H' : Hp} {σ : St} {ρ : List Sl}
theorem zai.sub (h : zai G Hf0 H0 Hf H σ ρ) : zan Hf H := h.ext.s
theorem zai.inj (h : zai G Hf0 H0 Hf H σ ρ) (i j : Nat) (s t : Sl) (l : Addr) (a : ρ[i]? = some s) (b : ρ[j]? = some t) (hs : s.isOwn = true) (ht : t.isOwn = true) (c : σ[i]? = some (some (.ref l))) (d : σ[j]? = some (some (.ref l))) : i = j :=
  h.dj i j s t _ _ l a b c d ((Holds.own hs).mpr rfl) ((Holds.own ht).mpr rfl)
theorem zai.re {Hf0' H0' : Hp} {ρ' : List Sl} (h : zai G Hf0 H0 Hf H σ ρ) (x : Ext Hf0' H0' Hf' H') (hl : ρ'.length = ρ.length) (ha : ∀ (i : Nat) (v : Option V) (s : Sl), σ[i]? = some v -> ρ'[i]? = some s -> zc1 G H0' Hf' H' v s)
    (hd : ∀ (i : Nat) (s : Sl) (v : V) (a : Addr), ρ'[i]? = some s -> σ[i]? = some (some v) -> Holds G Hf' H' s v a -> ∃ t, ρ[i]? = some t /\ Holds G Hf H t v a) : zai G Hf0' H0' Hf' H' σ ρ' :=
  ⟨x, h.len.trans hl.symm, ha, fun i j s t v w a b c e f p q => by
    obtain ⟨s0, b0, p0⟩ := hd i s v a b e p
    obtain ⟨t0, c0, q0⟩ := hd j t w a c f q
    exact h.dj i j s0 t0 v w a b0 c0 e f p0 q0⟩
theorem zai.step (h : zai G Hf0 H0 Hf H σ ρ) (e : Ext Hf H Hf' H') : zai G Hf0 H0 Hf' H' σ ρ := by
  refine h.re (h.ext.trans e) rfl (fun i v s a b => ?_) fun i s v a b c d => ⟨s, b, (h.at' i _ s c b).back (fun o fp _ r => r.up e.f e.h) d⟩
  have q := h.at' i v s a b
  cases hs : s.isOwn with
  | true =>
    obtain ⟨l, e1, e2, e3, e4⟩ := q.own hs
    obtain ⟨o, ho, ht⟩ := e4.there2
    exact .ofOwn hs ⟨l, e1, e2, by rw [e.n l o ho ht]; exact e3, e4.up e.f fun o ho => e.h _ _ ho⟩
  | false =>
    cases s with
    | no => trivial
    | im d => obtain ⟨u, e1, r⟩ := q; exact ⟨u, e1, r.up e.f⟩
    | val u => exact q
    | deep o =>
      obtain ⟨u, fp, e1, r, n, z⟩ := q
      refine ⟨u, fp, e1, r.up e.f e.h, n, fun a ha => ⟨(z a ha).1, ?_⟩⟩
      obtain ⟨oo, ho, ht⟩ := OT.memM o u fp r a ha
      rw [e.n a oo ho ht]
      exact (z a ha).2
    | _ => cases hs
theorem zai.slot {i : Nat} {s : Sl} (h : zai G Hf0 H0 Hf H σ ρ) (e : ρ[i]? = some s) : ∃ v, σ[i]? = some v /\ zc1 G H0 Hf H v s := by
  have hi : i < σ.length := by rw [h.len]; exact (List.getElem?_eq_some_iff.mp e).1
  exact ⟨σ[i], by simp [hi], h.at' i _ s (by simp [hi]) e⟩
theorem zai.imm {i : Nat} {d : D} (h : zai G Hf0 H0 Hf H σ ρ) (e : ρ[i]? = some (.im d)) : ∃ v, σ[i]? = some (some v) /\ Rep G Hf d v := by
  obtain ⟨v, e1, u, e2, r⟩ := h.slot e
  subst e2
  exact ⟨u, e1, r⟩
theorem zai.ownAt {i : Nat} {s : Sl} (hs : s.isOwn = true) (h : zai G Hf0 H0 Hf H σ ρ) (e : ρ[i]? = some s) : ∃ l, σ[i]? = some (some (.ref l)) /\ H0 l = none /\ Hf l = none /\ zc9 G Hf H l s := by
  obtain ⟨v, e1, q⟩ := h.slot e
  obtain ⟨l, e2, q2⟩ := q.own hs
  rw [e2] at e1
  exact ⟨l, e1, q2⟩
theorem zb0 {α : Type} {l : List α} {i j : Nat} {x y : α} (h : (l.set i x)[j]? = some y) : (j = i /\ y = x /\ i < l.length) \/ (j ≠ i /\ l[j]? = some y) := by
  by_cases hj : j = i
  · subst hj
    left
    have hi : j < l.length := by have := (List.getElem?_eq_some_iff.mp h).1; simpa using this
    rw [List.getElem?_set_self hi] at h
    exact ⟨rfl, (Option.some.inj h).symm, hi⟩
  · right
    rw [List.getElem?_set_ne (Ne.symm hj)] at h
    exact ⟨hj, h⟩
theorem zai.setIm {i : Nat} {d : D} {v : V} (h : zai G Hf0 H0 Hf H σ ρ) (r : Rep G Hf d v) : zai G Hf0 H0 Hf H (σ.set i (some v)) (ρ.set i (.im d)) := by
  refine ⟨h.ext, by simpa using h.len, fun j u s a b => ?_, fun j k s t u w l a b c d' p q => ?_⟩
  · rcases zb0 b with ⟨e, e', _⟩ | ⟨e, b⟩
    · subst e e'
      rcases zb0 a with ⟨_, e', _⟩ | ⟨e, _⟩
      · subst e'; exact ⟨v, rfl, r⟩
      · exact absurd rfl e
    · rcases zb0 a with ⟨e', _⟩ | ⟨_, a⟩
      · exact absurd e' e
      · exact h.at' j u s a b
  · rcases zb0 a with ⟨e, e', _⟩ | ⟨e, a⟩
    · subst e'; exact (p.calm rfl).elim
    · rcases zb0 b with ⟨e2, e', _⟩ | ⟨e2, b⟩
      · subst e'; exact (q.calm rfl).elim
      · rcases zb0 c with ⟨e', _⟩ | ⟨_, c⟩
        · exact absurd e' e
        · rcases zb0 d' with ⟨e', _⟩ | ⟨_, d'⟩
          · exact absurd e' e2
          · exact h.dj j k s t u w l a b c d' p q
theorem zai.setNew {i : Nat} {u : V} {s : Sl} (h : zai G Hf0 H0 Hf H σ ρ) (e : Ext Hf H Hf' H') (ho : zc1 G H0 Hf' H' (some u) s) (hn : ∀ a, Holds G Hf' H' s u a -> H a = none) :
    zai G Hf0 H0 Hf' H' (σ.set i (some u)) (ρ.set i s) := by
  have h' := h.step e
  have no : ∀ (j : Nat) (t : Sl) (w : V) (a : Addr), ρ[j]? = some t -> σ[j]? = some (some w) -> Holds G Hf' H' t w a -> Holds G Hf' H' s u a -> False := fun j t w a b c p q => by
    have p0 := (h.at' j _ t c b).back (fun o fp _ r => r.up e.f e.h) p
    obtain ⟨o, ho, _⟩ := (h.at' j _ t c b).there p0
    rw [hn a q] at ho; cases ho
  refine ⟨h'.ext, by simpa using h.len, fun j w t a b => ?_, fun j k t t' v w l a b c d' p q => ?_⟩
  · rcases zb0 b with ⟨e, e', _⟩ | ⟨e, b⟩
    · subst e e'
      rcases zb0 a with ⟨_, e', _⟩ | ⟨e, _⟩
      · subst e'; exact ho
      · exact absurd rfl e
    · rcases zb0 a with ⟨e', _⟩ | ⟨_, a⟩
      · exact absurd e' e
      · exact h'.at' j w t a b
  · rcases zb0 a with ⟨e1, e1', _⟩ | ⟨e1, a⟩
    · rcases zb0 b with ⟨e2, e2', _⟩ | ⟨e2, b⟩
      · rw [e1, e2]
      · rcases zb0 c with ⟨_, e', _⟩ | ⟨e', _⟩
        · cases e'
          rw [e1'] at p
          rcases zb0 d' with ⟨e', _⟩ | ⟨_, d'⟩
          · exact absurd e' e2
          · exact (no k t' w l b d' q p).elim
        · exact absurd e1 e'
    · rcases zb0 c with ⟨e', _⟩ | ⟨_, c⟩
      · exact absurd e' e1
      · rcases zb0 b with ⟨e2, e2', _⟩ | ⟨e2, b⟩
        · rcases zb0 d' with ⟨_, e', _⟩ | ⟨e', _⟩
          · cases e'
            rw [e2'] at q
            exact (no j t v l a c p q).elim
          · exact absurd e2 e'
        · rcases zb0 d' with ⟨e', _⟩ | ⟨_, d'⟩
          · exact absurd e' e2
          · exact h'.dj j k t t' v w l a b c d' p q
theorem zai.setOwn {i : Nat} {l : Addr} {s : Sl} (hs : s.isOwn = true) (h : zai G Hf0 H0 Hf H σ ρ) (e : Ext Hf H Hf' H') (hn : H l = none) (hf : Hf' l = none) (ho : zc9 G Hf' H' l s) :
    zai G Hf0 H0 Hf' H' (σ.set i (some (.ref l))) (ρ.set i s) :=
  h.setNew e (.ofOwn hs ⟨l, rfl, h.ext.h.free hn, hf, ho⟩) fun a p => by cases (Holds.own hs).mp p; exact hn
theorem zai.chg {i : Nat} {s s' : Sl} {v : V} (h : zai G Hf0 H0 Hf H σ ρ) (e : ρ[i]? = some s) (el : σ[i]? = some (some v)) (k : ∀ b u, H b = some u -> Holds G Hf H s v b \/ H' b = some u) (ho : zc1 G H0 Hf H' (some v) s')
    (hh : ∀ a, Holds G Hf H' s' v a -> Holds G Hf H s v a \/ ∀ (j : Nat) (t : Sl) (w : V), ρ[j]? = some t -> σ[j]? = some (some w) -> Holds G Hf H t w a -> False) : zai G Hf0 H0 Hf H' σ (ρ.set i s') := by
  have q := h.at' i _ s el e
  have gone : ∀ b, Holds G Hf H s v b -> H0 b = none /\ Hf b = none := fun b p => by
    cases hs : s.isOwn with
    | true =>
      obtain ⟨l, e1, h0, hf, _⟩ := q.own hs
      have e2 := (Holds.own hs).mp p
      cases e1
      cases e2
      exact ⟨h0, hf⟩
    | false =>
      cases s with
      | deep o =>
        obtain ⟨u, fp, e1, r, n, z⟩ := q
        cases e1
        obtain ⟨fp', r', ha⟩ := p
        have := OT.funM o v fp fp' r r'
        subst this
        exact z b ha
      | _ => first | exact Bool.noConfusion p.1 | cases hs
  have fr : ∀ (j : Nat) (t : Sl) (w : V), j ≠ i -> ρ[j]? = some t -> σ[j]? = some (some w) -> ∀ o fp, t = .deep o -> OT G Hf H o w fp -> OT G Hf H' o w fp := fun j t w hj b c o fp et r => by
    subst et
    refine r.frame (zan.refl _) fun x u hx hm => ?_
    rcases k x u hx with z | z
    · rcases hm with hm | hm
      · obtain ⟨o', ho', ht'⟩ := q.there z
        rw [hx] at ho'
        cases ho'
        rw [hm] at ht'
        cases ht'
      · exact absurd (h.dj j i _ s w v x b e c el ⟨fp, r, hm⟩ z) hj
    · exact z
  refine ⟨⟨h.ext.f, fun b u e => ?_, fun b u e => ?_, h.ext.n⟩, by simpa using h.len, fun j u t a b => ?_, fun j j' t t' w w' a b c b' c' p p' => ?_⟩
  · rcases k b u (h.ext.h b u e) with z | z
    · rw [(gone b z).1] at e; cases e
    · exact z
  · rcases k b u (h.ext.s b u e) with z | z
    · rw [(gone b z).2] at e; cases e
    · exact z
  · rcases zb0 b with ⟨e', e2, _⟩ | ⟨en, b⟩
    · subst e' e2
      rw [el] at a; cases a
      exact ho
    · have q' := h.at' j u t a b
      cases ht : t.isOwn with
      | false =>
        cases t with
        | no => trivial
        | im d => exact q'
        | val u => exact q'
        | deep o =>
          obtain ⟨w, fp, e1, r, n, z⟩ := q'
          subst e1
          exact ⟨w, fp, rfl, fr j _ w en b a o fp rfl r, n, z⟩
        | _ => cases ht
      | true =>
        obtain ⟨l2, e2, e3, e4, q2⟩ := q'.own ht
        subst e2
        refine .ofOwn ht ⟨l2, rfl, e3, e4, q2.up (zan.refl _) fun o' ho' => ?_⟩
        rcases k l2 o' ho' with z | z
        · exact absurd (h.dj j i t s _ v l2 b e a el ((Holds.own ht).mpr rfl) z) en
        · exact z
  · have old : ∀ (j : Nat) (t : Sl) (w : V), (ρ.set i s')[j]? = some t -> σ[j]? = some (some w) -> Holds G Hf H' t w a -> (j = i /\ ∀ (j : Nat) (t : Sl) (w : V), ρ[j]? = some t -> σ[j]? = some (some w) -> Holds G Hf H t w a -> False) \/ ∃ t0, ρ[j]? = some t0 /\ Holds G Hf H t0 w a := fun j t w b y p => by
      rcases zb0 b with ⟨e', e2, _⟩ | ⟨en, b⟩
      · rw [e2] at p
        rw [e', el] at y
        cases y
        rw [e']
        rcases hh a p with z | z
        · exact .inr ⟨s, e, z⟩
        · exact .inl ⟨rfl, z⟩
      · exact .inr ⟨t, b, (h.at' j _ t y b).back (fr j t w en b y) p⟩
    rcases old j t w b b' p with ⟨z1, z2⟩ | ⟨t0, z1, z2⟩
    · rcases old j' t' w' c c' p' with ⟨y1, y2⟩ | ⟨t1, y1, y2⟩
      · rw [z1, y1]
      · exact (z2 j' t1 w' y1 c' y2).elim
    · rcases old j' t' w' c c' p' with ⟨y1, y2⟩ | ⟨t1, y1, y2⟩
      · exact (y2 j t0 w z1 b' z2).elim
      · exact h.dj j j' t0 t1 w w' a z1 y1 b' c' z2 y2
theorem zai.mutd {i : Nat} {l : Addr} {s s' : Sl} {o : HO} (hs : s.isOwn = true) (hs' : s'.isOwn = true) (h : zai G Hf0 H0 Hf H σ ρ) (e : ρ[i]? = some s) (el : σ[i]? = some (some (.ref l))) (ho : zc9 G Hf (upd H l o) l s') :
    zai G Hf0 H0 Hf (upd H l o) σ (ρ.set i s') := by
  obtain ⟨l', e1, h0, hf, q⟩ := h.ownAt hs e
  rw [el] at e1; cases e1
  refine h.chg e el (fun b u hb => ?_) (.ofOwn hs' ⟨l, rfl, h0, hf, ho⟩) fun a p => .inl ?_
  · by_cases hl : b = l
    · subst hl; exact .inl ((Holds.own hs).mpr rfl)
    · exact .inr (by rw [zar hl]; exact hb)
  · exact (Holds.own hs).mpr ((Holds.own hs').mp p)
theorem zai.fixd {i : Nat} {l : Addr} {s : Sl} {d : D} {o : HO} (hs : s.isOwn = true) (h : zai G Hf0 H0 Hf H σ ρ) (e : ρ[i]? = some s) (el : σ[i]? = some (some (.ref l))) (ho : H l = some o) (hr : Rep G (upd Hf l o) d (.ref l)) :
    zai G Hf0 H0 (upd Hf l o) H σ (ρ.set i (.im d)) := by
  obtain ⟨l', e1, h0, hf, q⟩ := h.ownAt hs e
  rw [el] at e1; cases e1
  refine h.re (h.ext.fix h0 hf ho) (by simp) (fun j u t a b => ?_) fun j t v a b c p => ?_
  · rcases zb0 b with ⟨e, e', _⟩ | ⟨en, b⟩
    · subst e e'
      rw [el] at a; cases a
      exact ⟨_, rfl, hr⟩
    · have q := h.at' j u t a b
      cases ht : t.isOwn with
      | false =>
        cases t with
        | no => trivial
        | im d => obtain ⟨u', e1, r⟩ := q; exact ⟨u', e1, r.up (zbk hf)⟩
        | val u' => exact q
        | deep o =>
          obtain ⟨w, fp, e1, r, n, z⟩ := q
          subst e1
          refine ⟨w, fp, rfl, r.up (zbk hf) (zan.refl _), n, fun x hx => ⟨(z x hx).1, ?_⟩⟩
          rw [zar (fun y => ?_)]
          · exact (z x hx).2
          · subst y
            exact en (h.dj j i _ s w _ x b e a el ⟨fp, r, hx⟩ ((Holds.own hs).mpr rfl))
        | _ => cases ht
      | true =>
        obtain ⟨l2, e2, e3, e4, q2⟩ := q.own ht
        subst e2
        refine .ofOwn ht ⟨l2, rfl, e3, ?_, q2.up (zbk hf) fun o' ho' => ho'⟩
        rw [zar (fun z => ?_)]
        · exact e4
        · subst z
          exact en (h.inj j i t s l2 b e ht hs a el)
  · rcases zb0 b with ⟨_, e', _⟩ | ⟨_, b⟩
    · subst e'; exact (p.calm rfl).elim
    · exact ⟨t, b, (h.at' j _ t c b).back (fun o fp _ r => r.up (zbk hf) (zan.refl _)) p⟩
end
end L2
namespace L2
open PySem PySem.Spec PyProof.Rows
section
variable {X : Cx} {e : Expr}
theorem PE.imp {t t' : TE} (h : PE X e t) (i : ∀ σ H Q, t' σ H Q -> t σ H Q) : PE X e t' := fun pins s σ H Q I q => h pins s σ H Q I (i σ H Q q)
theorem PT.imp {t t' : TT} (h : PT X e t) (i : ∀ σ H Q, t' σ H Q -> t σ H Q) : PT X e t' := fun pins s σ H Q I q => h pins s σ H Q I (i σ H Q q)
theorem PW.imp {t t' : TT} (h : PW X e t) (i : ∀ σ H Q, t' σ H Q -> t σ H Q) : PW X e t' := fun wh pins s σ H Q I q => h wh pins s σ H Q I (i σ H Q q)
theorem PA.imp {es : List Expr} {t t' : TA} (h : PA X es t) (i : ∀ σ H Q, t' σ H Q -> t σ H Q) : PA X es t' := fun pos pins s σ H Q I q => h pos pins s σ H Q I (i σ H Q q)
theorem PS.imp {st : Stmt} {t t' : TS} (h : PS X st t) (i : ∀ E σ H, t' E σ H -> t E σ H) : PS X st t' := fun pins s σ H E I q => h pins s σ H E I (i E σ H q)
theorem PSs.imp {st : List Stmt} {t t' : TS} (h : PSs X st t) (i : ∀ E σ H, t' E σ H -> t E σ H) : PSs X st t' := fun pins s σ H E I q => h pins s σ H E I (i E σ H q)
theorem PG.imp {t t' : TG} (h : PG X e t) (i : ∀ v σ H Q, t' v σ H Q -> t v σ H Q) : PG X e t' := fun pins s σ H v u Q I r q => h pins s σ H v u Q I r (i v σ H Q q)
theorem PGs.imp {es : List Expr} {t t' : TGs} (h : PGs X es t) (i : ∀ v σ H Q, t' v σ H Q -> t v σ H Q) : PGs X es t' := fun pins s σ H v u Q I r q => h pins s σ H v u Q I r (i v σ H Q q)
theorem PI.imp {tg : Expr} {t t' : TI} (h : PI X tg e t) (i : ∀ σ H R, t' σ H R -> t σ H R) : PI X tg e t' := fun pins s σ H R I q => h pins s σ H R I (i σ H R q)
theorem PTs.imp {ifs : List Expr} {t t' : TT} (h : PTs X ifs t) (i : ∀ σ H Q, t' σ H Q -> t σ H Q) : PTs X ifs t' := fun pins s σ H Q I q => h pins s σ H Q I (i σ H Q q)
theorem OpR.imp {f : Value -> Value -> Sem Value} {r r' : R2} (h : OpR X f r) (i : ∀ x y H Q, r' x y H Q -> r x y H Q) : OpR X f r' := fun pins s σ H x y v u Q I rx ry q => h pins s σ H x y v u Q I rx ry (i x y H Q q)
theorem zcw.imp {f : Value} {r r' : List V -> Hp -> VK -> Prop} (h : zcw X f r) (i : ∀ xs H Q, r' xs H Q -> r xs H Q) : zcw X f r' := fun pins s σ H xs us Q I rx q => h pins s σ H xs us Q I rx (i xs H Q q)
end
noncomputable abbrev Gx (c : Str -> Addr) (X : Cx) : Gc := ⟨X.K, c⟩
noncomputable def tD (G : Gc) (f : List Sl -> Option D) : TE := fun σ H Q => ∃ Hf0 H0 Hf ρ d, zai G Hf0 H0 Hf H σ ρ /\ f ρ = some d /\ ∀ v Hf' H', Ext Hf H Hf' H' -> Rep G Hf' d v -> Q v H'
noncomputable def tDB (G : Gc) (f : List Sl -> Option D) : TE := fun σ H Q => ∃ Hf0 H0 Hf ρ d, zai G Hf0 H0 Hf H σ ρ /\ f ρ = some d /\ ∀ v Hf' H', Ext Hf H Hf' H' -> Rep G H' d v -> Q v H'
noncomputable def tDC (G : Gc) (f : List Sl -> Option (List D)) : TE := fun σ H Q => ∃ Hf0 H0 Hf ρ ds, zai G Hf0 H0 Hf H σ ρ /\ f ρ = some ds /\ ∀ a vs Hf' H', Ext Hf H Hf' H' -> (SqL G.K H' a vs \/ SqT G.K H' a vs) -> zae G Hf' ds vs -> Q (.ref a) H'
noncomputable def tDO (G : Gc) (f : List Sl -> Option (List D)) : TE := fun σ H Q => ∃ Hf0 H0 Hf ρ ds, zai G Hf0 H0 Hf H σ ρ /\ f ρ = some ds /\
  ∀ l vs Hf' H', Ext Hf H Hf' H' -> H l = none -> Hf' l = none -> H' l = some (.lst vs) -> zae G Hf' ds vs -> Q (.ref l) H'
noncomputable def tDA (G : Gc) (f : List Sl -> Option (List D)) : TA := fun σ H Q => ∃ Hf0 H0 Hf ρ ds, zai G Hf0 H0 Hf H σ ρ /\ f ρ = some ds /\ ∀ vs Hf' H', Ext Hf H Hf' H' -> zae G Hf' ds vs -> Q vs H'
noncomputable def z3a (G : Gc) (f : List Sl -> Option (List D)) : TA := fun σ H Q => ∃ Hf0 H0 Hf ρ ds, zai G Hf0 H0 Hf H σ ρ /\ f ρ = some ds /\ ∀ vs Hf' H', Ext Hf H Hf' H' -> zae G H' ds vs -> Q vs H'
noncomputable def tDT (G : Gc) (f : List Sl -> Option Bool) : TT := fun σ H Q => ∃ Hf0 H0 Hf ρ b, zai G Hf0 H0 Hf H σ ρ /\ f ρ = some b /\ ∀ Hf' H', Ext Hf H Hf' H' -> Q b H'
noncomputable def DE (c : Str -> Addr) (X : Cx) (e : Expr) (f : List Sl -> Option D) : Prop := PE X e (tD (Gx c X) f)
noncomputable def DB (c : Str -> Addr) (X : Cx) (e : Expr) (f : List Sl -> Option D) : Prop := PE X e (tDB (Gx c X) f)
noncomputable def DC (c : Str -> Addr) (X : Cx) (e : Expr) (f : List Sl -> Option (List D)) : Prop := PE X e (tDC (Gx c X) f)
noncomputable def DO (c : Str -> Addr) (X : Cx) (e : Expr) (f : List Sl -> Option (List D)) : Prop := PE X e (tDO (Gx c X) f)
structure DA (c : Str -> Addr) (X : Cx) (es : List Expr) (f : List Sl -> Option (List D)) : Prop where
  pa : PA X es (tDA (Gx c X) f)
  len : ∀ ρ ds, f ρ = some ds -> ds.length = es.length
structure DAB (c : Str -> Addr) (X : Cx) (es : List Expr) (f : List Sl -> Option (List D)) : Prop where
  pa : PA X es (z3a (Gx c X) f)
  len : ∀ ρ ds, f ρ = some ds -> ds.length = es.length
noncomputable def DT (c : Str -> Addr) (X : Cx) (e : Expr) (f : List Sl -> Option Bool) : Prop := PT X e (tDT (Gx c X) f)
noncomputable def DW (c : Str -> Addr) (X : Cx) (e : Expr) (f : List Sl -> Option Bool) : Prop := PW X e (tDT (Gx c X) f)
noncomputable def D.scalar : D -> Bool
  | .non => true
  | .bl _ => true
  | .int _ => true
  | .str _ => true
  | _ => false
theorem Rep.sc {G : Gc} {H H' : Hp} {d : D} {v : V} (hs : d.scalar = true) (r : Rep G H d v) : Rep G H' d v := by
  cases d <;> first | exact r | cases hs
noncomputable def zfe : D -> Option (List D)
  | .lst xs => some xs
  | .tup xs => some xs
  | .kl xs => some xs
  | .kt xs => some xs
  | _ => none
theorem zli {G : Gc} {H : Hp} {d : D} {v : V} {ds : List D} (e : zfe d = some ds) (r : Rep G H d v) : ∃ a vs, v = .ref a /\ (SqL G.K H a vs \/ SqT G.K H a vs) /\ zae G H ds vs := by
  cases d with
  | lst xs => cases e; obtain ⟨a, vs, e1, q, r⟩ := r; exact ⟨a, vs, e1, .inl (SqL.of q), r⟩
  | tup xs => cases e; obtain ⟨a, vs, e1, q, r⟩ := r; exact ⟨a, vs, e1, .inr (SqT.of q), r⟩
  | kl xs => cases e; obtain ⟨a, vs, e1, q, r⟩ := r; exact ⟨a, vs, e1, .inl q, r⟩
  | kt xs => cases e; obtain ⟨a, vs, e1, q, r⟩ := r; exact ⟨a, vs, e1, .inr q, r⟩
  | _ => cases e
theorem zlm {K : PySem.W.Frag} {H H' : Hp} (s : zan H H') {a : Addr} {vs : List V} (h : SqL K H a vs \/ SqT K H a vs) : SqL K H' a vs \/ SqT K H' a vs := h.imp s.seq s.tup
noncomputable def zas (f : List Sl -> Option (List D)) (ρ : List Sl) : Option D := (f ρ).map .lst
noncomputable def zb8 (f : List Sl -> Option (List D)) (ρ : List Sl) : Option D := (f ρ).map .tup
noncomputable def zbc (f : List Sl -> Option D) (ρ : List Sl) : Option (List D) := (f ρ).bind zfe
noncomputable def zcr (f g : List Sl -> Option D) (ρ : List Sl) : Option D := (f ρ).or (g ρ)
section
variable {c : Str -> Addr} {X : Cx} {e a b : Expr} {es : List Expr} {pos : Pos}
theorem DE.db {f : List Sl -> Option D} (h : DE c X e f) : DB c X e f := PE.imp h fun σ H Q q_ => by
  obtain ⟨Hf0, H0, Hf, ρ, d, st, ef, k⟩ := q_
  exact (⟨Hf0, H0, Hf, ρ, d, st, ef, fun v Hf' H' x r => k v Hf' H' x (r.up x.s)⟩)
theorem DE.dc {f : List Sl -> Option D} (h : DE c X e f) : DC c X e (zbc f) := PE.imp h fun σ H Q q_ => by
  obtain ⟨Hf0, H0, Hf, ρ, ds, st, ef, k⟩ := q_
  unfold zbc at ef
  cases ed : f ρ with
  | none => rw [ed] at ef; cases ef
  | some d =>
    rw [ed] at ef
    refine ⟨Hf0, H0, Hf, ρ, d, st, ed, fun v Hf' H' x r => ?_⟩
    obtain ⟨a, vs, e1, q, rs⟩ := zli ef r
    subst e1
    exact k a vs Hf' H' x (zlm x.s q) rs
theorem DO.de {f : List Sl -> Option (List D)} (h : DO c X e f) : DE c X e (zas f) := PE.imp h fun σ H Q q_ => by
  obtain ⟨Hf0, H0, Hf, ρ, d, st, ef, k⟩ := q_
  unfold zas at ef
  cases ed : f ρ with
  | none => rw [ed] at ef; cases ef
  | some ds =>
    rw [ed] at ef
    have ef : D.lst ds = d := Option.some.inj ef
    subst ef
    exact ⟨Hf0, H0, Hf, ρ, ds, st, ed, fun l vs Hf' H' x hn hf hl r => k _ (upd Hf' l (.lst vs)) H' (x.fix hn hf hl) ⟨l, vs, rfl, zbe, r.up (zbk hf)⟩⟩
theorem DO.dc {f : List Sl -> Option (List D)} (h : DO c X e f) : DC c X e f := PE.imp h fun σ H Q q_ => by
  obtain ⟨Hf0, H0, Hf, ρ, ds, st, ef, k⟩ := q_
  exact (
  ⟨Hf0, H0, Hf, ρ, ds, st, ef, fun l vs Hf' H' x hn hf hl r => k l vs Hf' H' x (.inl (SqL.of hl)) r⟩)
theorem DB.sc {f : List Sl -> Option D} (h : DB c X e f) (hs : ∀ ρ d, f ρ = some d -> d.scalar = true) : DE c X e f := PE.imp h fun σ H Q q_ => by
  obtain ⟨Hf0, H0, Hf, ρ, d, st, ef, k⟩ := q_
  exact (
  ⟨Hf0, H0, Hf, ρ, d, st, ef, fun v Hf' H' x r => k v Hf' H' x (r.sc (hs ρ d ef))⟩)
theorem DE.orE {f g : List Sl -> Option D} (h : DE c X e f) (h' : DE c X e g) : DE c X e (zcr f g) := fun pins s σ H Q I q_ => by
  obtain ⟨Hf0, H0, Hf, ρ, d, st, ef, k⟩ := q_
  unfold zcr at ef
  cases ed : f ρ with
  | some d' =>
    rw [ed] at ef
    cases ef
    exact h pins s σ H Q I ⟨Hf0, H0, Hf, ρ, _, st, ed, k⟩
  | none =>
    rw [ed] at ef
    exact h' pins s σ H Q I ⟨Hf0, H0, Hf, ρ, d, st, ef, k⟩
noncomputable def zaa (i : Nat) (ρ : List Sl) : Option D := match ρ[i]? with
  | some (.im d) => some d
  | _ => none
noncomputable def zaf (i : Nat) (ρ : List Sl) : Option (List D) := match ρ[i]? with
  | some (.im d) => zfe d
  | some (.own xs) => some xs
  | _ => none
theorem zui {i : Nat} {ρ : List Sl} {d : D} (h : zaa i ρ = some d) : ρ[i]? = some (.im d) := by
  unfold zaa at h
  cases e : ρ[i]? with
  | none => rw [e] at h; cases h
  | some s => rw [e] at h; cases s <;> cases h; rfl
theorem zsy {i : Nat} (h : PE X e (zde i)) : DE c X e (zaa i) := PE.imp h fun σ H Q q_ => by
  obtain ⟨Hf0, H0, Hf, ρ, d, st, ef, k⟩ := q_
  obtain ⟨v, e1, r⟩ := st.imm (zui ef)
  exact ⟨v, e1, k v Hf H (Ext.refl st.sub) r⟩
theorem zrh {i : Nat} (h : PE X e (zde i)) : DC c X e (zaf i) := PE.imp h fun σ H Q q_ => by
  obtain ⟨Hf0, H0, Hf, ρ, ds, st, ef, k⟩ := q_
  unfold zaf at ef
  cases es : ρ[i]? with
  | none => rw [es] at ef; cases ef
  | some s =>
    rw [es] at ef
    cases s with
    | im d =>
      obtain ⟨v, e1, r⟩ := st.imm es
      obtain ⟨a, vs, e2, q, rs⟩ := zli ef r
      subst e2
      exact ⟨_, e1, k a vs Hf H (Ext.refl st.sub) (zlm st.sub q) rs⟩
    | own xs =>
      cases ef
      obtain ⟨l, e1, _, _, vs, q, r⟩ := st.ownAt rfl es
      exact ⟨_, e1, k l vs Hf H (Ext.refl st.sub) (.inl (SqL.of q)) r⟩
    | _ => cases ef
theorem zk1 {v : V} {d : D} (h : PE X e (tC v)) (r : ∀ G H, Rep G H d v) : DE c X e (fun _ => some d) := PE.imp h fun σ H Q q_ => by
  obtain ⟨Hf0, H0, Hf, ρ, d', st, ef, k⟩ := q_
  cases ef
  exact k v Hf H (Ext.refl st.sub) (r _ _)
theorem zad {i : Int} {j} : DE c X (.Constant (.int i) j pos) (fun _ => some (.int i)) := zk1 zv9 fun _ _ => rfl
theorem zca {i : Bool} {j} : DE c X (.Constant (.bool i) j pos) (fun _ => some (.bl i)) := zk1 z2v fun _ _ => rfl
theorem zc5 {j} : DE c X (.Constant .none j pos) (fun _ => some .non) := zk1 z4t fun _ _ => rfl
theorem zbw {i : Str} {j} : DE c X (.Constant (.str i) j pos) (fun _ => some (.str i)) := zk1 z24 fun _ _ => rfl
theorem dv (i : Nat) {x : Str} (hN : X.N[i]? = some x := by rfl) (hv : Vis X.env.scope x := by first | exact Or.inl rfl | exact Or.inr (Or.inl rfl) | exact Or.inr (Or.inr rfl)) (hd : (x == ("__debug__" : Str)) = false := by decide)
    (hcd : (x == ("__classdict__" : Str)) = false := by decide) : DE c X (.Name x pos) (zaa i) := zsy (zin hN hv hd hcd)
theorem dvC (i : Nat) {x : Str} (hN : X.N[i]? = some x := by rfl) (hv : Vis X.env.scope x := by first | exact Or.inl rfl | exact Or.inr (Or.inl rfl) | exact Or.inr (Or.inr rfl)) (hd : (x == ("__debug__" : Str)) = false := by decide)
    (hcd : (x == ("__classdict__" : Str)) = false := by decide) : DC c X (.Name x pos) (zaf i) := zrh (zin hN hv hd hcd)
noncomputable def zab (f : List Sl -> Option D) (g : List Sl -> Option (List D)) (ρ : List Sl) : Option (List D) := (f ρ).bind fun d => (g ρ).map fun ds => d :: ds
theorem zjw {f : List Sl -> Option D} {g : List Sl -> Option (List D)} {ρ : List Sl} {ds : List D} (h : zab f g ρ = some ds) : ∃ d r, f ρ = some d /\ g ρ = some r /\ ds = d :: r := by
  unfold zab at h
  cases e1 : f ρ with
  | none => rw [e1] at h; cases h
  | some d =>
    cases e2 : g ρ with
    | none => rw [e1, e2] at h; cases h
    | some r => rw [e1, e2] at h; cases h; exact ⟨d, r, rfl, rfl, rfl⟩
theorem zag : DA c X [] (fun _ => some []) := ⟨PA.imp zei fun σ H Q ⟨Hf0, H0, Hf, ρ, ds, st, ef, k⟩ => by cases ef; exact k [] Hf H (Ext.refl st.sub) rfl, fun ρ ds h => by cases h; rfl⟩
theorem zac {f : List Sl -> Option D} {g : List Sl -> Option (List D)} (ha : DE c X e f) (hr : DA c X es g) (hs : starEach (e :: es) X.env = (false, eval e X.env) :: starEach es X.env := by rfl) : DA c X (e :: es) (zab f g) := by
  refine ⟨PA.imp (zd0 ha hr.pa hs) fun σ H Q ⟨Hf0, H0, Hf, ρ, ds, st, ef, k⟩ => ?_, fun ρ ds h => ?_⟩
  · obtain ⟨d, r, e1, e2, rfl⟩ := zjw ef
    exact ⟨Hf0, H0, Hf, ρ, d, st, e1, fun v Hf1 H1 x1 r1 => ⟨Hf0, H0, Hf1, ρ, r, st.step x1, e2, fun vs Hf2 H2 x2 r2 => k _ Hf2 H2 (x1.trans x2) (.cons (r1.up x2.f) r2)⟩⟩
  · obtain ⟨d, r, e1, e2, rfl⟩ := zjw h
    simp [hr.len ρ r e2]
theorem zdu : DAB c X [] (fun _ => some []) := ⟨PA.imp zei fun σ H Q ⟨Hf0, H0, Hf, ρ, ds, st, ef, k⟩ => by cases ef; exact k [] Hf H (Ext.refl st.sub) rfl, fun ρ ds h => by cases h; rfl⟩
theorem zdt {f : List Sl -> Option D} {g : List Sl -> Option (List D)} (ha : DB c X e f) (hr : DAB c X es g) (hs : starEach (e :: es) X.env = (false, eval e X.env) :: starEach es X.env := by rfl) : DAB c X (e :: es) (zab f g) := by
  refine ⟨PA.imp (zd0 ha hr.pa hs) fun σ H Q ⟨Hf0, H0, Hf, ρ, ds, st, ef, k⟩ => ?_, fun ρ ds h => ?_⟩
  · obtain ⟨d, r, e1, e2, rfl⟩ := zjw ef
    exact ⟨Hf0, H0, Hf, ρ, d, st, e1, fun v Hf1 H1 x1 r1 => ⟨Hf0, H0, Hf1, ρ, r, st.step x1, e2, fun vs Hf2 H2 x2 r2 => k _ Hf2 H2 (x1.trans x2) (.cons (r1.up x2.h) r2)⟩⟩
  · obtain ⟨d, r, e1, e2, rfl⟩ := zjw h
    simp [hr.len ρ r e2]
theorem zbz {f : List Sl -> Option (List D)} (h : DA c X es f) (hz : es.length <= 1000 := by exact Nat.le_of_ble_eq_true rfl) : DO c X (.List es pos) f := PE.imp (z4p h.pa) fun σ H Q ⟨Hf0, H0, Hf, ρ, ds, st, ef, k⟩ =>
  ⟨Hf0, H0, Hf, ρ, ds, st, ef, fun vs Hf' H' x r => ⟨by
    rw [<- r.length, h.len ρ ds ef]
    exact Nat.le_of_lt (zps hz), fun p hp => k p vs Hf' (upd H' p (.lst vs)) (x.trans (Ext.tmp x.s hp)) (x.h.free hp) (x.s.free hp) zbe r⟩⟩
theorem zcl {f : List Sl -> Option (List D)} {k' : Nat} (h : DA c X es f) (hz : es.length <= 1000 := by exact Nat.le_of_ble_eq_true rfl) : DE c X (.Tuple es k' pos) (zb8 f) := PE.imp (z3g h.pa) fun σ H Q q_ => by
  obtain ⟨Hf0, H0, Hf, ρ, d, st, ef, k⟩ := q_
  unfold zb8 at ef
  cases ed : f ρ with
  | none => rw [ed] at ef; cases ef
  | some ds =>
    rw [ed] at ef
    have ef : D.tup ds = d := Option.some.inj ef
    subst ef
    exact ⟨Hf0, H0, Hf, ρ, ds, st, ed, fun vs Hf' H' x r => ⟨by
      rw [<- r.length, h.len ρ ds ed]
      exact Nat.le_of_lt (zps hz), fun p hp => k _ (upd Hf' p (.tup vs)) (upd H' p (.tup vs)) (x.trans (Ext.new x.s hp)) ⟨p, vs, rfl, zbe, r.up (zbk (x.s.free hp))⟩⟩⟩
noncomputable def rD (G : Gc) (m : D -> D -> Option D) : R2 := fun vx vy H Q => ∃ Hf x y d, zan Hf H /\ Rep G Hf x vx /\ Rep G Hf y vy /\ m x y = some d /\ ∀ v Hf' H', Ext Hf H Hf' H' -> Rep G Hf' d v -> Q v H'
noncomputable abbrev OpD (c : Str -> Addr) (X : Cx) (f : Value -> Value -> Sem Value) (m : D -> D -> Option D) : Prop := OpR X f (rD (Gx c X) m)
noncomputable def m2 (m : D -> D -> Option D) (f g : List Sl -> Option D) (ρ : List Sl) : Option D := (f ρ).bind fun x => (g ρ).bind fun y => m x y
theorem znd {m : D -> D -> Option D} {f g : List Sl -> Option D} {ρ : List Sl} {d : D} (h : m2 m f g ρ = some d) : ∃ x y, f ρ = some x /\ g ρ = some y /\ m x y = some d := by
  unfold m2 at h
  cases e1 : f ρ with
  | none => rw [e1] at h; cases h
  | some x =>
    cases e2 : g ρ with
    | none => rw [e1, e2] at h; cases h
    | some y => rw [e1, e2] at h; exact ⟨x, y, rfl, rfl, h⟩
theorem two {m : D -> D -> Option D} {f g : List Sl -> Option D} {r : R2} {σ : St} {H : Hp} {Q : VK} (hr : ∀ x y H Q, rD (Gx c X) m x y H Q -> r x y H Q) (h : tD (Gx c X) (m2 m f g) σ H Q) : tOp r (tD (Gx c X) f) (tD (Gx c X) g) σ H Q := by
  obtain ⟨Hf0, H0, Hf, ρ, d, st, ef, k⟩ := h
  obtain ⟨x, y, e1, e2, e3⟩ := znd ef
  exact ⟨Hf0, H0, Hf, ρ, x, st, e1, fun v Hf1 H1 x1 r1 => ⟨Hf0, H0, Hf1, ρ, y, st.step x1, e2, fun u Hf2 H2 x2 r2 => hr _ _ _ _ ⟨Hf2, x, y, d, x2.s, r1.up x2.f, r2, e3, fun w Hf3 H3 x3 r3 => k w Hf3 H3 ((x1.trans x2).trans x3) r3⟩⟩⟩
theorem zoz {m : D -> D -> Option D} {f g : List Sl -> Option D} {r : R2} {σ : St} {H : Hp} {Q : VK} (hr : ∀ x y H Q, rD (Gx c X) m x y H Q -> r x y H Q) (hs : ∀ x y d, m x y = some d -> d.scalar = true) (h : tD (Gx c X) (m2 m f g) σ H Q) : tOp r (tDB (Gx c X) f) (tDB (Gx c X) g) σ H Q := by
  obtain ⟨Hf0, H0, Hf, ρ, d, st, ef, k⟩ := h
  obtain ⟨x, y, e1, e2, e3⟩ := znd ef
  exact ⟨Hf0, H0, Hf, ρ, x, st, e1, fun v Hf1 H1 x1 r1 => ⟨Hf0, H0, Hf1, ρ, y, st.step x1, e2, fun u Hf2 H2 x2 r2 => hr _ _ _ _ ⟨H2, x, y, d, zan.refl _, r1.up x2.h, r2, e3, fun w Hf3 H3 x3 r3 =>
    k w Hf2 H3 ((x1.trans x2).trans (Ext.grow x2.s x3.h)) (r3.sc (hs _ _ _ e3))⟩⟩⟩
theorem zap {op : Operator} {m : D -> D -> Option D} {f g : List Sl -> Option D} (ho : OpD c X (binaryOp op) m) (ha : DE c X a f) (hb : DE c X b g) : DE c X (.BinOp a op b pos) (m2 m f g) :=
  PE.imp (zs2 ho ha hb) fun _ _ _ h => two (fun _ _ _ _ h => h) h
theorem ze0 {op : CmpOp} {m : D -> D -> Option D} {f g : List Sl -> Option D} (ho : OpD c X (compareOp op) m) (hs : ∀ x y d, m x y = some d -> d.scalar = true) (ha : DB c X a f) (hb : DB c X b g) (hm : behindInMarks op b = false := by first | exact zs5 _ | rfl) :
    DE c X (.Compare a [op] [b] pos) (m2 m f g) := PE.imp (zve ho ha hb hm) fun _ _ _ h => zoz (fun _ _ _ _ h => h) hs h
noncomputable def mB (f : List Sl -> Option D) (ρ : List Sl) : Option Bool := (f ρ).bind fun d => match d with
  | .bl b => some b
  | _ => none
theorem zmu {f : List Sl -> Option D} {ρ : List Sl} {b : Bool} (h : mB f ρ = some b) : f ρ = some (.bl b) := by
  unfold mB at h
  cases e : f ρ with
  | none => rw [e] at h; cases h
  | some d => rw [e] at h; cases d <;> cases h; rfl
theorem za5 {op : CmpOp} {m : D -> D -> Option D} {f g : List Sl -> Option D} (ho : OpD c X (compareOp op) m) (hs : ∀ x y d, m x y = some d -> d.scalar = true) (ha : DB c X a f) (hb : DB c X b g) (hm : behindInMarks op b = false := by first | exact zs5 _ | rfl) :
    DT c X (.Compare a [op] [b] pos) (mB (m2 m f g)) := PT.imp (zut ho ha hb hm) fun σ H Q ⟨Hf0, H0, Hf, ρ, b, st, ef, k⟩ =>
  zoz (fun _ _ _ _ h => h) hs ⟨Hf0, H0, Hf, ρ, .bl b, st, zmu ef, fun v Hf' H' x r => ⟨b, r, k Hf' H' x⟩⟩
noncomputable def zgx : D -> Option Bool
  | .non => some false
  | .bl b => some b
  | .int i => some (i != 0)
  | .str x => if x.length <= 16777216 then some ((x.length : Int) != 0) else none
  | .lst xs => some (!xs.isEmpty)
  | .tup xs => some (!xs.isEmpty)
  | .kl xs => some (!xs.isEmpty)
  | .kt xs => some (!xs.isEmpty)
  | .dic ks _ => some (!ks.isEmpty)
  | _ => none
theorem zae.empty {G : Gc} {H : Hp} {ds : List D} {vs : List V} (r : zae G H ds vs) : ds.isEmpty = vs.isEmpty := by
  cases ds with
  | nil => cases (show vs = [] from r); rfl
  | cons d ds => obtain ⟨v, r', e, _⟩ := r; subst e; rfl
theorem z2o {α β : Type} {ks : List α} {vs : List β} (h : ks.length = vs.length) : (ks.zip vs).isEmpty = ks.isEmpty := by
  cases ks <;> cases vs <;> first | rfl | cases h
theorem zrj {G : Gc} {H : Hp} {d : D} {v : V} {b : Bool} (e : zgx d = some b) (r : Rep G H d v) : zle G.K v H b := by
  cases d with
  | non => cases e; cases r; rfl
  | bl x => cases e; cases r; rfl
  | int i => cases e; cases r; rfl
  | str x =>
    cases r
    replace e : (if x.length <= 16777216 then some ((x.length : Int) != 0) else none) = some b := e
    split at e
    · rename_i hl
      cases e
      exact ⟨by rw [sizeLine_eq]; exact hl, rfl⟩
    · cases e
  | lst xs => cases e; obtain ⟨a, vs, e1, q, r⟩ := r; subst e1; exact .inl ⟨vs, SqL.of q, by rw [r.empty]⟩
  | tup xs => cases e; obtain ⟨a, vs, e1, q, r⟩ := r; subst e1; exact .inr (.inl ⟨vs, SqT.of q, by rw [r.empty]⟩)
  | kl xs => cases e; obtain ⟨a, vs, e1, q, r⟩ := r; subst e1; exact .inl ⟨vs, q, by rw [r.empty]⟩
  | kt xs => cases e; obtain ⟨a, vs, e1, q, r⟩ := r; subst e1; exact .inr (.inl ⟨vs, q, by rw [r.empty]⟩)
  | dic ks xs => cases e; obtain ⟨a, vs, e1, q, l, r⟩ := r; subst e1; exact .inr (.inr ⟨_, q, by rw [z2o l]⟩)
  | ins _ _ _ => cases e
  | kd _ _ => cases e
noncomputable def zc8 (f : List Sl -> Option D) (ρ : List Sl) : Option Bool := (f ρ).bind zgx
theorem ze1 {f : List Sl -> Option D} (ha : DB c X a f) (he : ∀ whole, isTrue a X.env whole = (do let v <- whole; standAt a.pos; holding [v] (truthy v)) := by intro _; rfl) : DT c X a (zc8 f) :=
  PT.imp (zvn ha he) fun σ H Q q_ => by
    obtain ⟨Hf0, H0, Hf, ρ, b, st, ef, k⟩ := q_
    unfold zc8 at ef
    cases ed : f ρ with
    | none => rw [ed] at ef; cases ef
    | some d =>
      rw [ed] at ef
      exact ⟨Hf0, H0, Hf, ρ, d, st, ed, fun v Hf' H' x r => ⟨b, zrj ef r, k Hf' H' x⟩⟩
noncomputable def zf1 (f g : List Sl -> Option Bool) (ρ : List Sl) : Option Bool := (f ρ).bind fun b => if b then g ρ else some false
noncomputable def mOr (f g : List Sl -> Option Bool) (ρ : List Sl) : Option Bool := (f ρ).bind fun b => if b then some true else g ρ
noncomputable def zej (f : List Sl -> Option Bool) (ρ : List Sl) : Option Bool := (f ρ).map not
theorem DW.dt {f : List Sl -> Option Bool} (h : DW c X e f) : DT c X e f := PW.pt h
theorem z08 {f : List Sl -> Option Bool} (h : DT c X a f) : DW c X (.BoolOp .And [a] pos) f := zxi h
theorem zf8 {f : List Sl -> Option Bool} (h : DT c X a f) : DW c X (.BoolOp .Or [a] pos) f := z16 h
theorem z4a {f g : List Sl -> Option Bool} {zbs : List Expr} (h : DT c X a f) (h' : DW c X (.BoolOp .And (b :: zbs) pos) g) : DW c X (.BoolOp .And (a :: b :: zbs) pos) (zf1 f g) := PW.imp (zxt h h') fun σ H Q q_ => by
  obtain ⟨Hf0, H0, Hf, ρ, b, st, ef, k⟩ := q_
  unfold zf1 at ef
  cases e1 : f ρ with
  | none => rw [e1] at ef; cases ef
  | some x =>
    rw [e1] at ef
    refine ⟨Hf0, H0, Hf, ρ, x, st, e1, fun Hf1 H1 x1 => ?_⟩
    cases x with
    | true => rw [if_pos rfl]; exact ⟨Hf0, H0, Hf1, ρ, b, st.step x1, ef, fun Hf2 H2 x2 => k Hf2 H2 (x1.trans x2)⟩
    | false => cases ef; rw [if_neg Bool.false_ne_true]; exact k Hf1 H1 x1
theorem zfk {f g : List Sl -> Option Bool} {zbs : List Expr} (h : DT c X a f) (h' : DW c X (.BoolOp .Or (b :: zbs) pos) g) : DW c X (.BoolOp .Or (a :: b :: zbs) pos) (mOr f g) := PW.imp (z34 h h') fun σ H Q q_ => by
  obtain ⟨Hf0, H0, Hf, ρ, b, st, ef, k⟩ := q_
  unfold mOr at ef
  cases e1 : f ρ with
  | none => rw [e1] at ef; cases ef
  | some x =>
    rw [e1] at ef
    refine ⟨Hf0, H0, Hf, ρ, x, st, e1, fun Hf1 H1 x1 => ?_⟩
    cases x with
    | false => rw [if_neg Bool.false_ne_true]; exact ⟨Hf0, H0, Hf1, ρ, b, st.step x1, ef, fun Hf2 H2 x2 => k Hf2 H2 (x1.trans x2)⟩
    | true => cases ef; rw [if_pos rfl]; exact k Hf1 H1 x1
theorem zgn {f : List Sl -> Option Bool} (h : DT c X a f) : DT c X (.UnaryOp .Not a pos) (zej f) := PT.imp (zya h) fun σ H Q q_ => by
  obtain ⟨Hf0, H0, Hf, ρ, b, st, ef, k⟩ := q_
  unfold zej at ef
  cases e1 : f ρ with
  | none => rw [e1] at ef; cases ef
  | some x =>
    rw [e1] at ef
    cases ef
    exact ⟨Hf0, H0, Hf, ρ, x, st, e1, fun Hf1 H1 x1 => k Hf1 H1 x1⟩
noncomputable def zqq (f g : List Sl -> Option D) (ρ : List Sl) : Option D := (mB f ρ).bind fun b => if b then g ρ else some (.bl false)
noncomputable def vOr (f g : List Sl -> Option D) (ρ : List Sl) : Option D := (mB f ρ).bind fun b => if b then some (.bl true) else g ρ
noncomputable def zf3 (f : List Sl -> Option D) (ρ : List Sl) : Option D := (mB f ρ).map fun b => .bl (!b)
theorem ztn {f : List Sl -> Option D} {op} (h : DE c X a f) : DE c X (.BoolOp op [a] pos) f := zt3 h
theorem zz1 {f g : List Sl -> Option D} {zbs : List Expr} (h : DE c X a f) (h' : DE c X (.BoolOp .Or (b :: zbs) pos) g) : DE c X (.BoolOp .Or (a :: b :: zbs) pos) (vOr f g) := PE.imp (zy7 h h') fun σ H Q q_ => by
  obtain ⟨Hf0, H0, Hf, ρ, d, st, ef, k⟩ := q_
  unfold vOr at ef
  cases e1 : mB f ρ with
  | none => rw [e1] at ef; cases ef
  | some x =>
    rw [e1] at ef
    refine ⟨Hf0, H0, Hf, ρ, .bl x, st, zmu e1, fun v Hf1 H1 x1 r1 => ⟨x, r1, ?_⟩⟩
    cases x with
    | false => rw [if_neg Bool.false_ne_true]; exact ⟨Hf0, H0, Hf1, ρ, d, st.step x1, ef, fun v Hf2 H2 x2 r2 => k v Hf2 H2 (x1.trans x2) r2⟩
    | true => cases ef; rw [if_pos rfl]; exact k _ Hf1 H1 x1 rfl
theorem zp6 {f : List Sl -> Option D} (h : DE c X a f) : DE c X (.UnaryOp .Not a pos) (zf3 f) := PE.imp (zvq h) fun σ H Q q_ => by
  obtain ⟨Hf0, H0, Hf, ρ, d, st, ef, k⟩ := q_
  unfold zf3 at ef
  cases e1 : mB f ρ with
  | none => rw [e1] at ef; cases ef
  | some x =>
    rw [e1] at ef
    cases ef
    exact ⟨Hf0, H0, Hf, ρ, .bl x, st, zmu e1, fun v Hf1 H1 x1 r1 => ⟨x, r1, k _ Hf1 H1 x1 rfl⟩⟩
noncomputable def vIf (t : List Sl -> Option Bool) (f g : List Sl -> Option D) (ρ : List Sl) : Option D := (t ρ).bind fun b => if b then f ρ else g ρ
theorem zne {t : List Sl -> Option Bool} {f g : List Sl -> Option D} {cd : Expr} (hc : DT c X cd t) (ha : DE c X a f) (hb : DE c X b g) : DE c X (.IfExp cd a b pos) (vIf t f g) := PE.imp (z36 hc ha hb) fun σ H Q q_ => by
  obtain ⟨Hf0, H0, Hf, ρ, d, st, ef, k⟩ := q_
  unfold vIf at ef
  cases e1 : t ρ with
  | none => rw [e1] at ef; cases ef
  | some x =>
    rw [e1] at ef
    refine ⟨Hf0, H0, Hf, ρ, x, st, e1, fun Hf1 H1 x1 => ?_⟩
    cases x with
    | true => rw [if_pos rfl]; exact ⟨Hf0, H0, Hf1, ρ, d, st.step x1, ef, fun v Hf2 H2 x2 r => k v Hf2 H2 (x1.trans x2) r⟩
    | false => rw [if_neg Bool.false_ne_true]; exact ⟨Hf0, H0, Hf1, ρ, d, st.step x1, ef, fun v Hf2 H2 x2 r => k v Hf2 H2 (x1.trans x2) r⟩
end
end L2
namespace L2
open PySem PySem.Spec PyProof.Rows
noncomputable instance {i j : Int} : Decidable (zi0 i j) := by unfold zi0; infer_instance
noncomputable instance {i j : Int} : Decidable (zib i j) := by unfold zib; infer_instance
noncomputable instance {i j : Int} : Decidable (zgt i j) := by unfold zgt; infer_instance
noncomputable def dI (C : Int -> Int -> Prop) [∀ i j, Decidable (C i j)] (g : Int -> Int -> D) : D -> D -> Option D
  | .int i, .int j => if C i j then some (g i j) else none
  | _, _ => none
noncomputable def dI0 (g : Int -> Int -> D) : D -> D -> Option D
  | .int i, .int j => some (g i j)
  | _, _ => none
noncomputable def zbt : D -> D -> Option D
  | .int i, .int j => some (.int (i + j))
  | .str a, .str b => if a.length + b.length <= 16777216 then some (.str (a ++ b)) else none
  | .lst a, .lst b => if a.length + b.length <= 16777216 then some (.lst (a ++ b)) else none
  | _, _ => none
noncomputable abbrev zf2 : D -> D -> Option D := dI0 fun i j => .int (i - j)
noncomputable abbrev z45 : D -> D -> Option D := dI zgt fun i j => .int (i * j)
noncomputable abbrev zfb : D -> D -> Option D := dI zi0 fun i j => .int (i / j)
noncomputable abbrev za3 : D -> D -> Option D := dI (fun _ j => 0 < j) fun i j => .int (i % j)
noncomputable abbrev zob : D -> D -> Option D := dI zib fun i j => .int (i ^ j.toNat)
noncomputable abbrev z4n : D -> D -> Option D := dI (fun _ j => 0 <= j) fun i j => .int (i / 2 ^ j.toNat)
noncomputable abbrev zz8 : D -> D -> Option D := dI0 fun i j => .int (Builtin.bitAnd i j)
noncomputable abbrev dLt : D -> D -> Option D := dI0 fun i j => .bl (decide (i < j))
noncomputable abbrev dLe : D -> D -> Option D := dI0 fun i j => .bl (decide (i <= j))
noncomputable abbrev dGt : D -> D -> Option D := dI0 fun i j => .bl (decide (j < i))
noncomputable abbrev dGe : D -> D -> Option D := dI0 fun i j => .bl (decide (j <= i))
section
variable {c : Str -> Addr} {X : Cx}
theorem zkf {f : Value -> Value -> Sem Value} {C : Int -> Int -> Prop} [∀ i j, Decidable (C i j)] {g : Int -> Int -> V} {gd : Int -> Int -> D} (h : OpR X f (rI C g)) (hg : ∀ G H i j, Rep G H (gd i j) (g i j)) : OpD c X f (dI C gd) := by
  rintro pins s σ H vx vy v u Q I rx ry ⟨Hf, x, y, d, s0, r1, r2, e, k⟩
  unfold dI at e
  split at e
  · split at e
    · rename_i hc
      cases e
      exact h pins s σ H vx vy v u Q I rx ry ⟨_, _, r1, r2, hc, k _ Hf H (Ext.refl s0) (hg _ _ _ _)⟩
    · cases e
  · cases e
theorem zjt {f : Value -> Value -> Sem Value} {g : Int -> Int -> V} {gd : Int -> Int -> D} (h : OpR X f (rI0 g)) (hg : ∀ G H i j, Rep G H (gd i j) (g i j)) : OpD c X f (dI0 gd) := by
  rintro pins s σ H vx vy v u Q I rx ry ⟨Hf, x, y, d, s0, r1, r2, e, k⟩
  unfold dI0 at e
  split at e
  · cases e
    exact h pins s σ H vx vy v u Q I rx ry ⟨_, _, r1, r2, k _ Hf H (Ext.refl s0) (hg _ _ _ _)⟩
  · cases e
theorem zcy : OpD c X (binaryOp .Add) zbt := by
  rintro pins s σ H vx vy v u Q I rx ry ⟨Hf, x, y, d, s0, r1, r2, e, k⟩
  unfold zbt at e
  split at e
  · cases e
    exact zye pins s σ H vx vy v u Q I rx ry ⟨_, _, r1, r2, k _ Hf H (Ext.refl s0) rfl⟩
  · split at e
    · rename_i hl
      cases e
      exact zwi pins s σ H vx vy v u Q I rx ry ⟨_, _, r1, r2, by rw [sizeLine_eq]; exact hl, k _ Hf H (Ext.refl s0) rfl⟩
    · cases e
  · split at e
    · rename_i hl
      cases e
      obtain ⟨a, vs, e1, q1, r1⟩ := r1
      obtain ⟨b, us, e2, q2, r2⟩ := r2
      exact zpr pins s σ H vx vy v u Q I rx ry ⟨a, b, vs, us, e1, e2, s0 _ _ q1, s0 _ _ q2, by rw [sizeLine_eq, <- r1.length, <- r2.length]; exact hl,
        fun p hp => k _ (upd Hf p (.lst (vs ++ us))) (upd H p (.lst (vs ++ us))) (Ext.new s0 hp) ⟨p, _, rfl, zbe, (r1.append r2).up (zbk (s0.free hp))⟩⟩
    · cases e
  · cases e
theorem ziy : OpD c X (binaryOp .Sub) zf2 := zjt z0o fun _ _ _ _ => rfl
theorem zgo : OpD c X (binaryOp .FloorDiv) zfb := zkf zvy fun _ _ _ _ => rfl
theorem zbu : OpD c X (binaryOp .Mod) za3 := zkf zyc fun _ _ _ _ => rfl
theorem z4k : OpD c X (binaryOp .Pow) zob := zkf z02 fun _ _ _ _ => rfl
theorem zt0 : OpD c X (compareOp .Lt) dLt := zjt zva fun _ _ _ _ => rfl
theorem zoy : OpD c X (compareOp .LtE) dLe := zjt z1u fun _ _ _ _ => rfl
theorem zma : OpD c X (compareOp .GtE) dGe := zjt zuv fun _ _ _ _ => rfl
theorem zn7 {g : Int -> Int -> D} (hg : ∀ i j, (g i j).scalar = true) : ∀ x y d, dI0 g x y = some d -> d.scalar = true := by
  intro x y d e
  unfold dI0 at e
  split at e
  · cases e; exact hg _ _
  · cases e
theorem z09 : ∀ x y d, dLt x y = some d -> d.scalar = true := zn7 fun _ _ => rfl
theorem zsj : ∀ x y d, dLe x y = some d -> d.scalar = true := zn7 fun _ _ => rfl
theorem zm2 : ∀ x y d, dGe x y = some d -> d.scalar = true := zn7 fun _ _ => rfl
noncomputable def m1 (m : D -> Option D) (f : List Sl -> Option D) (ρ : List Sl) : Option D := (f ρ).bind m
noncomputable def zs6 : D -> Bool
  | .non => true
  | _ => false
theorem zsx {G : Gc} {H : Hp} {x : D} {v : V} (r : Rep G H x v) : decide (v = .non) = zs6 x := by
  cases x with
  | non => cases r; rfl
  | bl b => cases r; rfl
  | int i => cases r; rfl
  | str x => cases r; rfl
  | lst _ => obtain ⟨a, _, e, _⟩ := r; subst e; rfl
  | tup _ => obtain ⟨a, _, e, _⟩ := r; subst e; rfl
  | kl _ => obtain ⟨a, _, e, _⟩ := r; subst e; rfl
  | kt _ => obtain ⟨a, _, e, _⟩ := r; subst e; rfl
  | dic _ _ => obtain ⟨a, _, e, _⟩ := r; subst e; rfl
  | ins _ _ _ => obtain ⟨a, _, _, e, _⟩ := r; subst e; rfl
  | kd _ _ => obtain ⟨a, _, _, e, _⟩ := r; subst e; rfl
noncomputable def isD (x y : D) : Option Bool := match y with
  | .non => some (zs6 x)
  | .bl b => match x with
    | .non => some false
    | .bl a => some (a == b)
    | _ => none
  | _ => none
noncomputable def dIs (x y : D) : Option D := (isD x y).map .bl
noncomputable def zew (x y : D) : Option D := (isD x y).map fun b => .bl (!b)
theorem zd8 : OpD c X (compareOp .Is) dIs := by
  rintro pins s σ H vx vy v u Q I rx ry ⟨Hf, x, y, d, s0, r1, r2, e, k⟩
  unfold dIs isD at e
  cases y with
  | non =>
    cases e
    exact z5d pins s σ H vx vy v u Q I rx ry ⟨r2, by rw [zsx r1]; exact k _ Hf H (Ext.refl s0) rfl⟩
  | bl b =>
    cases x with
    | non => cases e; cases r1; exact zs3 pins s σ H _ vy v u Q I rx ry ⟨b, r2, .inl rfl, k _ Hf H (Ext.refl s0) rfl⟩
    | bl a => cases e; cases r1; exact zs3 pins s σ H _ vy v u Q I rx ry ⟨b, r2, .inr ⟨a, rfl⟩, by rw [zjk]; exact k _ Hf H (Ext.refl s0) rfl⟩
    | _ => cases e
  | _ => cases e
theorem zi1 : OpD c X (compareOp .IsNot) zew := by
  rintro pins s σ H vx vy v u Q I rx ry ⟨Hf, x, y, d, s0, r1, r2, e, k⟩
  unfold zew isD at e
  cases y with
  | non =>
    cases e
    exact zyl pins s σ H vx vy v u Q I rx ry ⟨r2, by rw [zsx r1]; exact k _ Hf H (Ext.refl s0) rfl⟩
  | bl b =>
    cases x with
    | non => cases e; cases r1; exact zq5 pins s σ H _ vy v u Q I rx ry ⟨b, r2, .inl rfl, k _ Hf H (Ext.refl s0) rfl⟩
    | bl a => cases e; cases r1; exact zq5 pins s σ H _ vy v u Q I rx ry ⟨b, r2, .inr ⟨a, rfl⟩, by rw [zjk]; exact k _ Hf H (Ext.refl s0) rfl⟩
    | _ => cases e
  | _ => cases e
theorem zjq {x : Option Bool} {g : Bool -> Bool} : ∀ d, x.map (fun b => D.bl (g b)) = some d -> d.scalar = true := by
  intro d e
  cases x with
  | none => cases e
  | some b => cases e; rfl
theorem zd5 : ∀ x y d, dIs x y = some d -> d.scalar = true := fun _ _ d e => zjq (g := id) d e
theorem zi6 : ∀ x y d, zew x y = some d -> d.scalar = true := fun _ _ d e => zjq (g := not) d e
noncomputable def eqF : D -> D -> Bool
  | .non, .non => true
  | .bl a, .bl b => a == b
  | .int a, .int b => a == b
  | .str a, .str b => a == b
  | _, _ => false
noncomputable def zb1 (f : D -> D -> Option Bool) : List D -> List D -> Option Bool
  | [], [] => some true
  | x :: xs, y :: ys => (f x y).bind fun b => (zb1 f xs ys).map fun r => b && r
  | _, _ => some false
noncomputable def zlw : D -> D -> Bool
  | .bl _, .int _ => true
  | .int _, .bl _ => true
  | _, _ => false
noncomputable def zge (f : D -> D -> Option Bool) : D -> D -> Option Bool
  | .lst xs, .lst ys => if xs.length = ys.length then zb1 f xs ys else some false
  | .tup xs, .tup ys => if xs.length = ys.length then zb1 f xs ys else none
  | x, y => if x.scalar && y.scalar && !zlw x y then some (eqF x y) else none
noncomputable def deq : Nat -> D -> D -> Option Bool
  | 0, _, _ => none
  | n + 1, x, y => zge (deq n) x y
noncomputable def dEq (x y : D) : Option D := (deq 20 x y).map .bl
noncomputable def dNe (x y : D) : Option D := (deq 20 x y).map fun b => .bl (!b)
theorem zb7 : ∀ x y d, dEq x y = some d -> d.scalar = true := fun _ _ d e => zjq (g := id) d e
theorem zmm : ∀ x y d, dNe x y = some d -> d.scalar = true := fun _ _ d e => zjq (g := not) d e
theorem zkl {f : D -> D -> Option Bool} {x y : D} {xs ys : List D} {b : Bool} (h : zb1 f (x :: xs) (y :: ys) = some b) : ∃ b1 b2, f x y = some b1 /\ zb1 f xs ys = some b2 /\ b = (b1 && b2) := by
  unfold zb1 at h
  cases e1 : f x y with
  | none => rw [e1] at h; cases h
  | some b1 =>
    cases e2 : zb1 f xs ys with
    | none => rw [e1, e2] at h; cases h
    | some b2 => rw [e1, e2] at h; cases h; exact ⟨b1, b2, rfl, rfl, rfl⟩
theorem zf7 {f : D -> D -> Option Bool} : ∀ {xs ys : List D} {b : Bool}, xs.length = ys.length -> zb1 f xs ys = some b -> ∃ e : Nat -> Bool, (∀ j x y, xs[j]? = some x -> ys[j]? = some y -> f x y = some (e j)) /\ (List.range xs.length).all e = b
  | [], [], b, _, h => by cases h; exact ⟨fun _ => true, fun j x y e => by simp at e, rfl⟩
  | x :: xs, y :: ys, b, hl, h => by
    obtain ⟨b1, b2, h1, h2, rfl⟩ := zkl h
    obtain ⟨e, he, ha⟩ := zf7 (by simpa using hl) h2
    refine ⟨fun j => match j with | 0 => b1 | j + 1 => e j, fun j x' y' ex ey => ?_, ?_⟩
    · cases j with
      | zero => simp at ex ey; subst ex ey; exact h1
      | succ j => exact he j x' y' (by simpa using ex) (by simpa using ey)
    · rw [List.length_cons, List.range_succ_eq_map, List.all_cons, List.all_map, <- ha]
      rfl
  | [], _ :: _, _, hl, _ => by cases hl
  | _ :: _, [], _, hl, _ => by cases hl
theorem zkd {G : Gc} {H : Hp} {x y : D} {v u : V} (hs : (x.scalar && y.scalar && !zlw x y) = true) (r1 : Rep G H x v) (r2 : Rep G H y u) : zkx v = true /\ zkx u = true /\ eqV v u = eqF x y /\ znx v u = true /\ decide (v = u) = eqF x y := by
  cases x <;> first
    | (cases hs; done)
    | (cases y <;> first
      | (cases hs; done)
      | (cases r1; cases r2; refine ⟨rfl, rfl, rfl, rfl, ?_⟩; first | exact zjk | exact zmy | exact zoh | rfl))
theorem zj8 {n : Nat} {x y : D} {b : Bool} (hs : ¬ (∃ xs ys, x = .lst xs /\ y = .lst ys) /\ ¬ (∃ xs ys, x = .tup xs /\ y = .tup ys)) (h : deq (n + 1) x y = some b) : (x.scalar && y.scalar && !zlw x y) = true /\ b = eqF x y := by
  replace h : zge (deq n) x y = some b := h
  unfold zge at h
  split at h
  · exact absurd ⟨_, _, rfl, rfl⟩ hs.1
  · exact absurd ⟨_, _, rfl, rfl⟩ hs.2
  · split at h
    · rename_i hc
      cases h
      exact ⟨hc, rfl⟩
    · cases h
theorem zsp {G : Gc} {H : Hp} : ∀ (n : Nat) {x y : D} {b : Bool} {v : V}, deq n x y = some b -> Rep G H x v -> Rep G H y v -> b = true := by
  intro n
  induction n with
  | zero => intro x y b v h; cases h
  | succ n ih =>
    have all : ∀ (xs ys : List D) (vs : List V) (b : Bool), zae G H xs vs -> zae G H ys vs -> zb1 (deq n) xs ys = some b -> b = true := by
      intro xs
      induction xs with
      | nil =>
        intro ys vs b r1 r2 h
        cases (show vs = [] from r1)
        have : ys = [] := List.length_eq_zero_iff.mp r2.length
        subst this
        cases h; rfl
      | cons x xs ihx =>
        intro ys vs b r1 r2 h
        obtain ⟨v, r, e, h1, h2⟩ := r1
        subst e
        cases ys with
        | nil => cases (show v :: r = [] from r2)
        | cons y ys =>
          obtain ⟨v', r', e, h1', h2'⟩ := r2
          cases e
          obtain ⟨b1, b2, e1, e2, rfl⟩ := zkl h
          rw [ih e1 h1 h1', ihx ys _ b2 h2 h2' e2]
          rfl
    intro x y b v h r1 r2
    by_cases hl : ∃ xs ys, x = .lst xs /\ y = .lst ys
    · obtain ⟨xs, ys, rfl, rfl⟩ := hl
      obtain ⟨a, vs, e, q, r1⟩ := r1
      obtain ⟨a', vs', e', q', r2⟩ := r2
      subst e; cases e'
      rw [q] at q'; cases q'
      have hlen : xs.length = ys.length := r1.length.trans r2.length.symm
      replace h : (if xs.length = ys.length then zb1 (deq n) xs ys else some false) = some b := h
      rw [if_pos hlen] at h
      exact all xs ys vs b r1 r2 h
    · by_cases ht : ∃ xs ys, x = .tup xs /\ y = .tup ys
      · obtain ⟨xs, ys, rfl, rfl⟩ := ht
        obtain ⟨a, vs, e, q, r1⟩ := r1
        obtain ⟨a', vs', e', q', r2⟩ := r2
        subst e; cases e'
        rw [q] at q'; cases q'
        have hlen : xs.length = ys.length := r1.length.trans r2.length.symm
        replace h : (if xs.length = ys.length then zb1 (deq n) xs ys else none) = some b := h
        rw [if_pos hlen] at h
        exact all xs ys vs b r1 r2 h
      · obtain ⟨hs, rfl⟩ := zj8 ⟨hl, ht⟩ h
        obtain ⟨_, _, _, _, e⟩ := zkd hs r1 r2
        rw [<- e]
        exact decide_eq_true rfl
section
variable {pins : List (Addr × Obj)} {σ : St} {H : Hp} {s : Shared}
theorem zh5 {G : Gc} {xs ys : List D} {vs us : List V} {its its2 : List Value} {n : Nat} {A : Around} {e : Nat -> Bool} (r1 : zae G H xs vs) (r2 : zae G H ys us) (r : zaj vs its) (r' : zaj us its2)
    (he : ∀ j x y, xs[j]? = some x -> ys[j]? = some y -> deq n x y = some (e j))
    (ih : ∀ {x y : D} {b : Bool} {v u : V} {w w' : Value}, deq n x y = some b -> Rep G H x v -> Rep G H y u -> zam v w -> zam u w' -> SeqAt.EqAt A s w w' b) :
    ∀ j (h1 : j < its.toArray.size) (h2 : j < its2.toArray.size), SeqAt.EqAt A s its.toArray[j] its2.toArray[j] (e j) := fun j h1 h2 => by
  have h1' : j < its.length := by simpa using h1
  have h2' : j < its2.length := by simpa using h2
  obtain ⟨v, ev, rv⟩ := r.at' (i := j) (u := its[j]) (by simp [h1'])
  obtain ⟨u, eu, ru⟩ := r'.at' (i := j) (u := its2[j]) (by simp [h2'])
  obtain ⟨x, ex, rx⟩ := r1.get' ev
  obtain ⟨y, ey, ry⟩ := r2.get' eu
  exact ih (he j x y ex ey) rx ry rv ru
theorem znr (I : Inv X pins σ H s) : ∀ (n : Nat) {A : Around} {x y : D} {b : Bool} {v u : V} {w w' : Value}, A.units + n < cLine -> deq n x y = some b -> Rep (Gx c X) H x v -> Rep (Gx c X) H y u -> zam v w -> zam u w' -> SeqAt.EqAt A s w w' b := by
  intro n
  induction n with
  | zero => intro A x y b v u w w' _ h; cases h
  | succ n ih =>
    intro A x y b v u w w' hu h r1 r2 rv ru
    have hin : ∀ {x y : D} {b : Bool} {v u : V} {w w' : Value}, deq n x y = some b -> Rep (Gx c X) H x v -> Rep (Gx c X) H y u -> zam v w -> zam u w' -> SeqAt.EqAt A.in1 s w w' b := fun h a b c d => ih (by rw [Around.in1_units]; omega) h a b c d
    by_cases hl : ∃ xs ys, x = .lst xs /\ y = .lst ys
    · obtain ⟨xs, ys, rfl, rfl⟩ := hl
      obtain ⟨a, vs, e, q, rs1⟩ := id r1
      obtain ⟨a', vs', e', q', rs2⟩ := id r2
      subst e e'
      cases rv; cases ru
      by_cases hab : a = a'
      · subst hab
        have := zsp (n + 1) h (show Rep (Gx c X) H (.lst xs) (.ref a) from ⟨a, vs, rfl, q, rs1⟩) ⟨a, vs', rfl, q', rs2⟩
        subst this
        exact SeqAt.EqAt.same _
      · refine SeqAt.EqAt.of_refs hab ?_
        obtain ⟨its, rr, pl, hz⟩ := I.list (SqL.of (K := X.K) q)
        obtain ⟨its2, rr2, pl2, hz2⟩ := I.list (SqL.of (K := X.K) q')
        have l1 := rr.length
        have l2 := rr2.length
        have l3 := rs1.length
        have l4 := rs2.length
        replace h : (if xs.length = ys.length then zb1 (deq n) xs ys else some false) = some b := h
        split at h
        · rename_i hlen
          obtain ⟨ee, he, ha⟩ := zf7 hlen h
          have := SeqAt.RcAt.lists (A := A) (s := s) pl.isList pl2.isList (by simp only [List.size_toArray]; omega) (by omega) (zh5 (A := A.in1) (s := s) rs1 rs2 rr rr2 he hin)
          rw [List.size_toArray, <- l1, <- l3, ha] at this
          exact this
        · rename_i hlen
          cases h
          exact SeqAt.RcAt.lists_lengths (A := A) (s := s) pl.isList pl2.isList (by simp only [List.size_toArray, bne_iff_ne, ne_eq]; omega) (by omega)
    · by_cases ht : ∃ xs ys, x = .tup xs /\ y = .tup ys
      · obtain ⟨xs, ys, rfl, rfl⟩ := ht
        obtain ⟨a, vs, e, q, rs1⟩ := id r1
        obtain ⟨a', vs', e', q', rs2⟩ := id r2
        subst e e'
        cases rv; cases ru
        by_cases hab : a = a'
        · subst hab
          have := zsp (n + 1) h (show Rep (Gx c X) H (.tup xs) (.ref a) from ⟨a, vs, rfl, q, rs1⟩) ⟨a, vs', rfl, q', rs2⟩
          subst this
          exact SeqAt.EqAt.same _
        · refine SeqAt.EqAt.of_refs hab ?_
          obtain ⟨its, rr, pl, hz⟩ := I.tuple (SqT.of (K := X.K) q)
          obtain ⟨its2, rr2, pl2, hz2⟩ := I.tuple (SqT.of (K := X.K) q')
          have l1 := rr.length
          have l2 := rr2.length
          have l3 := rs1.length
          have l4 := rs2.length
          replace h : (if xs.length = ys.length then zb1 (deq n) xs ys else none) = some b := h
          split at h
          · rename_i hlen
            obtain ⟨ee, he, ha⟩ := zf7 hlen h
            have := SeqAt.RcAt.tuples (A := A) (s := s) (show s.heap.IsTuple a its.toArray from pl) (show s.heap.IsTuple a' its2.toArray from pl2) (by omega) (zh5 (A := A.in1) (s := s) rs1 rs2 rr rr2 he hin)
            have hsz : its.toArray.size = its2.toArray.size := by simp only [List.size_toArray]; omega
            rw [<- hsz, Nat.min_self, beq_self_eq_true, Bool.and_true, List.size_toArray, <- l1, <- l3, ha] at this
            exact this
          · cases h
      · obtain ⟨hs, rfl⟩ := zj8 ⟨hl, ht⟩ h
        obtain ⟨f1, f2, e, _, _⟩ := zkd hs r1 r2
        rw [<- e]
        exact z0m rv ru f1 f2
end
theorem zb6 (hu : X.A.units + 64 < cLine) : OpD c X (compareOp .Eq) dEq := by
  rintro pins s σ H v u w w' Q I rv ru ⟨Hf, x, y, d, s0, r1, r2, e, k⟩
  unfold dEq at e
  cases h : deq 20 x y with
  | none => rw [h] at e; cases e
  | some b =>
    rw [h] at e
    cases e
    have q0 := k (.bl b) Hf H (Ext.refl s0) rfl
    have fin : EP X pins σ Q (.bool b) s := ⟨.bl b, H, I, rfl, q0⟩
    have r1 := r1.up s0
    have r2 := r2.up s0
    have hin : ∀ {x y : D} {b : Bool} {v u : V} {w w' : Value}, deq 19 x y = some b -> Rep (Gx c X) H x v -> Rep (Gx c X) H y u -> zam v w -> zam u w' -> SeqAt.EqAt X.A.in1 s w w' b := fun h a b c d => znr I 19 (by rw [Around.in1_units]; omega) h a b c d
    by_cases hl : ∃ xs ys, x = .lst xs /\ y = .lst ys
    · obtain ⟨xs, ys, rfl, rfl⟩ := hl
      obtain ⟨a, vs, e, q, rs1⟩ := id r1
      obtain ⟨a', vs', e', q', rs2⟩ := id r2
      subst e e'
      cases rv; cases ru
      obtain ⟨its, rr, pl, hz⟩ := I.list (SqL.of (K := X.K) q)
      obtain ⟨its2, rr2, pl2, hz2⟩ := I.list (SqL.of (K := X.K) q')
      have l1 := rr.length
      have l2 := rr2.length
      have l3 := rs1.length
      have l4 := rs2.length
      replace h : (if xs.length = ys.length then zb1 (deq 19) xs ys else some false) = some b := h
      split at h
      · rename_i hlen
        obtain ⟨ee, he, ha⟩ := zf7 hlen h
        refine SeqAt.eq_listAt pl.isList pl2.isList (by simp only [List.size_toArray]; omega) (by omega) (zh5 rs1 rs2 rr rr2 he hin) ?_
        rw [List.size_toArray, <- l1, <- l3, ha]
        exact fin
      · rename_i hlen
        cases h
        exact SeqAt.eq_list_lengthsAt pl.isList pl2.isList (by simp only [List.size_toArray, bne_iff_ne, ne_eq]; omega) (by omega) fin
    · by_cases ht : ∃ xs ys, x = .tup xs /\ y = .tup ys
      · obtain ⟨xs, ys, rfl, rfl⟩ := ht
        obtain ⟨a, vs, e, q, rs1⟩ := id r1
        obtain ⟨a', vs', e', q', rs2⟩ := id r2
        subst e e'
        cases rv; cases ru
        obtain ⟨its, rr, pl, hz⟩ := I.tuple (SqT.of (K := X.K) q)
        obtain ⟨its2, rr2, pl2, hz2⟩ := I.tuple (SqT.of (K := X.K) q')
        have l1 := rr.length
        have l2 := rr2.length
        have l3 := rs1.length
        have l4 := rs2.length
        replace h : (if xs.length = ys.length then zb1 (deq 19) xs ys else none) = some b := h
        split at h
        · rename_i hlen
          obtain ⟨ee, he, ha⟩ := zf7 hlen h
          refine SeqAt.eq_tupleAt (show s.heap.IsTuple a its.toArray from pl) (show s.heap.IsTuple a' its2.toArray from pl2) (by omega) (zh5 rs1 rs2 rr rr2 he hin) ?_
          have hsz : its.toArray.size = its2.toArray.size := by simp only [List.size_toArray]; omega
          rw [<- hsz, Nat.min_self, beq_self_eq_true, Bool.and_true, List.size_toArray, <- l1, <- l3, ha]
          exact fin
        · cases h
      · obtain ⟨hs, rfl⟩ := zj8 ⟨hl, ht⟩ h
        obtain ⟨_, _, _, hsc, e⟩ := zkd hs r1 r2
        exact z3e pins s σ H v u w w' Q I rv ru ⟨hsc, by rw [e]; exact q0⟩
theorem zlx (hu : X.A.units + 64 < cLine) : OpD c X (compareOp .NotEq) dNe := by
  rintro pins s σ H v u w w' Q I rv ru ⟨Hf, x, y, d, s0, r1, r2, e, k⟩
  unfold dNe at e
  cases h : deq 20 x y with
  | none => rw [h] at e; cases e
  | some b =>
    rw [h] at e
    cases e
    have q0 := k (.bl (!b)) Hf H (Ext.refl s0) rfl
    have fin : EP X pins σ Q (.bool (!b)) s := ⟨.bl (!b), H, I, rfl, q0⟩
    have r1 := r1.up s0
    have r2 := r2.up s0
    have hin : ∀ {x y : D} {b : Bool} {v u : V} {w w' : Value}, deq 19 x y = some b -> Rep (Gx c X) H x v -> Rep (Gx c X) H y u -> zam v w -> zam u w' -> SeqAt.EqAt X.A.in1 s w w' b := fun h a b c d => znr I 19 (by rw [Around.in1_units]; omega) h a b c d
    by_cases hl : ∃ xs ys, x = .lst xs /\ y = .lst ys
    · obtain ⟨xs, ys, rfl, rfl⟩ := hl
      obtain ⟨a, vs, e, q, rs1⟩ := id r1
      obtain ⟨a', vs', e', q', rs2⟩ := id r2
      subst e e'
      cases rv; cases ru
      obtain ⟨its, rr, pl, hz⟩ := I.list (SqL.of (K := X.K) q)
      obtain ⟨its2, rr2, pl2, hz2⟩ := I.list (SqL.of (K := X.K) q')
      have l1 := rr.length
      have l2 := rr2.length
      have l3 := rs1.length
      have l4 := rs2.length
      replace h : (if xs.length = ys.length then zb1 (deq 19) xs ys else some false) = some b := h
      split at h
      · rename_i hlen
        obtain ⟨ee, he, ha⟩ := zf7 hlen h
        refine SeqAt.RcNeAt.lists (A := X.A) (s := s) pl.isList pl2.isList (by simp only [List.size_toArray]; omega) (by omega) (zh5 rs1 rs2 rr rr2 he hin) X.prog X.w X.xe _ ?_
        rw [List.size_toArray, <- l1, <- l3, ha]
        exact fin
      · rename_i hlen
        cases h
        exact SeqAt.RcNeAt.lists_lengths (A := X.A) (s := s) pl.isList pl2.isList (by simp only [List.size_toArray, bne_iff_ne, ne_eq]; omega) (by omega) X.prog X.w X.xe _ fin
    · by_cases ht : ∃ xs ys, x = .tup xs /\ y = .tup ys
      · obtain ⟨xs, ys, rfl, rfl⟩ := ht
        obtain ⟨a, vs, e, q, rs1⟩ := id r1
        obtain ⟨a', vs', e', q', rs2⟩ := id r2
        subst e e'
        cases rv; cases ru
        obtain ⟨its, rr, pl, hz⟩ := I.tuple (SqT.of (K := X.K) q)
        obtain ⟨its2, rr2, pl2, hz2⟩ := I.tuple (SqT.of (K := X.K) q')
        have l1 := rr.length
        have l2 := rr2.length
        have l3 := rs1.length
        have l4 := rs2.length
        replace h : (if xs.length = ys.length then zb1 (deq 19) xs ys else none) = some b := h
        split at h
        · rename_i hlen
          obtain ⟨ee, he, ha⟩ := zf7 hlen h
          refine SeqAt.RcNeAt.tuples (A := X.A) (s := s) (show s.heap.IsTuple a its.toArray from pl) (show s.heap.IsTuple a' its2.toArray from pl2) (by omega) (zh5 rs1 rs2 rr rr2 he hin) X.prog X.w X.xe _ ?_
          have hsz : its.toArray.size = its2.toArray.size := by simp only [List.size_toArray]; omega
          rw [<- hsz, Nat.min_self, beq_self_eq_true, Bool.and_true, List.size_toArray, <- l1, <- l3, ha]
          exact fin
        · cases h
      · obtain ⟨hs, rfl⟩ := zj8 ⟨hl, ht⟩ h
        obtain ⟨_, _, _, hsc, e⟩ := zkd hs r1 r2
        exact zxr pins s σ H v u w w' Q I rv ru ⟨hsc, by rw [e]; exact q0⟩
end
end L2
namespace L2
open PySem PySem.Spec PyProof.Rows
section
variable {c : Str -> Addr} {X : Cx} {e a b o : Expr} {es : List Expr} {pos p apos : Pos}
theorem z5h {G : Gc} {H : Hp} {ds : List D} {vs : List V} {i : Int} {d : D} (h : atI ds i = some d) (r : zae G H ds vs) : ∃ v, atI vs i = some v /\ Rep G H d v := by
  unfold atI at h ⊢
  rw [<- r.length]
  cases e : ixN ds.length i with
  | none => rw [e] at h; cases h
  | some j =>
    rw [e] at h
    exact r.get h
noncomputable def ixD (ds : List D) : D -> Option D
  | .int k => atI ds k
  | _ => none
noncomputable def mIx (f : List Sl -> Option (List D)) (g : List Sl -> Option D) (ρ : List Sl) : Option D := (f ρ).bind fun ds => (g ρ).bind fun i => ixD ds i
theorem zah {f : List Sl -> Option (List D)} {g : List Sl -> Option D} (ha : DC c X a f) (hb : DE c X b g) (hs : zo5 b := by exact fun _ _ => rfl) : DE c X (.Subscript a b pos) (mIx f g) :=
  PE.imp (zxu (ztr.or ztv) ha hb hs) fun σ H Q q_ => by
    obtain ⟨Hf0, H0, Hf, ρ, d, st, ef, k⟩ := q_
    unfold mIx at ef
    cases e1 : f ρ with
    | none => rw [e1] at ef; cases ef
    | some ds =>
      cases e2 : g ρ with
      | none => rw [e1, e2] at ef; cases ef
      | some i =>
        rw [e1, e2] at ef
        replace ef : ixD ds i = some d := ef
        cases i with
        | int n =>
          replace ef : atI ds n = some d := ef
          refine ⟨Hf0, H0, Hf, ρ, ds, st, e1, fun l vs Hf1 H1 x1 q r => ⟨Hf0, H0, Hf1, ρ, .int n, st.step x1, e2, fun u Hf2 H2 x2 r2 => ?_⟩⟩
          cases (show u = V.int n from r2)
          obtain ⟨v, ev, rv⟩ := z5h ef r
          have fin := k v Hf2 H2 (x1.trans x2) (rv.up x2.f)
          rcases q with q | q
          · exact .inl ⟨l, vs, n, v, rfl, rfl, x2.h.seq q, ev, fin⟩
          · exact .inr ⟨l, vs, n, v, rfl, rfl, x2.h.tup q, ev, fin⟩
        | _ => cases ef
noncomputable def zga (xs : List D) (lo hi : Option Int) : List D := (xs.drop (HT.sIx xs.length 0 lo)).take (HT.sIx xs.length xs.length hi - HT.sIx xs.length 0 lo)
noncomputable def lsD : D -> Option (List D)
  | .lst xs => some xs
  | .kl xs => some xs
  | _ => none
theorem zgb {G : Gc} {H : Hp} {d : D} {v : V} {ds : List D} (e : lsD d = some ds) (r : Rep G H d v) : ∃ a vs, v = .ref a /\ SqL G.K H a vs /\ zae G H ds vs := by
  cases d with
  | lst xs => cases e; obtain ⟨a, vs, e1, q, r⟩ := r; exact ⟨a, vs, e1, SqL.of q, r⟩
  | kl xs => cases e; obtain ⟨a, vs, e1, q, r⟩ := r; exact ⟨a, vs, e1, q, r⟩
  | _ => cases e
noncomputable def zx0 (G : Gc) (f : List Sl -> Option (Option Int)) : TO := fun σ H Q => ∃ Hf0 H0 Hf ρ i, zai G Hf0 H0 Hf H σ ρ /\ f ρ = some i /\ ∀ Hf' H', Ext Hf H Hf' H' -> Q i H'
noncomputable def DPt (c : Str -> Addr) (X : Cx) (e : Option Expr) (f : List Sl -> Option (Option Int)) : Prop := PO X e (zx0 (Gx c X) f)
theorem zia : DPt c X none (fun _ => some none) := fun pins s σ H Q I q_ => by
  obtain ⟨Hf0, H0, Hf, ρ, i, st, ef, k⟩ := q_
  exact (zuh pins s σ H Q I (by cases ef; exact k Hf H (Ext.refl st.sub)))
noncomputable def mPt (f : List Sl -> Option D) (ρ : List Sl) : Option (Option Int) := (f ρ).bind fun d => match d with
  | .int i => some (some i)
  | _ => none
theorem zez {f : List Sl -> Option D} (h : DE c X e f) : DPt c X (some e) (mPt f) := fun pins s σ H Q I q_ => by
  obtain ⟨Hf0, H0, Hf, ρ, i, st, ef, k⟩ := q_
  exact (zu8 h pins s σ H Q I (by
  unfold mPt at ef
  cases e1 : f ρ with
  | none => rw [e1] at ef; cases ef
  | some d =>
    rw [e1] at ef
    cases d with
    | int n => cases ef; exact ⟨Hf0, H0, Hf, ρ, .int n, st, e1, fun v Hf' H' x r => ⟨n, r, k Hf' H' x⟩⟩
    | _ => cases ef))
noncomputable def mSl (f : List Sl -> Option D) (l h : List Sl -> Option (Option Int)) (ρ : List Sl) : Option (List D) := (f ρ).bind fun d => (lsD d).bind fun ds => (l ρ).bind fun lo => (h ρ).map fun hi => zga ds lo hi
theorem zvf {G : Gc} {H : Hp} {ds : List D} {vs : List V} (r : zae G H ds vs) (lo hi : Option Int) : zae G H (zga ds lo hi) (zfq vs lo hi) := by
  unfold zga zfq
  rw [r.length]
  exact (r.drop _).take _
theorem zf0 {f : List Sl -> Option D} {l h : List Sl -> Option (Option Int)} {lo hi : Option Expr} {p2 : Pos} (ha : DE c X e f) (hl : DPt c X lo l) (hh : DPt c X hi h) : DO c X (.Subscript e (.Slice lo hi none p2) pos) (mSl f l h) :=
  PE.imp (zz4 zwf ha hl hh) fun σ H Q q_ => by
    obtain ⟨Hf0, H0, Hf, ρ, rs, st, ef, k⟩ := q_
    unfold mSl at ef
    cases e1 : f ρ with
    | none => rw [e1] at ef; cases ef
    | some d =>
      cases e2 : lsD d with
      | none => rw [e1] at ef; replace ef : (lsD d).bind _ = _ := ef; rw [e2] at ef; cases ef
      | some ds =>
        cases e3 : l ρ with
        | none => rw [e1] at ef; replace ef : (lsD d).bind _ = _ := ef; rw [e2, e3] at ef; cases ef
        | some lo' =>
          cases e4 : h ρ with
          | none => rw [e1] at ef; replace ef : (lsD d).bind _ = _ := ef; rw [e2, e3, e4] at ef; cases ef
          | some hi' =>
            rw [e1] at ef
            replace ef : (lsD d).bind _ = _ := ef
            rw [e2, e3, e4] at ef
            cases ef
            refine ⟨Hf0, H0, Hf, ρ, d, st, e1, fun v Hf1 H1 x1 r1 => ⟨Hf0, H0, Hf1, ρ, lo', st.step x1, e3, fun Hf2 H2 x2 => ⟨Hf0, H0, Hf2, ρ, hi', (st.step x1).step x2, e4, fun Hf3 H3 x3 => ?_⟩⟩⟩
            obtain ⟨a, vs, ea, q, r⟩ := zgb e2 r1
            subst ea
            have x := (x1.trans x2).trans x3
            have y := (x2.trans x3)
            refine ⟨a, vs, rfl, (x1.s.trans y.h).seq q, fun p hp => ?_⟩
            exact k p (zfq vs lo' hi') Hf3 (upd H3 p (.lst (zfq vs lo' hi'))) (x.trans (Ext.tmp x.s hp)) (x.h.free hp) (x.s.free hp) zbe (zvf (r.up y.f) _ _)
noncomputable def rCD (G : Gc) (m : List D -> Option D) : List V -> Hp -> VK -> Prop := fun vs H Q => ∃ Hf ds d, zan Hf H /\ zae G Hf ds vs /\ m ds = some d /\ ∀ v Hf' H', Ext Hf H Hf' H' -> Rep G Hf' d v -> Q v H'
noncomputable abbrev zkm (c : Str -> Addr) (X : Cx) (f : Value) (m : List D -> Option D) : Prop := zcw X f (rCD (Gx c X) m)
noncomputable def zat (m : List D -> Option D) (f : List Sl -> Option (List D)) (ρ : List Sl) : Option D := (f ρ).bind m
theorem zpu {m : List D -> Option D} {f : List Sl -> Option (List D)} {ρ : List Sl} {d : D} (h : zat m f ρ = some d) : ∃ ds, f ρ = some ds /\ m ds = some d := by
  unfold zat at h
  cases e : f ρ with
  | none => rw [e] at h; cases h
  | some ds => rw [e] at h; exact ⟨ds, rfl, h⟩
theorem zdv {m : List D -> Option D} {f : List Sl -> Option (List D)} {x : Str} {id : String} (hc : zkm c X (.builtin id) m) (hs : ∀ ds d, m ds = some d -> d.scalar = true) (hg : Gl X x) (hm : X.mg x = none) (hv : bootBuiltins x = some (.builtin id)) (ha : DAB c X (e :: es) f) (hn : x ≠ "__name__" := by decide) (hdb : (x == ("__debug__" : Str)) = false := by decide)
    (he : starEach (e :: es) X.env = (false, eval e X.env) :: starEach es X.env := by rfl) (hpl : (backTo pos (starEach es X.env)).any (·.1) = false := by rfl) :
    DE c X (.Call (.Name x p) (e :: es) [] pos) (zat m f) := PE.imp (zq1 hc hg hm hv ha.pa hn hdb he hpl) fun σ H Q q_ => by
  obtain ⟨Hf0, H0, Hf, ρ, d, st, ef, k⟩ := q_
  obtain ⟨ds, e1, e2⟩ := zpu ef
  exact ⟨Hf0, H0, Hf, ρ, ds, st, e1, fun vs Hf' H' x r => ⟨H', ds, d, zan.refl _, r, e2, fun v Hf2 H2 x2 r2 => k v Hf' H2 (x.trans (Ext.grow x.s x2.h)) (r2.sc (hs _ _ e2))⟩⟩
noncomputable def zd4 : List D -> Option D
  | [.lst xs] => some (.int xs.length)
  | [.tup xs] => some (.int xs.length)
  | [.kl xs] => some (.int xs.length)
  | [.kt xs] => some (.int xs.length)
  | [.str x] => if x.length <= 16777216 then some (.int x.length) else none
  | _ => none
theorem zae.one {G : Gc} {H : Hp} {d : D} {vs : List V} (r : zae G H [d] vs) : ∃ v, vs = [v] /\ Rep G H d v := by
  obtain ⟨v, r', e, h, q⟩ := r
  cases (show r' = [] from q)
  exact ⟨v, e, h⟩
theorem zae.two {G : Gc} {H : Hp} {d d' : D} {vs : List V} (r : zae G H [d, d'] vs) : ∃ v v', vs = [v, v'] /\ Rep G H d v /\ Rep G H d' v' := by
  obtain ⟨v, r', e, h, q⟩ := r
  obtain ⟨v', e', h'⟩ := q.one
  subst e'
  exact ⟨v, v', e, h, h'⟩
theorem zg3 : zkm c X (.builtin "len") zd4 := by
  rintro pins s σ H vs us Q I rv ⟨Hf, ds, d, s0, r, e, k⟩
  have sq : ∀ (d0 : D) (xs : List D), ds = [d0] -> zfe d0 = some xs -> d = .int xs.length -> wpAny (model X.prog X.w) X.A (call (.builtin "len") us) (EP X pins σ Q) X.xe s := fun d0 xs ed es e0 => by
    subst ed e0
    obtain ⟨v, e1, r1⟩ := r.one
    subst e1
    obtain ⟨a, ws, e2, q, rs⟩ := zli es r1
    subst e2
    refine z47 pins s σ H _ us Q I rv ⟨a, ws, rfl, zlm s0 q, ?_⟩
    rw [<- rs.length]
    exact k _ Hf H (Ext.refl s0) rfl
  unfold zd4 at e
  split at e
  · cases e; exact sq _ _ rfl rfl rfl
  · cases e; exact sq _ _ rfl rfl rfl
  · cases e; exact sq _ _ rfl rfl rfl
  · cases e; exact sq _ _ rfl rfl rfl
  · split at e
    · rename_i hl
      cases e
      obtain ⟨v, e1, r1⟩ := r.one
      subst e1
      exact zyr pins s σ H _ us Q I rv ⟨_, by rw [show v = V.str _ from r1], by rw [sizeLine_eq]; exact hl, k _ Hf H (Ext.refl s0) rfl⟩
    · cases e
  · cases e
theorem zg4 : ∀ ds d, zd4 ds = some d -> d.scalar = true := by
  intro ds d e
  unfold zd4 at e
  split at e <;> first | (cases e; done) | (cases e; rfl) | (split at e <;> first | (cases e; done) | (cases e; rfl))
noncomputable def zdf : List D -> Option (List Int)
  | [] => some []
  | .int i :: ds => (zdf ds).map fun r => i :: r
  | _ => none
theorem zsn {G : Gc} {H : Hp} : ∀ {ds : List D} {ns : List Int} {vs : List V}, zdf ds = some ns -> zae G H ds vs -> vs = ns.map V.int
  | [], _, _, e, r => by cases e; exact r
  | .int i :: ds, _, _, e, ⟨v, r', e', h1, h2⟩ => by
    subst e'
    cases es : zdf ds with
    | none => rw [zdf, es] at e; cases e
    | some ns =>
      rw [zdf, es] at e
      cases e
      rw [zsn es h2, show v = V.int i from h1]
      rfl
  | .non :: _, _, _, e, _ => by cases e
  | .bl _ :: _, _, _, e, _ => by cases e
  | .str _ :: _, _, _, e, _ => by cases e
  | .lst _ :: _, _, _, e, _ => by cases e
  | .tup _ :: _, _, _, e, _ => by cases e
  | .kl _ :: _, _, _, e, _ => by cases e
  | .kt _ :: _, _, _, e, _ => by cases e
  | .dic _ _ :: _, _, _, e, _ => by cases e
  | .ins _ _ _ :: _, _, _, e, _ => by cases e
theorem z32 (ns : List Int) : zdf (ns.map D.int) = some ns := by
  induction ns with
  | nil => rfl
  | cons n ns ih => rw [List.map_cons, zdf, ih]; rfl
noncomputable def zdg : List D -> Option D
  | [d] => (lsD d).bind fun ds => (zdf ds).map fun ns => .int ns.sum
  | _ => none
theorem zih (hc : X.calm = true) : zkm c X (.builtin "sum") zdg := by
  rintro pins s σ H vs us Q I rv ⟨Hf, ds, d, s0, r, e, k⟩
  unfold zdg at e
  split at e
  · rename_i d0
    cases e1 : lsD d0 with
    | none => rw [e1] at e; cases e
    | some xs =>
      cases e2 : zdf xs with
      | none => rw [e1] at e; replace e : (zdf xs).map _ = _ := e; rw [e2] at e; cases e
      | some ns =>
        rw [e1] at e
        replace e : (zdf xs).map _ = _ := e
        rw [e2] at e
        cases e
        obtain ⟨v, ev, r1⟩ := r.one
        subst ev
        obtain ⟨a, ws, ea, q, rs⟩ := zgb e1 r1
        subst ea
        refine z0r hc pins s σ H _ us Q I rv ⟨a, ns, rfl, ?_, k _ Hf H (Ext.refl s0) rfl⟩
        rw [<- zsn e2 rs]
        exact s0.seq q
  · cases e
theorem zhl : ∀ ds d, zdg ds = some d -> d.scalar = true := by
  intro ds d e
  unfold zdg at e
  split at e
  · rename_i d0
    cases e1 : lsD d0 with
    | none => rw [e1] at e; cases e
    | some xs =>
      rw [e1] at e
      replace e : (zdf xs).map _ = _ := e
      cases e2 : zdf xs with
      | none => rw [e2] at e; cases e
      | some ns => rw [e2] at e; cases e; rfl
  · cases e
theorem zjl {f : List Sl -> Option (List D)} {x : Str} (hx : bootBuiltins x = some (.type "list")) (hg : Gl X x) (hm : X.mg x = none) (ha : DC c X e f) (hs : starEach [e] X.env = (false, eval e X.env) :: starEach [] X.env := by rfl) (hn : x ≠ "__name__" := by decide) (hdb : (x == ("__debug__" : Str)) = false := by decide)
    (hpl : (backTo pos (starEach [] X.env)).any (·.1) = false := by rfl) : DO c X (.Call (.Name x p) [e] [] pos) f :=
  PE.imp (z0v zzu hg hm hx (zd0 ha zei hs) hn hdb hs hpl) fun σ H Q ⟨Hf0, H0, Hf, ρ, ds, st, ef, k⟩ =>
    ⟨Hf0, H0, Hf, ρ, ds, st, ef, fun a vs Hf' H' x q r => ⟨a, vs, rfl, q, fun l hl => k l vs Hf' (upd H' l (.lst vs)) (x.trans (Ext.tmp x.s hl)) (x.h.free hl) (x.s.free hl) zbe r⟩⟩
noncomputable def tyN : D -> Option String
  | .non => some "NoneType"
  | .bl _ => some "bool"
  | .int _ => some "int"
  | .str _ => some "str"
  | .lst _ => some "list"
  | .tup _ => some "tuple"
  | .dic _ _ => some "dict"
  | _ => none
noncomputable def zl9 (T : String) (d : D) : Option D := (tyN d).map fun t => .bl (t == T || (t == "bool" && T == "int"))
theorem zyx {G : Gc} {H : Hp} {d : D} {v : V} {t : String} (e : tyN d = some t) (r : Rep G H d v) : zdd G.K H v (.type t) := by
  cases d with
  | non => cases e; cases r; exact .non
  | bl b => cases e; cases r; exact .bl b
  | int i => cases e; cases r; exact .int i
  | str x => cases e; cases r; exact .str x
  | lst xs => cases e; obtain ⟨a, vs, e1, q, r⟩ := r; subst e1; exact .lst q
  | tup xs => cases e; obtain ⟨a, vs, e1, q, r⟩ := r; subst e1; exact .tup q
  | dic ks xs => cases e; obtain ⟨a, vs, e1, q, l, r⟩ := r; subst e1; exact .dK q
  | _ => cases e
noncomputable def zjm (K : PySem.W.Frag) (T : String) : Prop := ∀ t ∈ ["NoneType", "bool", "int", "str", "list", "tuple", "dict"], PySem.W.kitOne K (.type t) (.type T) = some (t == T || (t == "bool" && T == "int"))
theorem z29 {d : D} {t : String} (e : tyN d = some t) : t ∈ ["NoneType", "bool", "int", "str", "list", "tuple", "dict"] := by
  cases d <;> first | (cases e; decide) | cases e
noncomputable def zgh (T : String) (f : List Sl -> Option D) (ρ : List Sl) : Option D := (f ρ).bind (zl9 T)
theorem zi5 {f : List Sl -> Option D} {T : String} {q1 : Pos} {y : Str} (hk : zjm X.K T) (hg : Gl X "isinstance") (hm : X.mg "isinstance" = none) (hy : bootBuiltins y = some (.type T)) (hgy : Gl X y) (hmy : X.mg y = none) (ha : DB c X e f)
    (hs : starEach [e, .Name y q1] X.env = (false, eval e X.env) :: starEach [.Name y q1] X.env := by rfl) (hs2 : starEach [.Name y q1] X.env = (false, eval (.Name y q1) X.env) :: starEach [] X.env := by rfl)
    (hn : y ≠ "__name__" := by decide) (hdb : (y == ("__debug__" : Str)) = false := by decide) (hpl : (backTo pos (starEach [.Name y q1] X.env)).any (·.1) = false := by rfl) :
    DE c X (.Call (.Name "isinstance" p) [e, .Name y q1] [] pos) (zgh T f) :=
  PE.imp (zq1 zyd hg hm boot_isinstance (zd0 ha (zd0 (z3b (v := .ty T) hgy hmy hy rfl hn hdb) zei hs2) hs) (by decide) (by decide) hs hpl) fun σ H Q q_ => by
    obtain ⟨Hf0, H0, Hf, ρ, d, st, ef, k⟩ := q_
    unfold zgh at ef
    cases e1 : f ρ with
    | none => rw [e1] at ef; cases ef
    | some x =>
      rw [e1] at ef
      replace ef : zl9 T x = some d := ef
      unfold zl9 at ef
      cases e2 : tyN x with
      | none => rw [e2] at ef; cases ef
      | some t =>
        rw [e2] at ef
        cases ef
        exact ⟨Hf0, H0, Hf, ρ, x, st, e1, fun v Hf' H' x1 r => ⟨v, T, .type t, _, rfl, zyx e2 r, hk t (z29 e2), k _ Hf' H' x1 rfl⟩⟩
end
noncomputable def tDG (G : Gc) (g : D -> List Sl -> Option (List Sl)) : TG := fun v σ H Q => ∃ Hf0 H0 Hf ρ d ρ', zai G Hf0 H0 Hf H σ ρ /\ Rep G Hf d v /\ g d ρ = some ρ' /\ ∀ σ', zai G Hf0 H0 Hf H σ' ρ' -> Q σ' H
noncomputable def zy0 (G : Gc) (g : List D -> List Sl -> Option (List Sl)) : TGs := fun vs σ H Q => ∃ Hf0 H0 Hf ρ ds ρ', zai G Hf0 H0 Hf H σ ρ /\ zae G Hf ds vs /\ g ds ρ = some ρ' /\ ∀ σ', zai G Hf0 H0 Hf H σ' ρ' -> Q σ' H
structure DG (c : Str -> Addr) (X : Cx) (tg : Expr) (k : Nat) (g : D -> List Sl -> Option (List Sl)) : Prop where
  pg : PG X tg (tDG (Gx c X) g)
  len : ∀ d ρ ρ', g d ρ = some ρ' -> ρ'.length = ρ.length
  keep : ∀ d ρ ρ' i, g d ρ = some ρ' -> k <= i -> ρ'[i]? = ρ[i]?
structure DGs (c : Str -> Addr) (X : Cx) (tg : List Expr) (k : Nat) (g : List D -> List Sl -> Option (List Sl)) : Prop where
  pg : PGs X tg (zy0 (Gx c X) g)
  len : ∀ d ρ ρ', g d ρ = some ρ' -> ρ'.length = ρ.length
  keep : ∀ d ρ ρ' i, g d ρ = some ρ' -> k <= i -> ρ'[i]? = ρ[i]?
  many : ∀ ds ρ ρ', g ds ρ = some ρ' -> ds.length = tg.length
section
variable {c : Str -> Addr} {X : Cx} {e : Expr} {es : List Expr} {pos : Pos}
noncomputable def zav (i : Nat) (d : D) (ρ : List Sl) : Option (List Sl) := some (ρ.set i (.im d))
theorem zr4 {i k : Nat} (h : PG X e (zfv i)) (hk : i < k) : DG c X e k (zav i) :=
  ⟨PG.imp h fun v σ H Q ⟨Hf0, H0, Hf, ρ, d, ρ', st, r, eg, q⟩ => by cases eg; exact q _ (st.setIm r), fun d ρ ρ' h => by cases h; simp, fun d ρ ρ' j h hj => by
    cases h
    rw [List.getElem?_set_ne (by omega)]⟩
theorem zdm (i k : Nat) {x : Str} (hN : X.N.Nodup) (hk : i < k := by decide) (hi : X.N[i]? = some x := by rfl) (hx : Loc X.env.scope x := by first | exact Or.inl rfl | exact Or.inr rfl) (hf : X.fn x = true \/ X.env.scope.names.lookup x = some .local := by first | exact .inl rfl | exact .inr rfl) : DG c X (.Name x pos) k (zav i) :=
  zr4 (zte hN hi hx hf) hk
noncomputable def zdh (ds : List D) (ρ : List Sl) : Option (List Sl) := match ds with
  | [] => some ρ
  | _ => none
noncomputable def zby (g : D -> List Sl -> Option (List Sl)) (h : List D -> List Sl -> Option (List Sl)) (ds : List D) (ρ : List Sl) : Option (List Sl) := match ds with
  | d :: ds => (g d ρ).bind fun ρ1 => h ds ρ1
  | [] => none
theorem zeb {k : Nat} : DGs c X [] k zdh := by
  refine ⟨PGs.imp z3d fun vs σ H Q ⟨Hf0, H0, Hf, ρ, ds, ρ', st, r, eg, q⟩ => ?_, fun d ρ ρ' h => ?_, fun d ρ ρ' i h _ => ?_, fun d ρ ρ' h => ?_⟩
  · cases ds with
    | nil => cases eg; exact ⟨r, q _ st⟩
    | cons d ds => cases eg
  · cases d with
    | nil => cases h; rfl
    | cons a b => cases h
  · cases d with
    | nil => cases h; rfl
    | cons a b => cases h
  · cases d with
    | nil => cases h; rfl
    | cons a b => cases h
theorem zko {g : D -> List Sl -> Option (List Sl)} {h : List D -> List Sl -> Option (List Sl)} {ds : List D} {ρ ρ' : List Sl} (e : zby g h ds ρ = some ρ') : ∃ d r ρ1, ds = d :: r /\ g d ρ = some ρ1 /\ h r ρ1 = some ρ' := by
  cases ds with
  | nil => cases e
  | cons d r =>
    replace e : (g d ρ).bind _ = _ := e
    cases e1 : g d ρ with
    | none => rw [e1] at e; cases e
    | some ρ1 => rw [e1] at e; exact ⟨d, r, ρ1, rfl, e1, e⟩
theorem zcf {k : Nat} {g : D -> List Sl -> Option (List Sl)} {h : List D -> List Sl -> Option (List Sl)} (h1 : DG c X e k g) (h2 : DGs c X es k h) (hs : (assignEach (e :: es) X.env).map (·.2) = assign e X.env :: (assignEach es X.env).map (·.2) := by rfl) : DGs c X (e :: es) k (zby g h) := by
  refine ⟨PGs.imp (zvr h1.pg h2.pg hs) fun vs σ H Q ⟨Hf0, H0, Hf, ρ, ds, ρ', st, r, eg, q⟩ => ?_, fun d ρ ρ' h => ?_, fun d ρ ρ' i h hi => ?_, fun d ρ ρ' h => ?_⟩
  · obtain ⟨d, dr, ρ1, rfl, e1, e2⟩ := zko eg
    obtain ⟨v, vr, ev, rv, rr⟩ := r
    exact ⟨v, vr, ev, Hf0, H0, Hf, ρ, d, ρ1, st, rv, e1, fun σ1 st1 => ⟨Hf0, H0, Hf, ρ1, dr, ρ', st1, rr, e2, q⟩⟩
  · obtain ⟨d, dr, ρ1, rfl, e1, e2⟩ := zko h
    rw [h2.len _ _ _ e2, h1.len _ _ _ e1]
  · obtain ⟨d, dr, ρ1, rfl, e1, e2⟩ := zko h
    rw [h2.keep _ _ _ _ e2 hi, h1.keep _ _ _ _ e1 hi]
  · obtain ⟨d, dr, ρ1, rfl, e1, e2⟩ := zko h
    rw [List.length_cons, List.length_cons, h2.many _ _ _ e2]
noncomputable def tpD : D -> Option (List D)
  | .tup xs => some xs
  | .kt xs => some xs
  | _ => none
theorem zrx {G : Gc} {H : Hp} {d : D} {v : V} {ds : List D} (e : tpD d = some ds) (r : Rep G H d v) : ∃ a vs, v = .ref a /\ SqT G.K H a vs /\ zae G H ds vs := by
  cases d with
  | tup xs => cases e; obtain ⟨a, vs, e1, q, r⟩ := r; exact ⟨a, vs, e1, SqT.of q, r⟩
  | kt xs => cases e; obtain ⟨a, vs, e1, q, r⟩ := r; exact ⟨a, vs, e1, q, r⟩
  | _ => cases e
noncomputable def zc3 (g : List D -> List Sl -> Option (List Sl)) (d : D) (ρ : List Sl) : Option (List Sl) := (tpD d).bind fun ds => g ds ρ
theorem zoe {g : List D -> List Sl -> Option (List Sl)} {d : D} {ρ ρ' : List Sl} (h : zc3 g d ρ = some ρ') : ∃ ds, tpD d = some ds /\ g ds ρ = some ρ' := by
  unfold zc3 at h
  cases e : tpD d with
  | none => rw [e] at h; cases h
  | some ds => rw [e] at h; exact ⟨ds, rfl, h⟩
theorem zep {k : Nat} {g : List D -> List Sl -> Option (List Sl)} {kk : Nat} (hc : X.calm = true) (h : DGs c X es k g) (hn : (assignEach es X.env).length = es.length := by rfl) (hst : (assignEach es X.env).findIdx? (·.1) = none := by rfl) : DG c X (.Tuple es kk pos) k (zc3 g) := by
  refine ⟨PG.imp (z0g hc h.pg hn hst) fun v σ H Q ⟨Hf0, H0, Hf, ρ, d, ρ', st, r, eg, q⟩ => ?_, fun d ρ ρ' h' => ?_, fun d ρ ρ' i h' hi => ?_⟩
  · obtain ⟨ds, e1, e2⟩ := zoe eg
    obtain ⟨a, vs, ea, qa, ra⟩ := zrx e1 r
    exact ⟨a, vs, ea, st.sub.tup qa, by rw [<- ra.length]; exact h.many _ _ _ e2, Hf0, H0, Hf, ρ, ds, ρ', st, ra, e2, q⟩
  · obtain ⟨ds, e1, e2⟩ := zoe h'
    exact h.len _ _ _ e2
  · obtain ⟨ds, e1, e2⟩ := zoe h'
    exact h.keep _ _ _ _ e2 hi
end
noncomputable def zi3 (G : Gc) (Hf : Hp) (J : It) (ds : List D) : Prop := ∀ Hf' H', zan Hf Hf' -> zan Hf' H' -> ∀ i : Nat,
  (∀ d, ds[i]? = some d -> J.go i H' /\ ∀ x H2, J.yld i H' x H2 -> ∃ Hf2, Ext Hf' H' Hf2 H2 /\ Rep G Hf2 d x) /\ (i = ds.length -> J.stop i H')
noncomputable def zq0 (G : Gc) (Hf H : Hp) (J : It) (ds : List D) : Prop := ∀ Hf' H', Ext Hf H Hf' H' -> ∀ i : Nat,
  (∀ d, ds[i]? = some d -> J.go i H' /\ ∀ x H2, J.yld i H' x H2 -> ∃ Hf2, Ext Hf' H' Hf2 H2 /\ Rep G Hf2 d x) /\ (i = ds.length -> J.stop i H')
theorem zi3.toE {G : Gc} {Hf H : Hp} {J : It} {ds : List D} (h : zi3 G Hf J ds) : zq0 G Hf H J ds := fun Hf' H' x i => h Hf' H' x.f x.s i
noncomputable def tDI (G : Gc) (f : List Sl -> Option (List D)) : TI := fun σ H R => ∃ Hf0 H0 Hf ρ ds, zai G Hf0 H0 Hf H σ ρ /\ f ρ = some ds /\ ∀ J Hf' H', Ext Hf H Hf' H' -> zi3 G Hf' J ds -> R J H'
noncomputable def zre (G : Gc) (f : List Sl -> Option (List D)) : TI := fun σ H R => ∃ Hf0 H0 Hf ρ ds, zai G Hf0 H0 Hf H σ ρ /\ f ρ = some ds /\ ∀ J Hf' H', Ext Hf H Hf' H' -> zq0 G Hf' H' J ds -> R J H'
noncomputable def DI (c : Str -> Addr) (X : Cx) (tg iter : Expr) (f : List Sl -> Option (List D)) : Prop := PI X tg iter (tDI (Gx c X) f)
noncomputable def DIe (c : Str -> Addr) (X : Cx) (tg iter : Expr) (f : List Sl -> Option (List D)) : Prop := PI X tg iter (zre (Gx c X) f)
section
variable {c : Str -> Addr} {X : Cx} {tg e a b : Expr} {es : List Expr} {pos p : Pos}
theorem DI.de {f : List Sl -> Option (List D)} (h : DI c X tg e f) : DIe c X tg e f := PI.imp h fun σ H R q_ => by
  obtain ⟨Hf0, H0, Hf, ρ, ds, st, ef, k⟩ := q_
  exact (⟨Hf0, H0, Hf, ρ, ds, st, ef, fun J Hf' H' x i => k J Hf' H' x i.toE⟩)
theorem z2t {G : Gc} {Hf : Hp} {ds : List D} {l : Addr} {vs : List V} (q : SqT G.K Hf l vs) (r : zae G Hf ds vs) : zi3 G Hf (Itt G.K l) ds := fun Hf' H' f s i => by
  have q' : SqT G.K H' l vs := (f.trans s).tup q
  refine ⟨fun d ed => ?_, fun ei => ⟨vs, q', by rw [<- r.length, ei]; exact Nat.le_refl _⟩⟩
  obtain ⟨v, ev, rv⟩ := r.get ed
  refine ⟨⟨vs, v, q', ev⟩, fun x H2 ⟨e2, y⟩ => ?_⟩
  subst e2
  have := y vs q'
  rw [ev] at this
  cases this
  exact ⟨Hf', Ext.refl s, rv.up f⟩
theorem zb9 {f : List Sl -> Option D} (h : DE c X e f) : DI c X tg e (zbc f) := fun pins s σ H R I q_ => by
  obtain ⟨Hf0, H0, Hf, ρ, ds, st, ef, k⟩ := q_
  unfold zbc at ef
  cases e1 : f ρ with
  | none => rw [e1] at ef; cases ef
  | some d =>
    rw [e1] at ef
    replace ef : zfe d = some ds := ef
    have un : ∀ {l : Addr} {H' : Hp} {us vs : List V}, SqL X.K H' l us -> SqL X.K H' l vs -> us = vs \/ True := fun _ _ => .inr trivial
    cases e2 : lsD d with
    | some ds' =>
      have : ds' = ds := by cases d <;> first | (cases e2; done) | (cases e2; cases ef; rfl)
      subst this
      refine zug h pins s σ H R I ⟨Hf0, H0, Hf, ρ, d, st, e1, fun v Hf' H' x r => ?_⟩
      obtain ⟨a, vs, ea, q, rs⟩ := zgb e2 r
      exact ⟨a, ea, ⟨vs, x.s.seq q⟩, k _ Hf' H' x fun Hf2 H2 f2 s2 i => by
        have q' : SqL X.K H2 a vs := (f2.trans s2).seq q
        refine ⟨fun d ed => ?_, fun ei => ⟨vs, q', by rw [<- rs.length, ei]; exact Nat.le_refl _⟩⟩
        obtain ⟨v, ev, rv⟩ := rs.get ed
        refine ⟨⟨vs, v, q', ev⟩, fun x H3 ⟨e3, y⟩ => ?_⟩
        subst e3
        have := y vs q'
        rw [ev] at this
        cases this
        exact ⟨Hf2, Ext.refl s2, rv.up f2⟩⟩
    | none =>
      have e3 : tpD d = some ds := by cases d <;> first | (cases e2; done) | (cases ef; done) | (cases ef; rfl)
      refine z1f h pins s σ H R I ⟨Hf0, H0, Hf, ρ, d, st, e1, fun v Hf' H' x r => ?_⟩
      obtain ⟨a, vs, ea, q, rs⟩ := zrx e3 r
      exact ⟨a, ea, ⟨vs, x.s.tup q⟩, k _ Hf' H' x (z2t q rs)⟩
noncomputable def rng (lo : Int) (n : Nat) : List D := (List.range n).map fun (i : Nat) => .int (lo + i)
theorem z0q {G : Gc} {Hf : Hp} {lo : Int} {n : Nat} : zi3 G Hf (Itr lo n) (rng lo n) := fun Hf' H' f s i => by
  refine ⟨fun d ed => ?_, fun ei => ?_⟩
  · unfold rng at ed
    rw [List.getElem?_map] at ed
    cases e : (List.range n)[i]? with
    | none => rw [e] at ed; cases ed
    | some j =>
      rw [e] at ed
      obtain ⟨hi, ej⟩ := List.getElem?_eq_some_iff.mp e
      rw [List.length_range] at hi
      rw [List.getElem_range] at ej
      subst ej
      cases ed
      exact ⟨hi, fun x H2 ⟨e2, y⟩ => by subst e2; exact ⟨Hf', Ext.refl s, y⟩⟩
  · unfold rng at ei
    rw [List.length_map, List.length_range] at ei
    exact Nat.le_of_eq ei.symm
noncomputable def znh : List D -> Option (List D)
  | [.int j] => if -(2 ^ 62) <= j /\ j < 2 ^ 62 then some (rng 0 j.toNat) else none
  | [.int i, .int j] => if -(2 ^ 62) <= i /\ i < 2 ^ 62 /\ -(2 ^ 62) <= j /\ j < 2 ^ 62 then some (rng i (j - i).toNat) else none
  | _ => none
noncomputable def zeh (f : List Sl -> Option (List D)) (ρ : List Sl) : Option (List D) := (f ρ).bind znh
theorem zj4 {f : List Sl -> Option (List D)} (hg : Gl X "range") (hm : X.mg "range" = none) (ha : DA c X [a] f) (hs : starEach [a] X.env = [(false, eval a X.env)] := by rfl) : DI c X tg (.Call (.Name "range" p) [a] [] pos) (zeh f) :=
  PI.imp (z15 hg hm ha.pa hs) fun σ H R q_ => by
    obtain ⟨Hf0, H0, Hf, ρ, ds, st, ef, k⟩ := q_
    unfold zeh at ef
    cases e1 : f ρ with
    | none => rw [e1] at ef; cases ef
    | some as =>
      rw [e1] at ef
      replace ef : znh as = some ds := ef
      have hl := ha.len ρ as e1
      refine ⟨Hf0, H0, Hf, ρ, as, st, e1, fun vs Hf' H' x r => ?_⟩
      unfold znh at ef
      split at ef
      · split at ef
        · rename_i j hj
          cases ef
          obtain ⟨v, ev, rv⟩ := r.one
          cases (show v = V.int j from rv)
          exact ⟨j, ev, hj.1, hj.2, k _ Hf' H' x z0q⟩
        · cases ef
      · cases hl
      · cases ef
end
end L2
namespace L2
open PySem PySem.Spec PyProof.Rows
noncomputable def zct (k : Nat) (js : List Nat) (ρ : List Sl) : List Sl := List.replicate k .no ++ js.map fun j => (ρ[j]?).getD .no
section
variable {G : Gc} {Hf0 H0 Hf H : Hp} {σ : St} {ρ : List Sl}
theorem zai.weak {ρ' : List Sl} (h : zai G Hf0 H0 Hf H σ ρ) (hl : ρ'.length = ρ.length) (hw : ∀ (i : Nat) (s : Sl), ρ'[i]? = some s -> s = .no \/ ρ[i]? = some s) : zai G Hf0 H0 Hf H σ ρ' := by
  refine h.re h.ext hl (fun i v s a b => ?_) fun i s v a b c p => ?_
  · rcases hw i s b with e | e
    · subst e; trivial
    · exact h.at' i v s a e
  · rcases hw i s b with e | e
    · subst e; exact (p.calm rfl).elim
    · exact ⟨s, e, p⟩
theorem zk7 {α : Type} {k : Nat} {x : α} {l : List α} {i : Nat} {y : α} (h : (List.replicate k x ++ l)[i]? = some y) : (i < k /\ y = x) \/ (k <= i /\ l[i - k]? = some y) := by
  by_cases hi : i < k
  · left
    rw [List.getElem?_append_left (by simpa using hi), List.getElem?_replicate, if_pos hi] at h
    exact ⟨hi, (Option.some.inj h).symm⟩
  · right
    rw [List.getElem?_append_right (by simpa using Nat.le_of_not_lt hi), List.length_replicate] at h
    exact ⟨Nat.le_of_not_lt hi, h⟩
theorem zig {α β : Type} {f : α -> β} {l : List α} {i : Nat} {y : β} (h : (l.map f)[i]? = some y) : ∃ x, l[i]? = some x /\ y = f x := by
  rw [List.getElem?_map] at h
  cases e : l[i]? with
  | none => rw [e] at h; cases h
  | some x => rw [e] at h; exact ⟨x, rfl, (Option.some.inj h).symm⟩
theorem z2b {js : List Nat} (h : js.Nodup) {i j x : Nat} (a : js[i]? = some x) (b : js[j]? = some x) : i = j := by
  obtain ⟨h1, e1⟩ := List.getElem?_eq_some_iff.mp a
  obtain ⟨h2, e2⟩ := List.getElem?_eq_some_iff.mp b
  exact (List.getElem_inj h).mp (e1.trans e2.symm)
theorem zai.comp (k : Nat) {js : List Nat} (h : zai G Hf0 H0 Hf H σ ρ) (hj : js.Nodup) : zai G Hf0 H0 Hf H (zer k js σ) (zct k js ρ) := by
  have own : ∀ (i : Nat) (s : Sl), (zct k js ρ)[i]? = some s -> s.calm = false -> ∃ j, k <= i /\ js[i - k]? = some j /\ ρ[j]? = some s := fun i s a hs => by
    rcases zk7 a with ⟨_, e⟩ | ⟨hi, a⟩
    · subst e; cases hs
    · obtain ⟨j, ej, es⟩ := zig a
      cases e : ρ[j]? with
      | none => rw [e] at es; subst es; cases hs
      | some t => rw [e] at es; replace es : s = t := es; subst es; exact ⟨j, hi, ej, e⟩
  have val : ∀ (i : Nat) (v : Option V) (j : Nat), (zer k js σ)[i]? = some v -> k <= i -> js[i - k]? = some j -> v = (σ[j]?).getD none := fun i v j a hi ej => by
    rcases zk7 a with ⟨hi', _⟩ | ⟨_, a⟩
    · omega
    · obtain ⟨j', ej', es⟩ := zig a
      rw [ej] at ej'; cases ej'
      exact es
  refine ⟨h.ext, by simp [zer, zct], fun i v s a b => ?_, fun i j s t y z l a b c d p q => ?_⟩
  · rcases zk7 b with ⟨_, e⟩ | ⟨hi, b⟩
    · subst e; trivial
    · obtain ⟨j, ej, es⟩ := zig b
      have ev := val i v j a hi ej
      cases e : ρ[j]? with
      | none => rw [e] at es; subst es; trivial
      | some t =>
        rw [e] at es
        replace es : s = t := es
        subst es
        obtain ⟨u, eu, q⟩ := h.slot e
        rw [eu] at ev
        replace ev : v = u := ev
        subst ev
        exact q
  · have hs : s.calm = false := by
      cases hc : s.calm with
      | true => exact (p.calm hc).elim
      | false => rfl
    have ht : t.calm = false := by
      cases hc : t.calm with
      | true => exact (q.calm hc).elim
      | false => rfl
    obtain ⟨i', hi, ei, e1⟩ := own i s a hs
    obtain ⟨j', hj', ej, e2⟩ := own j t b ht
    have v1 := val i _ i' c hi ei
    have v2 := val j _ j' d hj' ej
    obtain ⟨u1, eu1, _⟩ := h.slot e1
    obtain ⟨u2, eu2, _⟩ := h.slot e2
    rw [eu1] at v1
    rw [eu2] at v2
    replace v1 : some y = u1 := v1
    replace v2 : some z = u2 := v2
    subst v1 v2
    have := h.dj i' j' s t y z l e1 e2 eu1 eu2 p q
    subst this
    have := z2b hj ei ej
    omega
end
noncomputable def zdi (h : D -> Option (Option D)) : List D -> Option (List D)
  | [] => some []
  | d :: ds => (h d).bind fun o => (zdi h ds).map fun r => match o with
    | some y => y :: r
    | none => r
theorem z2e {h : D -> Option (Option D)} {d : D} {ds r : List D} (e : zdi h (d :: ds) = some r) : ∃ o r', h d = some o /\ zdi h ds = some r' /\ r = (match o with | some y => y :: r' | none => r') := by
  unfold zdi at e
  cases e1 : h d with
  | none => rw [e1] at e; cases e
  | some o =>
    cases e2 : zdi h ds with
    | none => rw [e1, e2] at e; cases e
    | some r' =>
      rw [e1, e2] at e
      cases e
      refine ⟨o, r', rfl, rfl, ?_⟩
      cases o <;> rfl
noncomputable def zdq (g : D -> List Sl -> Option (List Sl)) (ft : List Sl -> Option Bool) (fe : List Sl -> Option D) (ρ : List Sl) (d : D) : Option (Option D) := (g d ρ).bind fun ρ1 => (ft ρ1).bind fun b => if b then (fe ρ1).map some else some none
noncomputable def zbj (k : Nat) (js : List Nat) (fi : List Sl -> Option (List D)) (g : D -> List Sl -> Option (List Sl)) (ft : List Sl -> Option Bool) (fe : List Sl -> Option D) (ρ : List Sl) : Option (List D) :=
  (fi ρ).bind fun ds => if ds.length <= 16777216 then zdi (zdq g ft fe (zct k js ρ)) ds else none
theorem zpj {α : Type} {l : List α} {i : Nat} (h : i < l.length) : ∃ x, l[i]? = some x /\ l.drop i = x :: l.drop (i + 1) := ⟨l[i], by simp [h], (List.drop_eq_getElem_cons h)⟩
noncomputable def DTs (c : Str -> Addr) (X : Cx) (ifs : List Expr) (f : List Sl -> Option Bool) : Prop := PTs X ifs (tDT (Gx c X) f)
section
variable {c : Str -> Addr} {X : Cx} {elt tg iter e : Expr} {ifs : List Expr} {scope : Scope} {pos : Pos} {Nc : List Str} {k : Nat} {js : List Nat}
  {fi : List Sl -> Option (List D)} {g : D -> List Sl -> Option (List Sl)} {ft : List Sl -> Option Bool} {fe : List Sl -> Option D}
theorem zdo : DTs c X [] (fun _ => some true) := PTs.imp z3q fun σ H Q q_ => by
  obtain ⟨Hf0, H0, Hf, ρ, b, st, ef, k⟩ := q_
  exact (by cases ef; exact k Hf H (Ext.refl st.sub))
theorem zgq {f : List Sl -> Option Bool} (h : DT c X e f) : DTs c X [e] f := z2h h
theorem zpf {G : Gc} (hj : js.Nodup) (hk : ∀ d ρ ρ' i, g d ρ = some ρ' -> k <= i -> ρ'[i]? = ρ[i]?) (hlen : ∀ d ρ ρ', g d ρ = some ρ' -> ρ'.length = ρ.length) {σ : St} {H : Hp} {Q : VK} (h : tDO G (zbj k js fi g ft fe) σ H Q) :
    zna k js (zre G fi) (tDG G g) (tDT G ft) (tD G fe) σ H Q := by
  obtain ⟨Hf0, H0, Hf, ρ, rs, st, ef, kq⟩ := h
  unfold zbj at ef
  cases e1 : fi ρ with
  | none => rw [e1] at ef; cases ef
  | some ds =>
    rw [e1] at ef
    replace ef : (if ds.length <= 16777216 then zdi (zdq g ft fe (zct k js ρ)) ds else none) = some rs := ef
    by_cases hz : ds.length <= 16777216
    · rw [if_pos hz] at ef
      refine ⟨Hf0, H0, Hf, ρ, ds, st, e1, fun J Hf1 H1 x1 it => ?_⟩
      refine ⟨fun i m ys σ' H' => m = ds.length - i /\ i <= ds.length /\ ∃ Hf' as zbs, Ext Hf1 H1 Hf' H' /\ zai G Hf0 H0 Hf' H' σ' (zct k js ρ) /\ zae G Hf' as ys /\ zdi (zdq g ft fe (zct k js ρ)) (ds.drop i) = some zbs /\ rs = as ++ zbs /\ as.length <= i,
        ⟨ds.length, rfl, Nat.zero_le _, Hf1, [], rs, Ext.refl x1.s, (st.step x1).comp k hj, rfl, ef, rfl, Nat.le_refl _⟩, ?_⟩
      rintro i m ys σ' H' ⟨rfl, hi, Hf', as, zbs, x2, st2, ra, ec, er, hal⟩
      have hys : ys.length <= sizeLine := by rw [sizeLine_eq, <- ra.length]; omega
      obtain ⟨it1, it2⟩ := it Hf' H' x2 i
      by_cases hlt : i < ds.length
      · obtain ⟨d, ed, edr⟩ := zpj hlt
        obtain ⟨go, yl⟩ := it1 d ed
        refine .inr ⟨go, hys, fun ys' σ2 H2 => ds.length - (i + 1) = ds.length - (i + 1) /\ i + 1 <= ds.length /\ ∃ Hf' as zbs, Ext Hf1 H1 Hf' H2 /\ zai G Hf0 H0 Hf' H2 σ2 (zct k js ρ) /\ zae G Hf' as ys' /\ zdi (zdq g ft fe (zct k js ρ)) (ds.drop (i + 1)) = some zbs /\ rs = as ++ zbs /\ as.length <= i + 1,
          fun ys' σ2 H2 w => ⟨ds.length - (i + 1), by omega, w⟩, fun x H2 y => ?_⟩
        obtain ⟨Hf2, x3, rx⟩ := yl x H2 y
        rw [edr] at ec
        obtain ⟨o, r', eo, ec', erest⟩ := z2e ec
        unfold zdq at eo
        cases eg : g d (zct k js ρ) with
        | none => rw [eg] at eo; cases eo
        | some ρ1 =>
          rw [eg] at eo
          replace eo : (ft ρ1).bind _ = _ := eo
          cases et : ft ρ1 with
          | none => rw [et] at eo; cases eo
          | some b =>
            rw [et] at eo
            replace eo : (if b = true then (fe ρ1).map some else some none) = some o := eo
            refine ⟨Hf0, H0, Hf2, zct k js ρ, d, ρ1, st2.step x3, rx, eg, fun σ3 st3 => ⟨Hf0, H0, Hf2, ρ1, b, st3, et, fun Hf4 H4 x4 => ?_⟩⟩
            have back : ∀ {Hf5 H5 : Hp}, zai G Hf0 H0 Hf5 H5 σ3 ρ1 -> zai G Hf0 H0 Hf5 H5 σ3 (zct k js ρ) := fun {Hf5 H5} s5 => s5.weak (hlen _ _ _ eg).symm fun j s hs => by
              rcases zk7 hs with ⟨_, e⟩ | ⟨hj', _⟩
              · exact .inl e
              · exact .inr (by rw [hk _ _ _ _ eg hj']; exact hs)
            cases b with
            | true =>
              rw [if_pos rfl] at eo
              refine z31 ?_
              cases ee : fe ρ1 with
              | none => rw [ee] at eo; cases eo
              | some y' =>
                rw [ee] at eo
                cases eo
                refine ⟨Hf0, H0, Hf4, ρ1, y', st3.step x4, ee, fun v Hf5 H5 x5 r5 => ?_⟩
                have x := (x3.trans x4).trans x5
                refine ⟨rfl, hlt, Hf5, as ++ [y'], r', x2.trans x, back ((st3.step x4).step x5), (ra.up x.f).append (.cons r5 .nil), ec', ?_, by rw [List.length_append, List.length_singleton]; omega⟩
                rw [er, erest, List.append_assoc]
                rfl
            | false =>
              rw [if_neg Bool.false_ne_true] at eo
              refine zx3 ?_
              cases eo
              have x := x3.trans x4
              exact ⟨rfl, hlt, Hf4, as, r', x2.trans x, back (st3.step x4), ra.up x.f, ec', by rw [er, erest], by omega⟩
      · have ei : i = ds.length := by omega
        subst ei
        refine .inl ⟨it2 rfl, hys, fun l h1 h2 => ?_⟩
        rw [List.drop_eq_nil_of_le (Nat.le_refl _)] at ec
        cases ec
        rw [List.append_nil] at er
        subst er
        have x := x1.trans x2
        exact kq l ys Hf' (upd H' l (.lst ys)) (x.trans (Ext.tmp x.s h2)) (x.h.free h2) (x.s.free h2) zbe ra
    · rw [if_neg hz] at ef
      cases ef
theorem zc6 (k : Nat) (js : List Nat) (Nc : List Str) (hc : X.calm = true) (hi : DIe c X tg iter fi) (hg : ∀ cl C ex s₂ H₂, DG c (X.comp scope Nc cl C ex s₂ H₂) tg k g) (ht : ∀ cl C ex s₂ H₂, DTs c (X.comp scope Nc cl C ex s₂ H₂) ifs ft)
    (he : ∀ cl C ex s₂ H₂, DE c (X.comp scope Nc cl C ex s₂ H₂) elt fe) (ck : zhm scope X.env.scope.names X.N Nc k js = true := by rfl) (hs : ∀ x, foldedSetIterable iter X.env x = pure x := by intro _; rfl) (hj : js.Nodup := by decide) :
    DO c X (.ListComp elt [⟨tg, iter, ifs, 0⟩] scope pos) (zbj k js fi g ft fe) :=
  PE.imp (z25 (g := tDG (Gx c X) g) (tt := tDT (Gx c X) ft) (te := tD (Gx c X) fe) k js Nc hc hi (fun cl C ex s₂ H₂ => (hg cl C ex s₂ H₂).pg) ht he ck hs) fun σ H Q h =>
    zpf hj (hg [] 0 [] X.s₀ X.H₀).keep (hg [] 0 [] X.s₀ X.H₀).len h
end
section
variable {c : Str -> Addr} {X : Cx} {tg : Expr} {scope : Scope} {Nc : List Str} {cl : List (Str × Addr)} {C : Addr} {ex : List Addr} {s₂ : Shared} {H₂ : Hp}
theorem dvc (i : Nat) {x : Str} {pos : Pos} (hN : Nc[i]? = some x := by rfl) (hv : Vis scope x := by first | exact Or.inl rfl | exact Or.inr (Or.inl rfl) | exact Or.inr (Or.inr rfl)) (hd : (x == ("__debug__" : Str)) = false := by decide)
    (hcd : (x == ("__classdict__" : Str)) = false := by decide) : DE c (X.comp scope Nc cl C ex s₂ H₂) (.Name x pos) (zaa i) := zsy (pvc i hN hv hd hcd)
theorem zes (i : Nat) {x : Str} {pos : Pos} (hN : Nc[i]? = some x := by rfl) (hv : Vis scope x := by first | exact Or.inl rfl | exact Or.inr (Or.inl rfl) | exact Or.inr (Or.inr rfl)) (hd : (x == ("__debug__" : Str)) = false := by decide)
    (hcd : (x == ("__classdict__" : Str)) = false := by decide) : DC c (X.comp scope Nc cl C ex s₂ H₂) (.Name x pos) (zaf i) := zrh (pvc i hN hv hd hcd)
theorem dgc (i k : Nat) {x : Str} {pos : Pos} (hk : i < k := by decide) (hN : Nc.Nodup := by decide +kernel) (hi : Nc[i]? = some x := by rfl) (hl : scope.names.lookup x = some .local := by rfl) : DG c (X.comp scope Nc cl C ex s₂ H₂) (.Name x pos) k (zav i) :=
  zr4 (pgc i hN hi hl) hk
end
inductive Fl where
  | nx (ρ : List Sl)
  | bk (ρ : List Sl)
  | ct (ρ : List Sl)
  | rt (d : D)
  | rtO (ds : List D)
  | rtS (d : D) (ρ : List Sl)
  | rtT (o : O)
noncomputable def zj6 (G : Gc) (Hf0 H0 Hf : Hp) (E : ze4) : Fl -> Prop
  | .nx ρ' => ∀ σ' Hf' H', zan Hf Hf' -> zai G Hf0 H0 Hf' H' σ' ρ' -> E.nx σ' H'
  | .bk ρ' => ∀ σ' Hf' H', zan Hf Hf' -> zai G Hf0 H0 Hf' H' σ' ρ' -> E.bk σ' H'
  | .ct ρ' => ∀ σ' Hf' H', zan Hf Hf' -> zai G Hf0 H0 Hf' H' σ' ρ' -> E.ct σ' H'
  | .rt d => ∀ v Hf' H', Ext Hf0 H0 Hf' H' -> Rep G Hf' d v -> E.rt v H'
  | .rtO ds => ∀ l vs Hf' H', Ext Hf0 H0 Hf' H' -> H0 l = none -> Hf' l = none -> H' l = some (.lst vs) -> zae G Hf' ds vs -> E.rt (.ref l) H'
  | .rtS d ρ => ∀ v σ' Hf' H', zai G Hf0 H0 Hf' H' σ' ρ -> Rep G Hf' d v -> E.rt v H'
  | .rtT o => ∀ u fp Hf' H', Ext Hf0 H0 Hf' H' -> OT G Hf' H' o u fp -> fp.Nodup -> (∀ a ∈ fp, H0 a = none /\ Hf' a = none) -> E.rt u H'
noncomputable def tDS (G : Gc) (F : List Sl -> Option Fl) : TS := fun E σ H => ∃ Hf0 H0 Hf ρ o, zai G Hf0 H0 Hf H σ ρ /\ F ρ = some o /\ zj6 G Hf0 H0 Hf E o
noncomputable def DS (c : Str -> Addr) (X : Cx) (st : Stmt) (F : List Sl -> Option Fl) : Prop := PS X st (tDS (Gx c X) F)
noncomputable def DSs (c : Str -> Addr) (X : Cx) (st : List Stmt) (F : List Sl -> Option Fl) : Prop := PSs X st (tDS (Gx c X) F)
noncomputable def zbn (ρ : List Sl) : Option Fl := some (.nx ρ)
noncomputable def zal (F F' : List Sl -> Option Fl) (ρ : List Sl) : Option Fl := (F ρ).bind fun o => match o with
  | .nx ρ' => F' ρ'
  | o => some o
noncomputable def za9 (t : List Sl -> Option Bool) (F F' : List Sl -> Option Fl) (ρ : List Sl) : Option Fl := (t ρ).bind fun b => if b then F ρ else F' ρ
noncomputable def zbb (i : Nat) (f : List Sl -> Option D) (ρ : List Sl) : Option Fl := (f ρ).map fun d => .nx (ρ.set i (.im d))
noncomputable def zdw (i : Nat) (f : List Sl -> Option (List D)) (ρ : List Sl) : Option Fl := (f ρ).map fun d => .nx (ρ.set i (.own d))
noncomputable def za6 (f : List Sl -> Option D) (ρ : List Sl) : Option Fl := (f ρ).map .rt
noncomputable def zdr (f : List Sl -> Option (List D)) (ρ : List Sl) : Option Fl := (f ρ).map .rtO
noncomputable def zdj (i : Nat) (ρ : List Sl) : Option Fl := match ρ[i]? with
  | some (.im d) => some (.rt d)
  | some (.own xs) => some (.rtO xs)
  | _ => none
noncomputable def zev (g : D -> List Sl -> Option (List Sl)) (F : List Sl -> Option Fl) : List D -> List Sl -> Option Fl
  | [], ρ => some (.nx ρ)
  | d :: ds, ρ => (g d ρ).bind fun ρ1 => (F ρ1).bind fun o => match o with
    | .nx ρ2 => zev g F ds ρ2
    | .ct ρ2 => zev g F ds ρ2
    | .bk ρ2 => some (.nx ρ2)
    | .rt d => some (.rt d)
    | .rtO d => some (.rtO d)
    | .rtS d ρ2 => some (.rtS d ρ2)
    | .rtT o => some (.rtT o)
noncomputable def zcv (fi : List Sl -> Option (List D)) (g : D -> List Sl -> Option (List Sl)) (F : List Sl -> Option Fl) (ρ : List Sl) : Option Fl := (fi ρ).bind fun ds => zev g F ds ρ
noncomputable def zmh (i : Nat) (ρ : List Sl) : List Sl := match ρ[i]? with
  | some (.own xs) => ρ.set i (.im (.lst xs))
  | some (.ownd ks xs) => ρ.set i (.im (.dic ks xs))
  | some (.obj c ns xs) => ρ.set i (.im (.ins c ns xs))
  | _ => ρ
noncomputable def zhq (i : Nat) (F : List Sl -> Option Fl) (ρ : List Sl) : Option Fl := F (zmh i ρ)
noncomputable def zec (i : Nat) (f : List Sl -> Option D) (ρ : List Sl) : Option Fl := (f ρ).bind fun d => match ρ[i]? with
  | some (.own xs) => if xs.length < 16777216 then some (.nx (ρ.set i (.own (xs ++ [d])))) else none
  | _ => none
noncomputable def zjc (f : List Sl -> Option D) (ρ : List Sl) : Option (List D) := (f ρ).bind fun d => match d with
  | .lst xs => some xs
  | _ => none
noncomputable def zje (i : Nat) (f : List Sl -> Option (List D)) (ρ : List Sl) : Option Fl := (f ρ).bind fun ds => match ρ[i]? with
  | some (.own xs) => if xs.length + ds.length <= 16777216 then some (.nx (ρ.set i (.own (xs ++ ds)))) else none
  | _ => none
section
variable {c : Str -> Addr} {X : Cx} {st : Stmt} {sts a b : List Stmt} {e cd tg iter : Expr} {pos : Pos} {F F' : List Sl -> Option Fl}
theorem zbq : DSs c X [] zbn := PSs.imp zpz fun E σ H q_ => by
  obtain ⟨Hf0, H0, Hf, ρ, o, so, ef, k⟩ := q_
  exact (by cases ef; exact k σ Hf H (zan.refl _) so)
theorem zj6.up {G : Gc} {Hf0 H0 Hf Hf' : Hp} {E : ze4} {o : Fl} (h : zj6 G Hf0 H0 Hf E o) (s : zan Hf Hf') : zj6 G Hf0 H0 Hf' E o := by
  cases o with
  | nx ρ => exact fun σ' Hf2 H2 s2 q => h σ' Hf2 H2 (s.trans s2) q
  | bk ρ => exact fun σ' Hf2 H2 s2 q => h σ' Hf2 H2 (s.trans s2) q
  | ct ρ => exact fun σ' Hf2 H2 s2 q => h σ' Hf2 H2 (s.trans s2) q
  | rt d => exact h
  | rtO d => exact h
  | rtS d ρ => exact h
  | rtT o => exact h
theorem zaq (h1 : DS c X st F) (h2 : DSs c X sts F') : DSs c X (st :: sts) (zal F F') := PSs.imp (zq3 h1 h2) fun E σ H q_ => by
  obtain ⟨Hf0, H0, Hf, ρ, o, so, ef, k⟩ := q_
  unfold zal at ef
  cases e1 : F ρ with
  | none => rw [e1] at ef; cases ef
  | some o1 =>
    rw [e1] at ef
    refine ⟨Hf0, H0, Hf, ρ, o1, so, e1, ?_⟩
    cases o1 with
    | nx ρ1 => exact fun σ1 Hf1 H1 s1 so1 => ⟨Hf0, H0, Hf1, ρ1, o, so1, ef, k.up s1⟩
    | bk ρ1 => cases ef; exact k
    | ct ρ1 => cases ef; exact k
    | rt d => cases ef; exact k
    | rtO d => cases ef; exact k
    | rtS d ρ1 => cases ef; exact k
    | rtT o' => cases ef; exact k
theorem zao (h1 : DS c X st F) : DSs c X [st] F := zy3 h1
theorem zbo {t : List Sl -> Option Bool} (hc : DT c X cd t) (ha : DSs c X a F) (hb : DSs c X b F') : DS c X (.If cd a b pos) (za9 t F F') := PS.imp (zx7 hc ha hb) fun E σ H q_ => by
  obtain ⟨Hf0, H0, Hf, ρ, o, so, ef, k⟩ := q_
  unfold za9 at ef
  cases e1 : t ρ with
  | none => rw [e1] at ef; cases ef
  | some x =>
    rw [e1] at ef
    refine ⟨Hf0, H0, Hf, ρ, x, so, e1, fun Hf1 H1 x1 => ?_⟩
    cases x with
    | true => rw [if_pos rfl]; exact ⟨Hf0, H0, Hf1, ρ, o, so.step x1, ef, k.up x1.f⟩
    | false => rw [if_neg Bool.false_ne_true]; exact ⟨Hf0, H0, Hf1, ρ, o, so.step x1, ef, k.up x1.f⟩
theorem zrr {te : TE} {i : Nat} {f : List Sl -> Option D} (hp : PS X st (zf6 te (zfv i))) (hi : ∀ σ H Q, tD (Gx c X) f σ H Q -> te σ H Q) : DS c X st (zbb i f) := PS.imp hp fun E σ H q_ => by
  obtain ⟨Hf0, H0, Hf, ρ, o, so, ef, k⟩ := q_
  unfold zbb at ef
  cases e1 : f ρ with
  | none => rw [e1] at ef; cases ef
  | some d =>
    rw [e1] at ef
    cases ef
    exact hi _ _ _ ⟨Hf0, H0, Hf, ρ, d, so, e1, fun v Hf' H' x r => k _ Hf' H' x.f ((so.step x).setIm r)⟩
theorem zwx {te : TE} {i : Nat} {f : List Sl -> Option (List D)} (hp : PS X st (zf6 te (zfv i))) (hi : ∀ σ H Q, tDO (Gx c X) f σ H Q -> te σ H Q) : DS c X st (zdw i f) := PS.imp hp fun E σ H q_ => by
  obtain ⟨Hf0, H0, Hf, ρ, o, so, ef, k⟩ := q_
  unfold zdw at ef
  cases e1 : f ρ with
  | none => rw [e1] at ef; cases ef
  | some d =>
    rw [e1] at ef
    cases ef
    exact hi _ _ _ ⟨Hf0, H0, Hf, ρ, d, so, e1, fun l vs Hf' H' x hn hf hl r => k _ Hf' H' x.f (so.setOwn (s := .own d) rfl x hn hf ⟨vs, hl, r⟩)⟩
theorem zb4 (i : Nat) {x : Str} {f : List Sl -> Option D} {pos' : Pos} (hN : X.N.Nodup) (he : DE c X e f) (hi : X.N[i]? = some x := by rfl) (hx : Loc X.env.scope x := by first | exact Or.inl rfl | exact Or.inr rfl) (hs : swapsWith e (some (.Name x pos')) pos.line X.env = pure false := by rfl) (hf : X.fn x = true \/ X.env.scope.names.lookup x = some .local := by first | exact .inl rfl | exact .inr rfl) :
    DS c X (.Assign [.Name x pos'] e pos) (zbb i f) := zrr (zl3 hN hi hx he hs hf) fun _ _ _ h => h
theorem zhp (i : Nat) {x : Str} {f : List Sl -> Option (List D)} {pos' : Pos} (hN : X.N.Nodup) (he : DO c X e f) (hi : X.N[i]? = some x := by rfl) (hx : Loc X.env.scope x := by first | exact Or.inl rfl | exact Or.inr rfl) (hs : swapsWith e (some (.Name x pos')) pos.line X.env = pure false := by rfl) (hf : X.fn x = true \/ X.env.scope.names.lookup x = some .local := by first | exact .inl rfl | exact .inr rfl) :
    DS c X (.Assign [.Name x pos'] e pos) (zdw i f) := zwx (zl3 hN hi hx he hs hf) fun _ _ _ h => h
theorem zt9 {G : Gc} {f : List Sl -> Option (List D)} {σ : St} {H : Hp} {Q : VK} (h : tD G (zas f) σ H Q) : tDO G f σ H Q := by
  obtain ⟨Hf0, H0, Hf, ρ, d, st, ef, k⟩ := h
  unfold zas at ef
  cases ed : f ρ with
  | none => rw [ed] at ef; cases ef
  | some ds =>
    rw [ed] at ef
    have ef : D.lst ds = d := Option.some.inj ef
    subst ef
    exact ⟨Hf0, H0, Hf, ρ, ds, st, ed, fun l vs Hf' H' x hn hf hl r => k _ (upd Hf' l (.lst vs)) H' (x.fix hn hf hl) ⟨l, vs, rfl, zbe, r.up (zbk hf)⟩⟩
theorem zi8 (i : Nat) {x : Str} {pos' spos : Pos} {elt : Expr} {ifs : List Expr} {scope : Scope} {fi : List Sl -> Option (List D)} {g : D -> List Sl -> Option (List Sl)} {ft : List Sl -> Option Bool} {fe : List Sl -> Option D} (k : Nat) (js : List Nat) (Nc : List Str) (hN : X.N.Nodup) (hc : X.calm = true) (hi : DIe c X tg iter fi)
    (hg : ∀ cl C ex s₂ H₂, DG c (X.comp scope Nc cl C ex s₂ H₂) tg k g) (ht : ∀ cl C ex s₂ H₂, DTs c (X.comp scope Nc cl C ex s₂ H₂) ifs ft) (he : ∀ cl C ex s₂ H₂, DE c (X.comp scope Nc cl C ex s₂ H₂) elt fe)
    (hi' : X.N[i]? = some x := by rfl) (hx : Loc X.env.scope x := by first | exact Or.inl rfl | exact Or.inr rfl)
    (hsw : swapsWith (.ListComp elt [⟨tg, iter, ifs, 0⟩] scope pos) (some (.Name x pos')) spos.line X.env = pure true := by rfl)
    (ck : zhm scope X.env.scope.names X.N Nc k js = true := by rfl) (hs : ∀ x, foldedSetIterable iter X.env x = pure x := by intro _; rfl) (hj : js.Nodup := by decide)
    (hf : X.fn x = true \/ X.env.scope.names.lookup x = some .local := by first | exact .inl rfl | exact .inr rfl) :
    DS c X (.Assign [.Name x pos'] (.ListComp elt [⟨tg, iter, ifs, 0⟩] scope pos) spos) (zbb i (zas (zbj k js fi g ft fe))) :=
  zrr (z1l (g := tDG (Gx c X) g) (tt := tDT (Gx c X) ft) (te := tD (Gx c X) fe) k js Nc hN hi' hx hc hi (fun cl C ex s₂ H₂ => (hg cl C ex s₂ H₂).pg) ht he hsw ck hs hf) fun σ H Q h => zpf hj (hg [] 0 [] X.s₀ X.H₀).keep (hg [] 0 [] X.s₀ X.H₀).len (zt9 h)
theorem zbd {f : List Sl -> Option D} (he : DE c X e f) : DS c X (.Return (some e) pos) (za6 f) := PS.imp (zn5 he) fun E σ H q_ => by
  obtain ⟨Hf0, H0, Hf, ρ, o, so, ef, k⟩ := q_
  unfold za6 at ef
  cases e1 : f ρ with
  | none => rw [e1] at ef; cases ef
  | some d =>
    rw [e1] at ef
    cases ef
    exact ⟨Hf0, H0, Hf, ρ, d, so, e1, fun v Hf' H' x r => k v Hf' H' (so.ext.trans x) r⟩
theorem ze6 {f : List Sl -> Option (List D)} (he : DO c X e f) : DS c X (.Return (some e) pos) (zdr f) := PS.imp (zn5 he) fun E σ H q_ => by
  obtain ⟨Hf0, H0, Hf, ρ, o, so, ef, k⟩ := q_
  unfold zdr at ef
  cases e1 : f ρ with
  | none => rw [e1] at ef; cases ef
  | some d =>
    rw [e1] at ef
    cases ef
    exact ⟨Hf0, H0, Hf, ρ, d, so, e1, fun l vs Hf' H' x hn hf hl r => k l vs Hf' H' (so.ext.trans x) (so.ext.h.free hn) hf hl r⟩
theorem zv4 {i : Nat} (he : PE X e (zde i)) : DS c X (.Return (some e) pos) (zdj i) := PS.imp (zn5 he) fun E σ H q_ => by
  obtain ⟨Hf0, H0, Hf, ρ, o, so, ef, k⟩ := q_
  unfold zdj at ef
  cases es : ρ[i]? with
  | none => rw [es] at ef; cases ef
  | some s =>
    rw [es] at ef
    cases s with
    | im d =>
      cases ef
      obtain ⟨v, e1, r⟩ := so.imm es
      exact ⟨_, e1, k v Hf H so.ext r⟩
    | own xs =>
      cases ef
      obtain ⟨l, e1, h0, hf, vs, q, r⟩ := so.ownAt rfl es
      exact ⟨_, e1, k l vs Hf H so.ext h0 hf q r⟩
    | _ => cases ef
theorem zgl (i : Nat) {x : Str} {p : Pos} (hN : X.N[i]? = some x := by rfl) (hv : Vis X.env.scope x := by first | exact Or.inl rfl | exact Or.inr (Or.inl rfl) | exact Or.inr (Or.inr rfl)) (hd : (x == ("__debug__" : Str)) = false := by decide)
    (hcd : (x == ("__classdict__" : Str)) = false := by decide) : DS c X (.Return (some (.Name x p)) pos) (zdj i) := zv4 (zin hN hv hd hcd)
theorem zd1 {fi : List Sl -> Option (List D)} {g : D -> List Sl -> Option (List Sl)} {kk : Nat} (hp : PassesOwn (model X.prog X.w) X.A X.env X.xe) (hc : X.calm = true) (hi : DI c X tg iter fi) (hg : DG c X tg kk g) (hb : DSs c X a F) (hs : ∀ x, foldedSetIterable iter X.env x = pure x := by intro _; rfl) :
    DS c X (.For tg iter a [] pos) (zcv fi g F) := PS.imp (zwc hp hc hi hg.pg hb hs) fun E σ H q_ => by
  obtain ⟨Hf0, H0, Hf, ρ, o, so, ef, k⟩ := q_
  unfold zcv at ef
  cases e1 : fi ρ with
  | none => rw [e1] at ef; cases ef
  | some ds =>
    rw [e1] at ef
    replace ef : zev g F ds ρ = some o := ef
    refine ⟨Hf0, H0, Hf, ρ, ds, so, e1, fun J Hf1 H1 x1 it => ?_⟩
    refine ⟨fun i m σ' H' => m = ds.length - i /\ i <= ds.length /\ ∃ Hf' ρ', zai (Gx c X) Hf0 H0 Hf' H' σ' ρ' /\ zan Hf1 Hf' /\ zev g F (ds.drop i) ρ' = some o, ⟨ds.length, rfl, Nat.zero_le _, Hf1, ρ, so.step x1, zan.refl _, ef⟩, ?_⟩
    rintro i m σ' H' ⟨rfl, hi', Hf', ρ', so', s1, em⟩
    obtain ⟨it1, it2⟩ := it Hf' H' s1 so'.sub i
    by_cases hlt : i < ds.length
    · obtain ⟨d, ed, edr⟩ := zpj hlt
      obtain ⟨go, yl⟩ := it1 d ed
      rw [edr] at em
      unfold zev at em
      refine .inr ⟨go, fun σ2 H2 => ds.length - (i + 1) = ds.length - (i + 1) /\ i + 1 <= ds.length /\ ∃ Hf' ρ', zai (Gx c X) Hf0 H0 Hf' H2 σ2 ρ' /\ zan Hf1 Hf' /\ zev g F (ds.drop (i + 1)) ρ' = some o, fun σ2 H2 w => ⟨ds.length - (i + 1), by omega, w⟩, fun x H2 y => ?_⟩
      obtain ⟨Hf2, x2, rx⟩ := yl x H2 y
      cases eg : g d ρ' with
      | none => rw [eg] at em; cases em
      | some ρ1 =>
        rw [eg] at em
        replace em : (F ρ1).bind _ = _ := em
        cases eF : F ρ1 with
        | none => rw [eF] at em; cases em
        | some o1 =>
          rw [eF] at em
          refine ⟨Hf0, H0, Hf2, ρ', d, ρ1, so'.step x2, rx, eg, fun σ3 so3 => ⟨Hf0, H0, Hf2, ρ1, o1, so3, eF, ?_⟩⟩
          have sf := s1.trans x2.f
          cases o1 with
          | nx ρ2 => exact fun σ4 Hf4 H4 s4 so4 => ⟨rfl, hlt, Hf4, ρ2, so4, sf.trans s4, em⟩
          | ct ρ2 => exact fun σ4 Hf4 H4 s4 so4 => ⟨rfl, hlt, Hf4, ρ2, so4, sf.trans s4, em⟩
          | bk ρ2 => cases em; exact fun σ4 Hf4 H4 s4 so4 => k σ4 Hf4 H4 ((x1.f.trans sf).trans s4) so4
          | rt d => cases em; exact k
          | rtO d => cases em; exact k
          | rtS d ρ2 => cases em; exact k
          | rtT o' => cases em; exact k
    · have ei : i = ds.length := by omega
      subst ei
      rw [List.drop_eq_nil_of_le (Nat.le_refl _)] at em
      cases em
      exact .inl ⟨it2 rfl, k σ' Hf' H' (x1.f.trans s1) so'⟩
theorem zyk {G : Gc} {i : Nat} {E : ze4} {σ : St} {H : Hp} (h : tDS G (zhq i F) E σ H) : tDS G F E σ H := by
  obtain ⟨Hf0, H0, Hf, ρ, o, so, ef, k⟩ := h
  unfold zhq zmh at ef
  split at ef
  · rename_i xs es
    obtain ⟨l, e1, h0, hf, vs, q, r⟩ := so.ownAt rfl es
    exact ⟨Hf0, H0, _, _, o, so.fixd (d := .lst xs) rfl es e1 q ⟨l, vs, rfl, zbe, r.up (zbk hf)⟩, ef, k.up (zbk hf)⟩
  · rename_i ks xs es
    obtain ⟨l, e1, h0, hf, vs, q, z, r⟩ := so.ownAt rfl es
    exact ⟨Hf0, H0, _, _, o, so.fixd (d := .dic ks xs) rfl es e1 q ⟨l, vs, rfl, zbe, z, r.up (zbk hf)⟩, ef, k.up (zbk hf)⟩
  · rename_i c' ns xs es
    obtain ⟨l, e1, h0, hf, dx, vs, q, z, r⟩ := so.ownAt rfl es
    exact ⟨Hf0, H0, _, _, o, so.fixd (d := .ins c' ns xs) rfl es e1 q ⟨l, dx, vs, rfl, zbe, z, r.up (zbk hf)⟩, ef, k.up (zbk hf)⟩
  · exact ⟨Hf0, H0, Hf, ρ, o, so, ef, k⟩
theorem zq7 (i : Nat) (h : DS c X st F) : DS c X st (zhq i F) := PS.imp h fun _ _ _ => zyk
theorem zhx {i : Nat} {f : List Sl -> Option D} (h : PS X st (zlr (tBM X.K "list" zqg (zde i) (znf (tD (Gx c X) f) zmk)))) : DS c X st (zec i f) := PS.imp h fun E σ H q_ => by
  obtain ⟨Hf0, H0, Hf, ρ, o, so, ef, k⟩ := q_
  unfold zec at ef
  cases e1 : f ρ with
  | none => rw [e1] at ef; cases ef
  | some d =>
    rw [e1] at ef
    replace ef : (match ρ[i]? with | some (.own xs) => if xs.length < 16777216 then some (Fl.nx (ρ.set i (.own (xs ++ [d])))) else none | _ => none) = some o := ef
    split at ef
    · rename_i xs es
      split at ef
      · rename_i hl
        cases ef
        obtain ⟨l, e2, h0, hf, vs, q, r⟩ := so.ownAt rfl es
        refine ⟨_, e2, .inl ⟨rfl, _, SqL.of q⟩, Hf0, H0, Hf, ρ, d, so, e1, fun v Hf' H' x r' => ?_⟩
        have so' := so.step x
        have q' := x.h _ _ q
        refine ⟨l, vs, v, rfl, rfl, q', by rw [sizeLine_eq, <- r.length]; exact hl, k σ Hf' _ x.f (so'.mutd (s := .own xs) (s' := .own (xs ++ [d])) rfl rfl es e2 ⟨vs ++ [v], zbe, (r.up x.f).append (.cons r' .nil)⟩)⟩
      · cases ef
    · cases ef
theorem zwq {i : Nat} {f : List Sl -> Option D} (h : PS X st (zlr (tBM X.K "list" zp4 (zde i) (znf (tD (Gx c X) f) zmk)))) : DS c X st (zje i (zjc f)) := PS.imp h fun E σ H q_ => by
  obtain ⟨Hf0, H0, Hf, ρ, o, so, ef, k⟩ := q_
  unfold zje zjc at ef
  cases e1 : f ρ with
  | none => rw [e1] at ef; cases ef
  | some d =>
    rw [e1] at ef
    cases d with
    | lst ds =>
      replace ef : (match ρ[i]? with | some (.own xs) => if xs.length + ds.length <= 16777216 then some (Fl.nx (ρ.set i (.own (xs ++ ds)))) else none | _ => none) = some o := ef
      split at ef
      · rename_i xs es
        split at ef
        · rename_i hl
          cases ef
          obtain ⟨l, e2, h0, hf, vs, q, r⟩ := so.ownAt rfl es
          refine ⟨_, e2, .inl ⟨rfl, _, SqL.of q⟩, Hf0, H0, Hf, ρ, .lst ds, so, e1, fun v Hf' H' x r' => ?_⟩
          obtain ⟨a, us, ea, qa, ra⟩ := r'
          subst ea
          have so' := so.step x
          have q' := x.h _ _ q
          refine ⟨l, a, vs, us, rfl, rfl, q', x.s _ _ qa, by rw [sizeLine_eq, <- r.length, <- ra.length]; exact hl, k σ Hf' _ x.f (so'.mutd (s := .own xs) (s' := .own (xs ++ ds)) rfl rfl es e2 ⟨vs ++ us, zbe, (r.up x.f).append ra⟩)⟩
        · cases ef
      · cases ef
    | _ => cases ef
end
noncomputable def zm1 : Fl -> Option D
  | .rt d => some d
  | .rtO ds => some (.lst ds)
  | .rtS d _ => some d
  | .nx _ => some .non
  | _ => none
noncomputable def zd3 (n : Nat) (ds : List D) : List Sl := ds.map .im ++ List.replicate (n - ds.length) .no
noncomputable def zbf (n : Nat) (F : List Sl -> Option Fl) (ds : List D) : Option D := (F (zd3 n ds)).bind zm1
noncomputable def ziq (n : Nat) (F : List Sl -> Option Fl) (ds : List D) : Option (List D) := (F (zd3 n ds)).bind fun o => match o with
  | .rtO ds => some ds
  | _ => none
noncomputable def spD (G : Gc) (n : Nat) (m : List D -> Option D) : Sp := fun vs H Q _ => ∃ Hf ds d, zan Hf H /\ zae G Hf ds vs /\ ds.length = n /\ m ds = some d /\ ∀ v Hf' H', Ext Hf H Hf' H' -> Rep G Hf' d v -> Q v H'
noncomputable def spO (G : Gc) (n : Nat) (m : List D -> Option (List D)) : Sp := fun vs H Q _ => ∃ Hf ds rs, zan Hf H /\ zae G Hf ds vs /\ ds.length = n /\ m ds = some rs /\
  ∀ l us Hf' H', Ext Hf H Hf' H' -> H l = none -> Hf' l = none -> H' l = some (.lst us) -> zae G Hf' rs us -> Q (.ref l) H'
theorem zai.start {G : Gc} {Hf H : Hp} {N : List Str} {ds : List D} {vs : List V} (s0 : zan Hf H) (r : zae G Hf ds vs) : zai G Hf H Hf H (start N vs) (zd3 N.length ds) := by
  have hl := r.length
  have im : ∀ (i : Nat) (s : Sl), (zd3 N.length ds)[i]? = some s -> s = .no \/ ∃ d, ds[i]? = some d /\ s = .im d := fun i s b => by
    unfold zd3 at b
    by_cases hi : i < ds.length
    · rw [List.getElem?_append_left (by simpa using hi)] at b
      obtain ⟨d, ed, es⟩ := zig b
      exact .inr ⟨d, ed, es⟩
    · rw [List.getElem?_append_right (by simpa using Nat.le_of_not_lt hi)] at b
      obtain ⟨_, e⟩ := List.getElem?_eq_some_iff.mp b
      rw [List.getElem_replicate] at e
      exact .inl e.symm
  refine ⟨Ext.refl s0, by simp [L2.start, zd3, hl], fun i v s a b => ?_, fun i j s t v w l a b c d p q => ?_⟩
  · rcases im i s b with e | ⟨d, ed, es⟩
    · subst e; trivial
    · subst es
      obtain ⟨u, eu, ru⟩ := r.get ed
      refine ⟨u, ?_, ru⟩
      have hi : i < vs.length := (List.getElem?_eq_some_iff.mp eu).1
      unfold L2.start at a
      rw [List.getElem?_append_left (by simpa using hi), List.getElem?_map, eu] at a
      exact (Option.some.inj a).symm
  · rcases im i s a with e | ⟨d, ed, es⟩
    · subst e; exact (p.calm rfl).elim
    · subst es; exact (p.calm rfl).elim
section
variable {P : Program} {w : World} {K : PySem.W.Frag} {mg : Str -> Option Value} {base : Heap} {c : Str -> Addr}
theorem zbv {x qual : Str} {st : Stmt} {f : Addr} {fd : FuncData} {N ps : List Str} {k : Nat} {F : List Sl -> Option Fl} (Fn : Fun K x qual st f fd) (S : za7 N ps (zak st))
    (h : ∀ (cdv : Value) (A : Around) (outer : List Env) (s : Shared) (H : Hp) (E : XK), zbm k (A.deeper (envOfC qual (zak st) s.heap.objs.size f cdv)) -> DSs c (ze8 CX0 P w K mg base N qual (zak st) f cdv A outer s H E).nox (za4 st) F) :
    zau P w K mg base CX0 (k + 1) f fd ps (spD ⟨K, c⟩ ps.length (zbf N.length F)) := by
  refine Fn.ok S (fun vs H Q E ⟨Hf, ds, d, s0, r, hl, _⟩ => by rw [<- r.length]; exact hl) fun cdv A outer s H vs Q E hr ⟨Hf, ds, d, s0, r, hl, e, kq⟩ => ⟨_, h cdv A outer s H E hr, ?_⟩
  unfold zbf at e
  cases eF : F (zd3 N.length ds) with
  | none => rw [eF] at e; cases e
  | some o =>
    rw [eF] at e
    replace e : zm1 o = some d := e
    refine ⟨Hf, H, Hf, _, o, zai.start s0 r, eF, ?_⟩
    cases o with
    | nx ρ => cases e; exact fun σ' Hf' H' _ so => kq _ Hf' H' so.ext rfl
    | bk ρ => cases e
    | ct ρ => cases e
    | rt d => cases e; exact kq
    | rtO rs => cases e; exact fun l vs Hf' H' x hn hf hl r => kq _ (upd Hf' l (.lst vs)) H' (x.fix hn hf hl) ⟨l, vs, rfl, zbe, r.up (zbk hf)⟩
    | rtS d ρ => cases e; exact fun v σ' Hf' H' so r => kq v Hf' H' so.ext r
    | rtT o => cases e
theorem z2a {x qual : Str} {st : Stmt} {f : Addr} {fd : FuncData} {N ps : List Str} {k : Nat} {F : List Sl -> Option Fl} (Fn : Fun K x qual st f fd) (S : za7 N ps (zak st))
    (h : ∀ (cdv : Value) (A : Around) (outer : List Env) (s : Shared) (H : Hp) (E : XK), zbm k (A.deeper (envOfC qual (zak st) s.heap.objs.size f cdv)) -> DSs c (ze8 CX0 P w K mg base N qual (zak st) f cdv A outer s H E).nox (za4 st) F) :
    zau P w K mg base CX0 (k + 1) f fd ps (spO ⟨K, c⟩ ps.length (ziq N.length F)) := by
  refine Fn.ok S (fun vs H Q E ⟨Hf, ds, d, s0, r, hl, _⟩ => by rw [<- r.length]; exact hl) fun cdv A outer s H vs Q E hr ⟨Hf, ds, rs, s0, r, hl, e, kq⟩ => ⟨_, h cdv A outer s H E hr, ?_⟩
  unfold ziq at e
  cases eF : F (zd3 N.length ds) with
  | none => rw [eF] at e; cases e
  | some o =>
    rw [eF] at e
    refine ⟨Hf, H, Hf, _, o, zai.start s0 r, eF, ?_⟩
    cases o with
    | rtO rs' => cases e; exact kq
    | _ => cases e
end
section
variable {c : Str -> Addr} {X : Cx} {k : Nat} {f C : Addr} {fd : FuncData} {ps : List Str} {x : Str} {p pos apos : Pos} {e o : Expr} {es : List Expr} {fa : List Sl -> Option (List D)}
theorem zbp {m : List D -> Option D} (F : zau X.prog X.w X.K X.mg X.base CX0 k f fd ps (spD (Gx c X) ps.length m)) (hr : zbm k X.A) (hg : Gl X x) (hm : X.mg x = some (.ref f)) (hk : PySem.W.keepIn X.K (.ref f) = true) (hb : za2 X.K fd ps []) (ha : DA c X (e :: es) fa)
    (hl : (e :: es).length = ps.length := by rfl) (hdb : (x == ("__debug__" : Str)) = false := by decide) (he : starEach (e :: es) X.env = (false, eval e X.env) :: starEach es X.env := by rfl) (hpl : (backTo pos (starEach es X.env)).any (·.1) = false := by rfl) :
    DE c X (.Call (.Name x p) (e :: es) [] pos) (zat m fa) := PE.imp (zpw F hr hg hm hk hb .nil zkp ha.pa hdb he hpl) fun σ H Q q_ => by
  obtain ⟨Hf0, H0, Hf, ρ, d, st, ef, kq⟩ := q_
  obtain ⟨ds, e1, e2⟩ := zpu ef
  refine ⟨Hf0, H0, Hf, ρ, ds, st, e1, fun vs Hf' H' x r => ?_⟩
  dsimp only
  rw [List.append_nil]
  exact ⟨Hf', ds, d, x.s, r, (ha.len ρ ds e1).trans hl, e2, fun v Hf2 H2 x2 r2 => kq v Hf2 H2 (x.trans x2) r2⟩
noncomputable def zjn (m : List D -> Option (List D)) (f : List Sl -> Option (List D)) (ρ : List Sl) : Option (List D) := (f ρ).bind m
theorem zxg {m : List D -> Option (List D)} (F : zau X.prog X.w X.K X.mg X.base CX0 k f fd ps (spO (Gx c X) ps.length m)) (hr : zbm k X.A) (hg : Gl X x) (hm : X.mg x = some (.ref f)) (hk : PySem.W.keepIn X.K (.ref f) = true) (hb : za2 X.K fd ps []) (ha : DA c X (e :: es) fa)
    (hl : (e :: es).length = ps.length := by rfl) (hdb : (x == ("__debug__" : Str)) = false := by decide) (he : starEach (e :: es) X.env = (false, eval e X.env) :: starEach es X.env := by rfl) (hpl : (backTo pos (starEach es X.env)).any (·.1) = false := by rfl) :
    DO c X (.Call (.Name x p) (e :: es) [] pos) (zjn m fa) := PE.imp (zpw F hr hg hm hk hb .nil zkp ha.pa hdb he hpl) fun σ H Q q_ => by
  obtain ⟨Hf0, H0, Hf, ρ, rs, st, ef, kq⟩ := q_
  unfold zjn at ef
  cases e1 : fa ρ with
  | none => rw [e1] at ef; cases ef
  | some ds =>
    rw [e1] at ef
    refine ⟨Hf0, H0, Hf, ρ, ds, st, e1, fun vs Hf' H' x r => ?_⟩
    dsimp only
    rw [List.append_nil]
    exact ⟨Hf', ds, rs, x.s, r, (ha.len ρ ds e1).trans hl, ef, fun l us Hf2 H2 x2 hn hf hl' r2 => kq l us Hf2 H2 (x.trans x2) (x.h.free hn) hf hl' r2⟩
noncomputable def zol (m : List D -> Option D) (f : List Sl -> Option (List D)) (ρ : List Sl) : Option D := (f ρ).bind fun ds => (m ds).bind fun d => if d.scalar then some d else none
end
end L2
namespace L2
open PySem PySem.Spec PyProof.Rows
theorem zo1 {G : Gc} {H : Hp} {f : Str} {d : D} : ∀ {ns : List Str} {ds : List D} {vs : List V}, (ns.zip ds).lookup f = some d -> zae G H ds vs -> ∃ v, (ns.zip vs).lookup f = some v /\ Rep G H d v
  | [], _, _, e, _ => by simp at e
  | n :: ns, [], _, e, _ => by simp at e
  | n :: ns, x :: ds, _, e, ⟨v, r, ev, h1, h2⟩ => by
    subst ev
    rw [List.zip_cons_cons, List.lookup_cons] at e
    rw [List.zip_cons_cons, List.lookup_cons]
    cases hf : f == n with
    | true => rw [hf] at e; cases e; exact ⟨v, rfl, h1⟩
    | false => rw [hf] at e; exact zo1 e h2
theorem zrg {f : Str} : ∀ {ns : List Str} {vs : List V}, ns.contains f = false -> (ns.zip vs).lookup f = none
  | [], _, _ => by simp
  | n :: ns, [], _ => by simp
  | n :: ns, v :: vs, h => by
    rw [List.contains_cons, Bool.or_eq_false_iff] at h
    rw [List.zip_cons_cons, List.lookup_cons, h.1]
    exact zrg h.2
noncomputable def zqf (cn f : Str) : D -> Option D
  | .ins c' ns ds => if c' = cn then (ns.zip ds).lookup f else none
  | _ => none
noncomputable def zcq (cn f : Str) (m : List Sl -> Option D) (ρ : List Sl) : Option D := (m ρ).bind (zqf cn f)
noncomputable def zce (cn f : Str) (m : List D -> Option D) (fo : List Sl -> Option D) (fa : List Sl -> Option (List D)) (ρ : List Sl) : Option D := (fo ρ).bind fun d => match d with
  | .ins c' ns ds => if c' = cn /\ ns.contains f = false then (fa ρ).bind fun as => m (.ins c' ns ds :: as) else none
  | _ => none
section
variable {c : Str -> Addr} {X : Cx} {k : Nat} {f C : Addr} {fd : FuncData} {ps : List Str} {x fl cn : Str} {p pos apos : Pos} {e o : Expr} {es : List Expr} {fo : List Sl -> Option D} {fa : List Sl -> Option (List D)}
theorem zc0 (cn : Str) (hc : Cls X.K (c cn)) (hn : zcj X.K (c cn) fl) (ho : DE c X o fo) (hb : attributeBase o fl X.env (eval o X.env) = eval o X.env := by rfl) : DE c X (.Attribute o fl pos) (zcq cn fl fo) :=
  PE.imp (z2n ho hb) fun σ H Q q_ => by
    obtain ⟨Hf0, H0, Hf, ρ, d, st, ef, k⟩ := q_
    unfold zcq at ef
    cases e1 : fo ρ with
    | none => rw [e1] at ef; cases ef
    | some y =>
      rw [e1] at ef
      replace ef : zqf cn fl y = some d := ef
      cases y with
      | ins c' ns ds =>
        replace ef : (if c' = cn then (ns.zip ds).lookup fl else none) = some d := ef
        split at ef
        · rename_i hcc
          subst hcc
          refine ⟨Hf0, H0, Hf, ρ, _, st, e1, fun v Hf' H' x r => ?_⟩
          obtain ⟨a, dx, vs, ev, q, hl, rs⟩ := r
          obtain ⟨u, eu, ru⟩ := zo1 ef rs
          exact ⟨a, c c', dx, ns.zip vs, u, ev, x.s _ _ q, hc, hn, eu, k u Hf' H' x ru⟩
        · cases ef
      | _ => cases ef
theorem zfu {m : List D -> Option D} {pl : Sem Bool} (cn : Str) (ho : DE c X o fo) (hc : Cls X.K (c cn)) (hm : zcm X.K (c cn) fl f) (F : zau X.prog X.w X.K X.mg X.base CX0 k f fd ps (spD (Gx c X) ps.length m)) (hr : zbm k X.A) (hb : za2 X.K fd ps []) (ha : DA c X (e :: es) fa)
    (hl : (e :: es).length + 1 = ps.length := by rfl)
    (hst : starEach (e :: es) X.env = (false, eval e X.env) :: starEach es X.env := by rfl) (hpl : (backTo pos (starEach es X.env)).any (·.1) = false := by rfl)
    (ht : eval (.Call (.Attribute o fl apos) (e :: es) [] pos) X.env = (do
      let ov <- eval o X.env
      standAt apos.atName
      let (f, first) <- holding [ov] (getMethod ov fl pl)
      callWith pos f first (backTo pos (starEach (e :: es) X.env)) (backToKw pos (keywordEach [] X.env))) := by rfl) :
    DE c X (.Call (.Attribute o fl apos) (e :: es) [] pos) (zce cn fl m fo fa) := PE.imp (zzv ho hc hm F hr hb .nil zkp ha.pa hst hpl ht) fun σ H Q q_ => by
  obtain ⟨Hf0, H0, Hf, ρ, d, st, ef, kq⟩ := q_
  unfold zce at ef
  cases e1 : fo ρ with
  | none => rw [e1] at ef; cases ef
  | some y =>
    rw [e1] at ef
    cases y with
    | ins c' ns ds =>
      replace ef : (if c' = cn /\ ns.contains fl = false then (fa ρ).bind fun as => m (.ins c' ns ds :: as) else none) = some d := ef
      split at ef
      · rename_i hcc
        obtain ⟨rfl, hno⟩ := hcc
        cases e2 : fa ρ with
        | none => rw [e2] at ef; cases ef
        | some as =>
          rw [e2] at ef
          replace ef : m (.ins c' ns ds :: as) = some d := ef
          refine ⟨Hf0, H0, Hf, ρ, _, st, e1, fun v Hf' H' x r => ?_⟩
          obtain ⟨a, dx, vs, ev, q, hlen, rs⟩ := id r
          refine ⟨a, dx, ns.zip vs, ev, x.s _ _ q, zrg hno, Hf0, H0, Hf', ρ, as, st.step x, e2, fun ws Hf2 H2 x2 r2 => ?_⟩
          dsimp only
          rw [List.append_nil]
          exact ⟨Hf2, .ins c' ns ds :: as, d, x2.s, .cons (r.up x2.f) r2, by rw [List.length_cons, ha.len ρ as e2]; exact hl, ef, fun u Hf3 H3 x3 r3 => kq u Hf3 H3 ((x.trans x2).trans x3) r3⟩
      · cases ef
    | _ => cases ef
end
noncomputable def zjf : List (Str × (List Sl -> Option D)) -> List Sl -> List Str -> List D -> Option (List Str × List D)
  | [], _, ns, ds => some (ns, ds)
  | (f, m) :: r, ρ, ns, ds => (m ρ).bind fun d => if ns.contains f then none else zjf r ρ (ns ++ [f]) (ds ++ [d])
noncomputable def z2g (G : Gc) (cn : Str) (fs : List (Str × (List Sl -> Option D))) : TS := fun E σ H => ∃ x dx Hf0 H0 Hf ρ ns us ds r, σ[0]? = some (some (.ref x)) /\ (∀ s ∈ ρ, Sl.calm s = true) /\ zai G Hf0 H0 Hf H σ ρ /\ H0 x = none /\ Hf x = none /\
  H x = some (.ins (G.cl cn) dx (ns.zip us)) /\ ns.length = us.length /\ ns.length + fs.length <= 900 /\ zae G Hf ds us /\ zjf fs ρ ns ds = some r /\
  ∀ us' Hf' H', Ext Hf0 H0 Hf' H' -> Hf' x = none -> H' x = some (.ins (G.cl cn) dx (r.1.zip us')) -> r.1.length = us'.length -> zae G Hf' r.2 us' -> E.nx σ H'
noncomputable def DSI (c : Str -> Addr) (X : Cx) (cn : Str) (sts : List Stmt) (fs : List (Str × (List Sl -> Option D))) : Prop := PSs X sts (z2g (Gx c X) cn fs)
theorem zji {f : Str} {v : V} : ∀ {ns : List Str} {us : List V}, ns.length = us.length -> ns.contains f = false -> zco f v (ns.zip us) = (ns ++ [f]).zip (us ++ [v])
  | [], [], _, _ => rfl
  | n :: ns, u :: us, hl, h => by
    rw [List.contains_cons, Bool.or_eq_false_iff] at h
    have h1 : ¬ (n = f) := fun z => by rw [z, beq_self_eq_true] at h; cases h.1
    rw [List.zip_cons_cons]
    unfold zco
    first
      | (rw [if_neg h1, zji (by simpa using hl) h.2]; rfl)
      | (rw [if_neg (fun z => h1 (Eq.symm z)), zji (by simpa using hl) h.2]; rfl)
      | (rw [if_neg (by simpa using h1), zji (by simpa using hl) h.2]; rfl)
      | (rw [if_neg (by simpa using fun z => h1 (Eq.symm z)), zji (by simpa using hl) h.2]; rfl)
  | [], _ :: _, hl, _ => by cases hl
  | _ :: _, [], hl, _ => by cases hl
section
variable {c : Str -> Addr} {X : Cx} {cn fl : Str} {e o : Expr} {sts : List Stmt} {pos pos' : Pos} {m : List Sl -> Option D} {fs : List (Str × (List Sl -> Option D))}
theorem zjz : DSI c X cn [] [] := PSs.imp zpz fun E σ H q => by
  obtain ⟨x, dx, Hf0, H0, Hf, ρ, ns, us, ds, r, e0, no, so, h0, hf, hx, hl, hz, rd, em, k⟩ := q
  cases em
  exact k us Hf H so.ext hf hx hl rd
theorem zh4 (hc : Cls X.K (c cn)) (hn : zcj X.K (c cn) fl) (ho : PE X o (zde 0)) (he : DE c X e m) (h : DSI c X cn sts fs) (hs : swapsWith e (some (.Attribute o fl pos')) pos.line X.env = pure false := by rfl) :
    DSI c X cn (.Assign [.Attribute o fl pos'] e pos :: sts) ((fl, m) :: fs) := PSs.imp (zq3 (zub ho he hs) h) fun E σ H q => by
  obtain ⟨x, dx, Hf0, H0, Hf, ρ, ns, us, ds, r, e0, no, so, h0, hf, hx, hl, hz, rd, em, k⟩ := q
  unfold zjf at em
  cases e1 : m ρ with
  | none => rw [e1] at em; cases em
  | some d =>
    rw [e1] at em
    replace em : (if ns.contains fl = true then none else zjf fs ρ (ns ++ [fl]) (ds ++ [d])) = some r := em
    split at em
    · cases em
    · rename_i hnc
      have hnc : ns.contains fl = false := by simpa using hnc
      refine ⟨Hf0, H0, Hf, ρ, d, so, e1, fun v Hf' H' xx rv => ⟨_, e0, x, c cn, dx, ns.zip us, rfl, xx.h _ _ hx, hc, hn, ?_, ?_⟩⟩
      · have h1 := List.length_zip (l₁ := ns) (l₂ := us)
        rw [List.length_cons] at hz
        omega
      · have hf' : Hf' x = none := by rw [xx.n _ _ hx rfl]; exact hf
        have so' := so.step xx
        have so2 : zai (Gx c X) Hf0 H0 Hf' (upd H' x (.ins (c cn) dx (zco fl v (ns.zip us)))) σ ρ := by
          refine so'.re ⟨so'.ext.f, fun b u e => ?_, fun b u e => ?_, so'.ext.n⟩ rfl (fun i w s a b => ?_) fun i s w a b _ p => (p.calm (no s (List.mem_of_getElem? b))).elim
          · rw [zar (zci e h0)]; exact so'.ext.h b u e
          · rw [zar (zci e hf')]; exact so'.ext.s b u e
          · have hs := no s (List.mem_of_getElem? b)
            have q := so'.at' i w s a b
            cases s with
            | no => trivial
            | im d => exact q
            | _ => cases hs
        refine ⟨x, dx, Hf0, H0, Hf', ρ, ns ++ [fl], us ++ [v], ds ++ [d], r, e0, no, so2, h0, hf', ?_, by rw [List.length_append, List.length_append, hl]; rfl, by rw [List.length_cons] at hz; rw [List.length_append, List.length_singleton]; omega, (rd.up xx.f).append (.cons rv .nil), em, k⟩
        rw [zbe, zji hl hnc]
end
noncomputable def del (H : Hp) (x : Addr) : Hp := fun b => if b = x then none else H b
theorem zo9 {H : Hp} {x : Addr} : del H x x = none := if_pos rfl
theorem zqe {H : Hp} {x b : Addr} (h : b ≠ x) : del H x b = H b := if_neg h
noncomputable def zjg (n : Nat) (fs : List (Str × (List Sl -> Option D))) (as : List D) : Option (List Str × List D) := zjf fs (.no :: (as.map .im ++ List.replicate (n - 1 - as.length) .no)) [] []
noncomputable def spI (G : Gc) (cn : Str) (n : Nat) (m : List D -> Option (List Str × List D)) : Sp := fun vs H Q _ => ∃ x dx Hf as vs' r, vs = .ref x :: vs' /\ H x = some (.ins (G.cl cn) dx []) /\ Hf x = none /\ zan Hf H /\ zae G Hf as vs' /\ as.length + 1 = n /\ m as = some r /\
  ∀ us Hf' H', Ext Hf (del H x) Hf' H' -> Hf' x = none -> H' x = some (.ins (G.cl cn) dx (r.1.zip us)) -> r.1.length = us.length -> zae G Hf' r.2 us -> Q .non H'
section
variable {P : Program} {w : World} {K : PySem.W.Frag} {mg : Str -> Option Value} {base : Heap} {c : Str -> Addr}
theorem zk6 {x qual cn : Str} {st : Stmt} {f : Addr} {fd : FuncData} {N ps : List Str} {k : Nat} {fs : List (Str × (List Sl -> Option D))} (Fn : Fun K x qual st f fd) (S : za7 N ps (zak st))
    (h : ∀ (cdv : Value) (A : Around) (outer : List Env) (s : Shared) (H : Hp) (E : XK), zbm k (A.deeper (envOfC qual (zak st) s.heap.objs.size f cdv)) -> DSI c (ze8 CX0 P w K mg base N qual (zak st) f cdv A outer s H E).nox cn (za4 st) fs)
    (hz : fs.length <= 900 := by decide) : zau P w K mg base CX0 (k + 1) f fd ps (spI ⟨K, c⟩ cn ps.length (zjg N.length fs)) := by
  refine Fn.ok S (fun vs H Q E q => by obtain ⟨x, dx, Hf, as, vs', r, ev, _, _, _, ra, hl, _⟩ := q; subst ev; rw [List.length_cons, <- ra.length]; exact hl) fun cdv A outer s H vs Q E hr q => ⟨_, h cdv A outer s H E hr, ?_⟩
  obtain ⟨x, dx, Hf, as, vs', r, ev, hx, hf, s0, ra, hl, e, kq⟩ := q
  subst ev
  have la := ra.length
  have im : ∀ (i : Nat) (s : Sl), (Sl.no :: (as.map Sl.im ++ List.replicate (N.length - 1 - as.length) .no))[i]? = some s -> s = .no \/ ∃ d j, i = j + 1 /\ as[j]? = some d /\ s = .im d := fun i s b => by
    cases i with
    | zero => left; simpa using b.symm
    | succ i =>
      rw [List.getElem?_cons_succ] at b
      by_cases hi : i < as.length
      · rw [List.getElem?_append_left (by simpa using hi)] at b
        obtain ⟨d, ed, es⟩ := zig b
        exact .inr ⟨d, i, rfl, ed, es⟩
      · rw [List.getElem?_append_right (by simpa using Nat.le_of_not_lt hi)] at b
        obtain ⟨_, e⟩ := List.getElem?_eq_some_iff.mp b
        rw [List.getElem_replicate] at e
        exact .inl e.symm
  have no : ∀ s ∈ (Sl.no :: (as.map Sl.im ++ List.replicate (N.length - 1 - as.length) .no)), Sl.calm s = true := fun s hs => by
    obtain ⟨i, hi⟩ := List.getElem?_of_mem hs
    rcases im i s hi with e | ⟨d, _, _, _, e⟩ <;> (subst e; rfl)
  refine ⟨x, dx, Hf, del H x, Hf, _, [], [], [], r, rfl, no, ⟨⟨zan.refl _, fun b o e => ?_, s0, fun _ _ _ _ => rfl⟩, ?_, fun i v s a b => ?_, fun i j s t v w l a b _ _ p _ => ?_⟩, zo9, hf, hx, rfl, by simpa using hz, rfl, e, fun us Hf' H' xx h1 h2 h3 h4 => kq us Hf' H' xx h1 h2 h3 h4⟩
  · by_cases hb : b = x
    · subst hb; rw [zo9] at e; cases e
    · rw [zqe hb] at e; exact e
  · unfold L2.start
    simp only [List.length_append, List.length_map, List.length_cons, List.length_replicate]
    omega
  · rcases im i s b with e | ⟨d, j, ei, ed, es⟩
    · subst e; trivial
    · subst es ei
      obtain ⟨u, eu, ru⟩ := ra.get ed
      refine ⟨u, ?_, ru⟩
      have hi : j < vs'.length := (List.getElem?_eq_some_iff.mp eu).1
      unfold L2.start at a
      rw [List.map_cons, List.cons_append, List.getElem?_cons_succ, List.getElem?_append_left (by simpa using hi), List.getElem?_map, eu] at a
      exact (Option.some.inj a).symm
  · exact (p.calm (no s (List.mem_of_getElem? a))).elim
end
section
variable {c : Str -> Addr} {X : Cx} {k : Nat} {f : Addr} {fd : FuncData} {ps : List Str} {x cn : Str} {p pos : Pos} {e : Expr} {es : List Expr} {fa : List Sl -> Option (List D)}
noncomputable def zfx (cn : Str) (m : List D -> Option (List Str × List D)) (fa : List Sl -> Option (List D)) (ρ : List Sl) : Option D := (fa ρ).bind fun as => (m as).map fun r => .ins cn r.1 r.2
theorem zho {m : List D -> Option (List Str × List D)} (cn : Str) (M : Mk X.K (c cn) f) (F : zau X.prog X.w X.K X.mg X.base CX0 k f fd ps (spI (Gx c X) cn ps.length m)) (hr : zbm (k + 1) X.A) (hg : Gl X x) (hm : X.mg x = some (.ref (c cn))) (hb : za2 X.K fd ps []) (ha : DA c X (e :: es) fa)
    (hl : (e :: es).length + 1 = ps.length := by rfl) (hdb : (x == ("__debug__" : Str)) = false := by decide) (he : starEach (e :: es) X.env = (false, eval e X.env) :: starEach es X.env := by rfl) (hpl : (backTo pos (starEach es X.env)).any (·.1) = false := by rfl) :
    DE c X (.Call (.Name x p) (e :: es) [] pos) (zfx cn m fa) := PE.imp (z13 M F hr hg hm hb .nil zkp ha.pa hdb he hpl) fun σ H Q q_ => by
  obtain ⟨Hf0, H0, Hf, ρ, d, st, ef, kq⟩ := q_
  unfold zfx at ef
  cases e1 : fa ρ with
  | none => rw [e1] at ef; cases ef
  | some as =>
    rw [e1] at ef
    replace ef : (m as).map _ = _ := ef
    cases e2 : m as with
    | none => rw [e2] at ef; cases ef
    | some r =>
      rw [e2] at ef
      cases ef
      refine ⟨Hf0, H0, Hf, ρ, as, st, e1, fun vs Hf' H' xx rv y dx ny ndx nex => ?_⟩
      try dsimp only
      rw [List.append_nil]
      have hy : (upd H' dx (.own y)) y = none := by rw [zar nex.symm]; exact ny
      have s1 : zan H' (upd H' dx (.own y)) := zbk ndx
      have s2 := s1.trans (zbk (o := .ins (c cn) dx []) hy)
      have s3 : zan H' (del (upd (upd H' dx (.own y)) y (.ins (c cn) dx [])) y) := fun b u q => by
        have := zci q ny
        rw [zqe this]
        exact s2 b u q
      refine ⟨y, dx, Hf', as, vs, r, rfl, zbe, xx.s.free ny, xx.s.trans s2, rv, by rw [ha.len ρ as e1]; exact hl, e2, fun us Hf2 H2 x2 hf2 hy2 hlen r2 => ⟨rfl, ?_⟩⟩
      have x3 : Ext Hf' H' Hf2 H2 := ⟨x2.f, s3.trans x2.h, x2.s, fun l u q t => x2.n l u (s3 l u q) t⟩
      exact kq _ _ H2 ((xx.trans x3).fix (xx.h.free ny) hf2 hy2) ⟨y, dx, us, rfl, zbe, hlen, r2.up (zbk hf2)⟩
end
end L2
namespace L2
open PySem PySem.Spec PyProof.Rows
theorem zfm {F F' : List Sl -> Option Fl} {ρ ρ' : List Sl} {r : Option Fl} (h : F ρ = some (.nx ρ')) (h' : F' ρ' = r) : zal F F' ρ = r := by
  unfold zal
  rw [h]
  exact h'
theorem zhy {F F' : List Sl -> Option Fl} {ρ : List Sl} {d : D} (h : F ρ = some (.rt d)) : zal F F' ρ = some (.rt d) := by
  unfold zal
  rw [h]
  rfl
theorem zh3 {t : List Sl -> Option Bool} {F F' : List Sl -> Option Fl} {ρ : List Sl} {r : Option Fl} (h : t ρ = some true) (h' : F ρ = r) : za9 t F F' ρ = r := by
  unfold za9
  rw [h]
  exact h'
theorem zfn {t : List Sl -> Option Bool} {F F' : List Sl -> Option Fl} {ρ : List Sl} {r : Option Fl} (h : t ρ = some false) (h' : F' ρ = r) : za9 t F F' ρ = r := by
  unfold za9
  rw [h]
  exact h'
theorem zuc {i : Nat} {f : List Sl -> Option D} {ρ : List Sl} {d : D} (h : f ρ = some d) : zbb i f ρ = some (.nx (ρ.set i (.im d))) := by
  unfold zbb
  rw [h]
  rfl
theorem z1e {i : Nat} {f : List Sl -> Option (List D)} {ρ : List Sl} {d : List D} (h : f ρ = some d) : zdw i f ρ = some (.nx (ρ.set i (.own d))) := by
  unfold zdw
  rw [h]
  rfl
theorem zcx {f : List Sl -> Option D} {ρ : List Sl} {d : D} (h : f ρ = some d) : za6 f ρ = some (.rt d) := by
  unfold za6
  rw [h]
  rfl
theorem zcu {n : Nat} {F : List Sl -> Option Fl} {ds : List D} {d : D} (h : F (zd3 n ds) = some (.rt d)) : zbf n F ds = some d := by
  unfold zbf
  rw [h]
  rfl
theorem zbr {m : List D -> Option D} {f : List Sl -> Option (List D)} {ρ : List Sl} {ds : List D} {d : D} (h : f ρ = some ds) (h' : m ds = some d) : zat m f ρ = some d := by
  unfold zat
  rw [h]
  exact h'
theorem zmn {α : Type} {h : D -> Option (Option D)} (f : α -> D) (p : α -> Bool) (q : α -> D) : ∀ (xs : List α), (∀ x ∈ xs, h (f x) = some (if p x then some (q x) else none)) -> zdi h (xs.map f) = some ((xs.filter p).map q)
  | [], _ => rfl
  | x :: xs, hh => by
    rw [List.map_cons]
    unfold zdi
    rw [hh x List.mem_cons_self, zmn f p q xs fun y hy => hh y (List.mem_cons_of_mem _ hy)]
    cases hp : p x with
    | true => rw [List.filter_cons_of_pos hp]; rfl
    | false => rw [List.filter_cons_of_neg (by rw [hp]; exact Bool.false_ne_true)]; rfl
theorem z1s {α : Type} {h : D -> Option (Option D)} (f : α -> D) (q : α -> D) (xs : List α) (hh : ∀ x ∈ xs, h (f x) = some (some (q x))) : zdi h (xs.map f) = some (xs.map q) := by
  have := zmn (h := h) f (fun _ => true) q xs fun x hx => (hh x hx).trans rfl
  rw [this, List.filter_eq_self.mpr fun _ _ => rfl]
theorem zf9 {α : Type} {k : Nat} {js : List Nat} {fi : List Sl -> Option (List D)} {g : D -> List Sl -> Option (List Sl)} {ft : List Sl -> Option Bool} {fe : List Sl -> Option D} {ρ : List Sl} (xs : List α) (f : α -> D) (p : α -> Bool) (q : α -> D)
    (hi : fi ρ = some (xs.map f)) (hz : xs.length <= 16777216) (hh : ∀ x ∈ xs, zdq g ft fe (zct k js ρ) (f x) = some (if p x then some (q x) else none)) : zbj k js fi g ft fe ρ = some ((xs.filter p).map q) := by
  unfold zbj
  rw [hi]
  show (if (xs.map f).length <= 16777216 then _ else none) = _
  rw [List.length_map, if_pos hz]
  exact zmn f p q xs hh
theorem ze9 {α : Type} {k : Nat} {js : List Nat} {fi : List Sl -> Option (List D)} {g : D -> List Sl -> Option (List Sl)} {ft : List Sl -> Option Bool} {fe : List Sl -> Option D} {ρ : List Sl} (xs : List α) (f : α -> D) (q : α -> D)
    (hi : fi ρ = some (xs.map f)) (hz : xs.length <= 16777216) (hh : ∀ x ∈ xs, zdq g ft fe (zct k js ρ) (f x) = some (some (q x))) : zbj k js fi g ft fe ρ = some (xs.map q) := by
  unfold zbj
  rw [hi]
  show (if (xs.map f).length <= 16777216 then _ else none) = _
  rw [List.length_map, if_pos hz]
  exact z1s f q xs hh
theorem zze (lo : Int) (n : Nat) : rng lo n = (List.range n).map fun (i : Nat) => D.int (lo + i) := rfl
theorem ztk {ns : List Int} : zdg [.lst (ns.map D.int)] = some (.int ns.sum) := by
  unfold zdg lsD
  show (zdf (ns.map D.int)).map _ = _
  rw [z32]
  rfl
theorem zb5 {α : Type} {f : α -> D} {xs : List α} {i : Int} (h0 : 0 <= i) (h1 : i < xs.length) : ∃ x, xs[i.toNat]? = some x /\ atI (xs.map f) i = some (f x) := by
  have hl : i.toNat < xs.length := by omega
  refine ⟨xs[i.toNat], by simp [hl], ?_⟩
  have := z14 (xs := xs.map f) (j := i.toNat) (v := f xs[i.toNat]) (by simp [hl])
  rw [show ((i.toNat : Nat) : Int) = i by omega] at this
  exact this
theorem zz6 {α : Type} {f : α -> D} {xs : List α} {i : Int} (d : α) (h0 : 0 <= i) (h1 : i < xs.length) : atI (xs.map f) i = some (f (xs.getD i.toNat d)) := by
  obtain ⟨x, e1, e2⟩ := zb5 (f := f) h0 h1
  rw [e2, List.getD_eq_getElem?_getD, e1]
  rfl
noncomputable def zcd : Nat -> D -> Prop
  | 0, _ => False
  | n + 1, d => match d with
    | .lst xs => ∀ x ∈ xs, zcd n x
    | .tup xs => ∀ x ∈ xs, zcd n x
    | d => d.scalar = true
theorem zns {f : D -> D -> Option Bool} : ∀ (xs : List D), (∀ x ∈ xs, f x x = some true) -> zb1 f xs xs = some true
  | [], _ => rfl
  | x :: xs, h => by
    unfold zb1
    rw [h x List.mem_cons_self, zns xs fun y hy => h y (List.mem_cons_of_mem _ hy)]
    rfl
theorem znm : ∀ (n : Nat) (d : D), zcd n d -> deq n d d = some true
  | 0, _, h => h.elim
  | n + 1, d, h => by
    show zge (deq n) d d = some true
    cases d with
    | lst xs =>
      show (if xs.length = xs.length then zb1 (deq n) xs xs else some false) = _
      rw [if_pos rfl]
      exact zns xs fun x hx => znm n x (h x hx)
    | tup xs =>
      show (if xs.length = xs.length then zb1 (deq n) xs xs else none) = _
      rw [if_pos rfl]
      exact zns xs fun x hx => znm n x (h x hx)
    | non => rfl
    | bl b => show some (b == b) = _; rw [beq_self_eq_true]
    | int b => show some (b == b) = _; rw [beq_self_eq_true]
    | str b => show some (b == b) = _; rw [beq_self_eq_true]
    | _ => cases h
theorem zcd.mono : ∀ (n : Nat) (d : D), zcd n d -> zcd (n + 1) d
  | 0, _, h => h.elim
  | n + 1, d, h => by
    cases d with
    | lst xs => exact fun x hx => zcd.mono n x (h x hx)
    | tup xs => exact fun x hx => zcd.mono n x (h x hx)
    | _ => exact h
theorem zcd.le {n m : Nat} {d : D} (h : zcd n d) (hm : n <= m) : zcd m d := by
  induction hm with
  | refl => exact h
  | step _ ih => exact zcd.mono _ _ ih
theorem zom {d : D} (h : zcd 20 d) : dNe d d = some (.bl false) := by
  unfold dNe
  rw [znm 20 d h]
  rfl
theorem zll (i j : Int) : dEq (.int i) (.int j) = some (.bl (i == j)) := rfl
theorem zxz (i j : Str) : dEq (.str i) (.str j) = some (.bl (i == j)) := rfl
theorem zxk (i j : Bool) : dEq (.bl i) (.bl j) = some (.bl (i == j)) := rfl
theorem zzj (i j : Int) : dNe (.int i) (.int j) = some (.bl (!(i == j))) := rfl
theorem z19 (i j : Str) : dNe (.str i) (.str j) = some (.bl (!(i == j))) := rfl
end L2
namespace L2
open PySem PySem.Spec PyProof.Rows
theorem zbi {m : D -> D -> Option D} {f g : List Sl -> Option D} {ρ : List Sl} {x y d : D} (h1 : f ρ = some x) (h2 : g ρ = some y) (h3 : m x y = some d) : m2 m f g ρ = some d := by
  unfold m2
  rw [h1, h2]
  exact h3
theorem zcb {f : List Sl -> Option D} {ρ : List Sl} {b : Bool} (h : f ρ = some (.bl b)) : mB f ρ = some b := by
  unfold mB
  rw [h]
  rfl
theorem zjj {f : List Sl -> Option D} {ρ : List Sl} {d : D} {b : Bool} (h : f ρ = some d) (h' : zgx d = some b) : zc8 f ρ = some b := by
  unfold zc8
  rw [h]
  exact h'
theorem znv {f : List Sl -> Option Bool} {ρ : List Sl} {b : Bool} (h : f ρ = some b) : zej f ρ = some (!b) := by
  unfold zej
  rw [h]
  rfl
theorem zl0 {f g : List Sl -> Option Bool} {ρ : List Sl} {r : Option Bool} (h : f ρ = some true) (h' : g ρ = r) : zf1 f g ρ = r := by
  unfold zf1
  rw [h]
  exact h'
theorem ztc {f g : List Sl -> Option Bool} {ρ : List Sl} (h : f ρ = some false) : zf1 f g ρ = some false := by
  unfold zf1
  rw [h]
  rfl
theorem zpc {f g : List Sl -> Option Bool} {ρ : List Sl} (h : f ρ = some true) : mOr f g ρ = some true := by
  unfold mOr
  rw [h]
  rfl
theorem zhd {f g : List Sl -> Option Bool} {ρ : List Sl} {r : Option Bool} (h : f ρ = some false) (h' : g ρ = r) : mOr f g ρ = r := by
  unfold mOr
  rw [h]
  exact h'
theorem zzk {f g : List Sl -> Option Bool} {ρ : List Sl} {a b : Bool} (h : f ρ = some a) (h' : g ρ = some b) : zf1 f g ρ = some (a && b) := by
  cases a with
  | true => exact zl0 h h'
  | false => exact ztc h
theorem zsh {f g : List Sl -> Option Bool} {ρ : List Sl} {a b : Bool} (h : f ρ = some a) (h' : g ρ = some b) : mOr f g ρ = some (a || b) := by
  cases a with
  | true => exact zpc h
  | false => exact zhd h h'
theorem zw0 {f g : List Sl -> Option D} {ρ : List Sl} {a b : Bool} (h : f ρ = some (.bl a)) (h' : g ρ = some (.bl b)) : zqq f g ρ = some (.bl (a && b)) := by
  unfold zqq
  rw [zcb h]
  cases a with
  | true => exact h'
  | false => rfl
theorem zz2 {f g : List Sl -> Option D} {ρ : List Sl} {a b : Bool} (h : f ρ = some (.bl a)) (h' : g ρ = some (.bl b)) : vOr f g ρ = some (.bl (a || b)) := by
  unfold vOr
  rw [zcb h]
  cases a with
  | true => rfl
  | false => exact h'
theorem ztg {f : List Sl -> Option D} {ρ : List Sl} {a : Bool} (h : f ρ = some (.bl a)) : zf3 f ρ = some (.bl (!a)) := by
  unfold zf3
  rw [zcb h]
  rfl
theorem zax {f : List Sl -> Option D} {g : List Sl -> Option (List D)} {ρ : List Sl} {d : D} {ds : List D} (h : f ρ = some d) (h' : g ρ = some ds) : zab f g ρ = some (d :: ds) := by
  unfold zab
  rw [h, h']
  rfl
theorem zha {f : List Sl -> Option (List D)} {ρ : List Sl} {ds : List D} (h : f ρ = some ds) : zb8 f ρ = some (.tup ds) := by
  unfold zb8
  rw [h]
  rfl
theorem za8 {f : List Sl -> Option (List D)} {ρ : List Sl} {ds : List D} (h : f ρ = some ds) : zas f ρ = some (.lst ds) := by
  unfold zas
  rw [h]
  rfl
theorem zaw {f : List Sl -> Option (List D)} {g : List Sl -> Option D} {ρ : List Sl} {ds : List D} {i : Int} {r : Option D} (h : f ρ = some ds) (h' : g ρ = some (.int i)) (h2 : atI ds i = r) : mIx f g ρ = r := by
  unfold mIx
  rw [h, h']
  exact h2
theorem zid {C : Int -> Int -> Prop} [∀ i j, Decidable (C i j)] {g : Int -> Int -> D} {i j : Int} (h : C i j) : dI C g (.int i) (.int j) = some (g i j) := by
  show (if C i j then some (g i j) else none) = _
  rw [if_pos h]
theorem zw6 {i : Nat} {f : List Sl -> Option D} {ρ : List Sl} {d : D} {xs : List D} (h : f ρ = some d) (h' : ρ[i]? = some (.own xs)) (hl : xs.length < 16777216) : zec i f ρ = some (.nx (ρ.set i (.own (xs ++ [d])))) := by
  unfold zec
  rw [h]
  show (match ρ[i]? with | some (.own xs) => if xs.length < 16777216 then some (Fl.nx (ρ.set i (.own (xs ++ [d])))) else none | _ => none) = _
  rw [h']
  show (if xs.length < 16777216 then _ else none) = _
  rw [if_pos hl]
theorem zfr {g : D -> List Sl -> Option (List Sl)} {ft : List Sl -> Option Bool} {fe : List Sl -> Option D} {ρ ρ1 : List Sl} {d y : D} {b : Bool} (h1 : g d ρ = some ρ1) (h2 : ft ρ1 = some b) (h3 : b = true -> fe ρ1 = some y) : zdq g ft fe ρ d = some (if b then some y else none) := by
  unfold zdq
  rw [h1]
  show (ft ρ1).bind _ = _
  rw [h2]
  show (if b = true then (fe ρ1).map some else some none) = _
  cases b with
  | true => rw [h3 rfl]; rfl
  | false => rfl
theorem zd6 {g : D -> List Sl -> Option (List Sl)} {ft : List Sl -> Option Bool} {fe : List Sl -> Option D} {ρ ρ1 : List Sl} {d y : D} (h1 : g d ρ = some ρ1) (h2 : ft ρ1 = some true) (h3 : fe ρ1 = some y) : zdq g ft fe ρ d = some (some y) := zfr h1 h2 fun _ => h3
theorem zc2 {f : List Sl -> Option D} {ρ : List Sl} {d : D} {ds : List D} (h : f ρ = some d) (h' : zfe d = some ds) : zbc f ρ = some ds := by
  unfold zbc
  rw [h]
  exact h'
theorem zif {f g : List Sl -> Option D} {ρ : List Sl} {d : D} (h : f ρ = some d) : zcr f g ρ = some d := by
  unfold zcr
  rw [h]
  rfl
theorem zea {f g : List Sl -> Option D} {ρ : List Sl} {r : Option D} (h : f ρ = none) (h' : g ρ = r) : zcr f g ρ = r := by
  unfold zcr
  rw [h]
  exact h'
theorem zk5 {f : List Sl -> Option (List D)} {ρ : List Sl} {n : Int} (h : f ρ = some [.int n]) (h0 : 0 <= n) (h1 : n < 2 ^ 62) : zeh f ρ = some ((List.range n.toNat).map fun (i : Nat) => D.int i) := by
  unfold zeh
  rw [h]
  show (if -(2 ^ 62) <= n /\ n < 2 ^ 62 then some (rng 0 n.toNat) else none) = _
  rw [if_pos ⟨by omega, h1⟩, zze]
  congr 1
  refine List.map_congr_left fun i _ => ?_
  rw [Int.zero_add]
end L2
namespace L2
open PySem PySem.Spec PyProof.Rows
theorem zfw {cn f : Str} {m : List D -> Option D} {fo : List Sl -> Option D} {fa : List Sl -> Option (List D)} {ρ : List Sl} {ns : List Str} {ds as : List D} (h : fo ρ = some (.ins cn ns ds)) (hn : ns.contains f = false) (h' : fa ρ = some as) : zce cn f m fo fa ρ = m (.ins cn ns ds :: as) := by
  unfold zce
  rw [h]
  show (if cn = cn /\ ns.contains f = false then (fa ρ).bind fun as => m (.ins cn ns ds :: as) else none) = _
  rw [if_pos ⟨rfl, hn⟩, h']
  rfl
theorem zd7 {cn f c' : Str} {m : List D -> Option D} {fo : List Sl -> Option D} {fa : List Sl -> Option (List D)} {ρ : List Sl} {ns : List Str} {ds : List D} (h : fo ρ = some (.ins c' ns ds)) (hn : c' ≠ cn) : zce cn f m fo fa ρ = none := by
  unfold zce
  rw [h]
  show (if c' = cn /\ ns.contains f = false then (fa ρ).bind fun as => m (.ins c' ns ds :: as) else none) = _
  rw [if_neg fun z => hn z.1]
end L2
namespace L2
open PySem PySem.Spec PyProof.Rows
noncomputable def itD (z : Int × Int) : D := .tup [.int z.1, .int z.2]
noncomputable def shD : Option Bool -> D
  | none => .non
  | some b => .bl b
noncomputable def InN (n : Nat) (its : List (Int × Int)) : Prop := ∀ z ∈ its, 0 <= z.1 /\ z.1 < (n : Int) /\ 0 <= z.2
theorem z3m (bs : List (Option Bool)) : zcd 2 (.lst (bs.map shD)) := fun x hx => by
  obtain ⟨b, _, rfl⟩ := List.mem_map.mp hx
  cases b <;> exact rfl
theorem z1w (z : Int × Int) : zcd 2 (itD z) := fun x hx => by
  simp only [List.mem_cons, List.not_mem_nil, or_false] at hx
  rcases hx with rfl | rfl <;> exact rfl
theorem zri (its : List (Int × Int)) : zcd 3 (.lst (its.map itD)) := fun x hx => by
  obtain ⟨z, _, rfl⟩ := List.mem_map.mp hx
  exact z1w z
theorem zds {es : List (Option Bool)} {i : Int} (h0 : 0 <= i) (h1 : i < es.length) : atI (es.map shD) i = some (shD (es.getD i.toNat none)) := zz6 none h0 h1
theorem zh2 (e : Option Bool) (b : Bool) : dIs (shD e) (.bl b) = some (.bl (e == some b)) := by
  cases e with
  | none => rfl
  | some c => cases b <;> cases c <;> rfl
theorem zl7 (e : Option Bool) (b : Bool) : zew (shD e) (.bl b) = some (.bl (!(e == some b))) := by
  cases e with
  | none => rfl
  | some c => cases b <;> cases c <;> rfl
noncomputable def Prt.toD : Prt -> D
  | .inn t => .tup [.str "in", .int t]
  | .out t => .tup [.str "out", .int t]
  | .least k its => .tup [.str "least", .int k, .lst (its.map itD)]
  | .most k its => .tup [.str "most", .int k, .lst (its.map itD)]
noncomputable def Prt.obj : Prt -> D
  | .inn t => .ins "In" ["thing"] [.int t]
  | .out t => .ins "Out" ["thing"] [.int t]
  | .least k its => .ins "Least" ["bound", "pieces"] [.int k, .lst (its.map itD)]
  | .most k its => .ins "Most" ["bound", "pieces"] [.int k, .lst (its.map itD)]
noncomputable def Prt.Ok (n : Nat) : Prt -> Prop
  | .inn t => 0 <= t /\ t < (n : Int)
  | .out t => 0 <= t /\ t < (n : Int)
  | .least _ its => InN n its /\ its.length <= 100000
  | .most _ its => InN n its /\ its.length <= 100000
theorem zx1 (p : Prt) : zcd 4 p.toD := by
  cases p with
  | inn t => intro x hx; simp only [List.mem_cons, List.not_mem_nil, or_false] at hx; rcases hx with rfl | rfl <;> exact rfl
  | out t => intro x hx; simp only [List.mem_cons, List.not_mem_nil, or_false] at hx; rcases hx with rfl | rfl <;> exact rfl
  | least k its =>
    intro x hx
    simp only [List.mem_cons, List.not_mem_nil, or_false] at hx
    rcases hx with rfl | rfl | rfl
    · exact rfl
    · exact rfl
    · exact zri its
  | most k its =>
    intro x hx
    simp only [List.mem_cons, List.not_mem_nil, or_false] at hx
    rcases hx with rfl | rfl | rfl
    · exact rfl
    · exact rfl
    · exact zri its
theorem z1a (p : Int -> Bool) (its : List (Int × Int)) : ((its.filter fun z => p z.1).map fun z => D.int z.2) = ((its.filter fun z => p z.1).map (·.2)).map D.int := by
  rw [List.map_map]
  rfl
theorem zkw (p : Int -> Bool) (its : List (Int × Int)) : zdg [.lst ((its.filter fun z => p z.1).map fun z => D.int z.2)] = some (.int (zv8 p its)) := by
  rw [z1a, ztk]
  rfl
end L2
namespace L2
open PySem PySem.Spec PyProof.Rows
theorem zrn : ∀ {bs : List Bool} {us : List Value}, zaj (bs.map V.bl) us -> us = bs.map Value.bool
  | [], _, .nil => rfl
  | b :: bs, _, .cons r t => by
    rw [zrn t]
    cases (show _ = Value.bool b from r)
    rfl
theorem zym (bs : List Bool) : ((List.range bs.length).all fun i => (bs[i]?).getD true) = bs.all id := by
  rw [Bool.eq_iff_iff, List.all_eq_true, List.all_eq_true]
  constructor
  · intro h b hb
    obtain ⟨i, hi, e⟩ := List.getElem_of_mem hb
    have := h i (List.mem_range.mpr hi)
    simp only [List.getElem?_eq_getElem hi, Option.getD_some, e] at this
    exact this
  · intro h i hi
    have hi' := List.mem_range.mp hi
    simp only [List.getElem?_eq_getElem hi', Option.getD_some]
    exact h _ (List.getElem_mem hi')
section
variable {c : Str -> Addr} {X : Cx}
theorem zx2 {h h' : Heap} {o : Obj} (hk : ∀ b x, b ∉ [h.objs.size] -> (h.push o).get? b = some x -> h'.get? b = some x) : ∀ b x, h.get? b = some x -> h'.get? b = some x :=
  fun b x e => hk b x (fun hm => by rw [List.mem_singleton.mp hm] at e; exact Nat.lt_irrefl _ (Heap.lt_size e)) (Heap.get?_push_of_some _ e)
theorem z3y (hc : X.calm = true) : zcw X (.builtin "all") (fun xs H Q => ∃ (p : Addr) (bs : List Bool), xs = [.ref p] /\ SqL X.K H p (bs.map V.bl) /\ Q (.bl (bs.all id)) H) := by
  intro pins s σ H xs us Q I r h
  obtain ⟨l, bs, rfl, hq, q⟩ := h
  obtain ⟨u, rfl, rx⟩ := zg9 r
  cases rx
  obtain ⟨its, r', pl, hz⟩ := I.list hq
  have e := zrn r'
  subst e
  have hl := pl.isList
  have hlt : l < s.heap.objs.size := by obtain ⟨_, e, _⟩ := hl; exact Heap.lt_size e
  refine call_all_walk (wpAny_pyIter_list hl ?_)
  refine ⟨s.heap.objs.size, [s.heap.objs.size, l], [s.heap.objs.size], (bs.map Value.bool).toArray.size, _, _, fun i => (bs[i]?).getD true, rfl, Walks.list (A := X.A.in1) (I.ok.hd hc) _ l (Nat.ne_of_lt hlt) (bs.map Value.bool).toArray,
    ⟨⟨_, Heap.get?_push_size _ rfl, rfl, rfl⟩, hl.push _⟩, fun i v s' Q' E' hP hQ => ?_, fun h' tk hk => ?_⟩
  · have hP' : (bs.map Value.bool)[i]? = some v := by simpa using hP
    obtain ⟨b, e, rfl⟩ := zig hP'
    simp only [e, Option.getD_some] at hQ
    exact wpAny_truthy_bool hQ
  · have e : ((List.range (bs.map Value.bool).toArray.size).all fun i => (bs[i]?).getD true) = bs.all id := by
      rw [List.size_toArray, List.length_map]; exact zym bs
    rw [e]
    exact ⟨.bl (bs.all id), H, I.kept (zx2 hk), rfl, q⟩
noncomputable def zdp : List D -> Option (List Bool)
  | [] => some []
  | .bl b :: ds => (zdp ds).map fun r => b :: r
  | _ => none
theorem zsm : ∀ {ds : List D} {bs : List Bool}, zdp ds = some bs -> ds = bs.map D.bl
  | [], _, e => by cases e; rfl
  | .bl b :: ds, _, e => by
    unfold zdp at e
    cases es : zdp ds with
    | none => rw [es] at e; cases e
    | some r => rw [es] at e; cases e; rw [zsm es]; rfl
  | .int _ :: _, _, e => by cases e
  | .non :: _, _, e => by cases e
  | .str _ :: _, _, e => by cases e
  | .lst _ :: _, _, e => by cases e
  | .tup _ :: _, _, e => by cases e
  | .kl _ :: _, _, e => by cases e
  | .kt _ :: _, _, e => by cases e
  | .dic _ _ :: _, _, e => by cases e
  | .ins _ _ _ :: _, _, e => by cases e
theorem zqd (bs : List Bool) : zdp (bs.map D.bl) = some bs := by
  induction bs with
  | nil => rfl
  | cons n ns ih => rw [List.map_cons, zdp, ih]; rfl
theorem zae.bls {G : Gc} {H : Hp} : ∀ {bs : List Bool} {vs : List V}, zae G H (bs.map D.bl) vs -> vs = bs.map V.bl
  | [], _, h => h
  | b :: bs, _, ⟨v, r, e, h1, h2⟩ => by
    subst e
    rw [zae.bls h2, show v = V.bl b from h1]
    rfl
noncomputable def zhu : List D -> Option D
  | [d] => (lsD d).bind fun ds => (zdp ds).map fun bs => .bl (bs.all id)
  | _ => none
noncomputable def zrz : List D -> Option D
  | [d] => (lsD d).bind fun ds => (zdp ds).map fun bs => .bl (bs.any id)
  | _ => none
theorem zrd {f : List Bool -> D} {ds : List D} {d : D} (e : (match ds with | [d] => (lsD d).bind fun ds => (zdp ds).map f | _ => none) = some d) : ∃ d0 xs bs, ds = [d0] /\ lsD d0 = some xs /\ xs = bs.map D.bl /\ d = f bs := by
  split at e
  · rename_i d0
    cases e1 : lsD d0 with
    | none => rw [e1] at e; cases e
    | some xs =>
      rw [e1] at e
      replace e : (zdp xs).map f = some d := e
      cases e2 : zdp xs with
      | none => rw [e2] at e; cases e
      | some bs => rw [e2] at e; cases e; exact ⟨d0, xs, bs, rfl, e1, zsm e2, rfl⟩
  · cases e
theorem zuj (hc : X.calm = true) : zkm c X (.builtin "all") zhu := by
  rintro pins s σ H vs us Q I rv ⟨Hf, ds, d, s0, r, e, k⟩
  obtain ⟨d0, xs, bs, rfl, e1, rfl, rfl⟩ := zrd e
  obtain ⟨v, ev, r1⟩ := r.one
  subst ev
  obtain ⟨a, ws, ea, q, rs⟩ := zgb e1 r1
  subst ea
  refine z3y hc pins s σ H _ us Q I rv ⟨a, bs, rfl, ?_, k _ Hf H (Ext.refl s0) rfl⟩
  rw [<- rs.bls]
  exact s0.seq q
theorem z12 : ∀ ds d, zhu ds = some d -> d.scalar = true := fun ds d e => by
  obtain ⟨d0, xs, bs, rfl, e1, rfl, rfl⟩ := zrd e
  rfl
theorem zvo (bs : List Bool) : zhu [.lst (bs.map D.bl)] = some (.bl (bs.all id)) := by
  show (zdp (bs.map D.bl)).map _ = _
  rw [zqd]
  rfl
theorem z49 (bs : List Bool) : zrz [.lst (bs.map D.bl)] = some (.bl (bs.any id)) := by
  show (zdp (bs.map D.bl)).map _ = _
  rw [zqd]
  rfl
end
end L2
namespace L2
open PySem PySem.Spec PyProof.Rows
inductive Wrd where
  | make | may | never
  deriving DecidableEq
noncomputable def Wrd.s : Wrd -> Str
  | .make => "make"
  | .may => "may"
  | .never => "never"
structure Rul where
  w : Wrd
  hd : Int
  ps : List Prt
noncomputable def Rul.hdD (r : Rul) : D := match r.w with
  | .never => .non
  | _ => .int r.hd
noncomputable def Rul.toD (r : Rul) : D := .tup [.str r.w.s, r.hdD, .lst (r.ps.map Prt.toD)]
structure Rul.Ok (n : Nat) (r : Rul) : Prop where
  hd : r.w ≠ .never -> 0 <= r.hd /\ r.hd < (n : Int)
  ps : ∀ p ∈ r.ps, p.Ok n
  len : r.ps.length <= 100000
theorem zyb (r : Rul) : zcd 6 r.toD := by
  intro x hx
  simp only [List.mem_cons, List.not_mem_nil, or_false] at hx
  rcases hx with rfl | rfl | rfl
  · exact rfl
  · unfold Rul.hdD
    cases r.w <;> exact rfl
  · intro x hx
    obtain ⟨p, _, rfl⟩ := List.mem_map.mp hx
    exact zx1 p
noncomputable def Rul.bodySure (r : Rul) (es : List (Option Bool)) : Bool := r.ps.all fun p => p.sure es
noncomputable def Rul.surely (r : Rul) (es : List (Option Bool)) : Bool := match r.w with
  | .may => false
  | .make => (es.getD r.hd.toNat none == some false) && r.bodySure es
  | .never => r.bodySure es
theorem zrq {α : Type} (f : α -> Bool) (xs : List α) : (xs.map fun x => D.bl (f x)) = (xs.map f).map D.bl := by
  rw [List.map_map]
  rfl
theorem all_map (f : Prt -> Bool) (xs : List Prt) : zhu [.lst (xs.map fun x => D.bl (f x))] = some (.bl (xs.all f)) := by
  rw [zrq, zvo, List.all_map]
  rfl
theorem any_map (f : Prt -> Bool) (xs : List Prt) : zrz [.lst (xs.map fun x => D.bl (f x))] = some (.bl (xs.any f)) := by
  rw [zrq, z49, List.any_map]
  rfl
end L2
namespace L2
open PySem PySem.Spec PyProof.Rows
structure zpd (es es' : List (Option Bool)) : Prop where
  len : es'.length = es.length
  at' : ∀ i, es.getD i none = none \/ es'.getD i none = es.getD i none
structure zqa (ws ws' : List Bool) : Prop where
  len : ws'.length = ws.length
  at' : ∀ i, ws.getD i false = true -> ws'.getD i false = true
theorem zpd.refl (es : List (Option Bool)) : zpd es es := ⟨rfl, fun _ => .inr rfl⟩
theorem zqa.refl (ws : List Bool) : zqa ws ws := ⟨rfl, fun _ h => h⟩
theorem Prt.Ok.le {n m : Nat} {p : Prt} (h : p.Ok n) (e : m = n) : p.Ok m := e ▸ h
end L2
namespace L2
open PySem PySem.Spec PyProof.Rows
noncomputable def Ite (K : PySem.W.Frag) (l : Addr) : It :=
  ⟨fun i H => ∃ xs x, SqL K H l xs /\ xs[i]? = some x,
   fun i H v H' => ∃ p x, v = .ref p /\ H p = none /\ H' = upd H p (.tup [.int i, x]) /\ (∀ xs, SqL K H l xs -> xs[i]? = some x),
   fun i H => ∃ xs, SqL K H l xs /\ xs.length <= i⟩
theorem zzb {P : Program} {w : World} {K : PySem.W.Frag} {elts : List Expr} {kx : Nat} {pos : Pos} (e it l : Addr) (ne : e ≠ it) :
    zf5 P w K (.Tuple elts kx pos) (Ite K l) [e, it] e (fun i h => (∃ old, IsEnum h e it (i : Int) old) /\ h.IsListIter it l i) where
  mem := by simp
  obj := fun i h st b hb => by
    obtain ⟨⟨old, he⟩, ⟨o1, e1, _, d1⟩⟩ := st
    simp only [List.mem_cons, List.not_mem_nil, or_false] at hb
    rcases hb with rfl | rfl
    · exact ⟨_, he, fun v q => by cases q⟩
    · exact ⟨o1, e1, fun v q => by rw [d1] at q; cases q⟩
  keep := fun i h h' st k => by
    obtain ⟨⟨old, he⟩, h1⟩ := st
    exact ⟨⟨old, k e (by simp) _ he⟩, h1.at fun o q => k it (by simp) o q⟩
  item := by
    intro X hP hw hK hc i pins s σ H E I hf st hg
    subst hP hw hK
    obtain ⟨⟨old, he⟩, h1⟩ := st
    obtain ⟨xs, x, q1, hx⟩ := hg
    obtain ⟨its1, r1, p1, z1⟩ := I.list q1
    obtain ⟨u1, e1, ru1⟩ := r1.get hx
    refine wpAny_pyNext_enum_item he h1 p1.isList (x := u1) (by simpa using e1) ne fun h' a1 a3 a5 a6 a7 => ⟨_, rfl, ?_⟩
    refine wpAny_letOwnedTupleGo_enum (s := { s with heap := h', toks := s.toks + 1 }) a1 fun h'' b1 b2 => ?_
    have lt : ∀ b ∈ [e, it], b < s.heap.objs.size := fun b hb => by
      simp only [List.mem_cons, List.not_mem_nil, or_false] at hb
      rcases hb with rfl | rfl
      · exact Heap.lt_size he
      · obtain ⟨o, e, _⟩ := h1; exact Heap.lt_size e
    have kk : ∀ b o, b ∉ [e, it] -> s.heap.get? b = some o -> h''.get? b = some o := fun b o hb e => by
      simp only [List.mem_cons, List.not_mem_nil, or_false, not_or] at hb
      obtain ⟨n1, n2⟩ := hb
      exact (b2.2 b n1).trans (a7 b o n1 n2 e)
    have fr : H s.heap.objs.size = none := I.hok.fresh (Nat.le_refl _)
    have I1 : Inv X pins σ H { s with heap := h'', toks := s.toks + 1 } := I.turnedMany (t' := s.toks + 1) kk hf
    have hp : h''.get? s.heap.objs.size = some { cls := .type "tuple", data := .seq #[.int i s.toks, u1] } := (b2.2 _ (Nat.ne_of_gt (lt e (by simp)))).trans a5
    have I2 : Inv X pins σ (upd H s.heap.objs.size (.tup [.int i, x])) { s with heap := h'', toks := s.toks + 1 } :=
      I1.track (I.fpOk (Nat.le_refl _) fr) ⟨(by show 2 <= sizeLine; decide), [.int i s.toks, u1], .cons ⟨s.toks, rfl⟩ (.cons ru1 .nil), ⟨_, hp, rfl, _, rfl⟩⟩
    refine ⟨.ref s.heap.objs.size, _, I2, rfl, ⟨_, x, rfl, fr, rfl, fun xs' h => by rw [I.list_inj h q1]; exact hx⟩, ⟨⟨u1, ?_⟩, ?_⟩, fun b hb => ?_⟩
    · have : ((i + 1 : Nat) : Int) = (i : Int) + 1 := by push_cast; rfl
      rw [this]; exact b1
    · exact a3.at fun o q => (b2.2 it (Ne.symm ne)).trans q
    · rw [zar (Nat.ne_of_lt (lt b hb))]
      exact (hf b hb).1
  done := by
    intro X hP hw hK hc i pins s σ H E I hf st hg
    subst hP hw hK
    obtain ⟨⟨old, he⟩, h1⟩ := st
    obtain ⟨xs, q1, hend⟩ := hg
    obtain ⟨its1, r1, p1, z1⟩ := I.list q1
    have l1' := r1.length
    refine wpAny_pyNext_enum_end (I.ok.hd hc) he h1 p1.isList (by simp; omega) fun h' kk => ⟨rfl, I.turnedMany (t' := s.toks) (ch := [e, it]) (fun b o hb q => ?_) hf⟩
    simp only [List.mem_cons, List.not_mem_nil, or_false, not_or] at hb
    exact kk b o hb.2 q
  self := fun _ _ _ _ _ st h => by obtain ⟨⟨old, he⟩, _⟩ := st; exact wpAny_pyIter_enum he h
section
variable {X : Cx} {elts : List Expr} {kx : Nat} {tpos : Pos}
noncomputable def zwn (K : PySem.W.Frag) (ta : TA) : TI := fun σ H R => ta σ H fun vs H1 => ∃ l, vs = [.ref l] /\ (∃ xs, SqL K H1 l xs) /\ R (Ite K l) H1
theorem zwy {a : Expr} {ta : TA} {p pos : Pos} (hg : Gl X "enumerate") (hm : X.mg "enumerate" = none) (ha : PA X [a] ta) (hs : starEach [a] X.env = [(false, eval a X.env)] := by rfl) :
    PI X (.Tuple elts kx tpos) (.Call (.Name "enumerate" p) [a] [] pos) (zwn X.K ta) := by
  intro pins s σ H R I h
  refine Call_ (zfy I hg hm boot_enumerate (PyProof.Rows.callWith_type1 (thn (ha pos pins s σ H _ I h) fun us s1 ⟨vs, H1, I1, r1, q1⟩ => ?_) (by rw [hs]; rfl) (by rfl)))
  obtain ⟨l, e, ⟨xs, h1⟩, q⟩ := q1
  subst e
  obtain ⟨u, rfl, ru⟩ := zg9 r1
  cases ru
  obtain ⟨its1, r1, p1, z1⟩ := I1.list h1
  refine call_enumerate_list p1.isList fun h' a1 a4 a6 a7 => ?_
  refine wpAny_pyIter_enum a1 ?_
  have I2 : Inv X pins σ H1 { s1 with heap := h' } := I1.kept (t' := s1.toks) a7
  refine ⟨_, [s1.heap.objs.size + 1, s1.heap.objs.size], _, _, H1, rfl, I2, zzb _ _ _ (Nat.succ_ne_self _), ⟨⟨_, a1⟩, a4⟩, fun b hb => ?_, q⟩
  simp only [List.mem_cons, List.not_mem_nil, or_false] at hb
  have hle : s1.heap.objs.size <= b := by
    rcases hb with rfl | rfl
    · exact Nat.le_add_right _ _
    · exact Nat.le_refl _
  exact I1.fpOk hle (I1.hok.fresh hle)
end
noncomputable def zgp : Nat -> List D -> List D
  | _, [] => []
  | i, x :: xs => .tup [.int i, x] :: zgp (i + 1) xs
theorem zpy : ∀ (i : Nat) (xs : List D), (zgp i xs).length = xs.length
  | _, [] => rfl
  | i, x :: xs => by rw [zgp, List.length_cons, List.length_cons, zpy]
theorem zn3 : ∀ (k : Nat) (xs : List D) (i : Nat), (zgp k xs)[i]? = (xs[i]?).map fun x => .tup [.int (k + i : Nat), x]
  | _, [], _ => rfl
  | k, x :: xs, 0 => rfl
  | k, x :: xs, i + 1 => by rw [zgp, List.getElem?_cons_succ, List.getElem?_cons_succ, zn3 (k + 1) xs i, show k + 1 + i = k + (i + 1) by omega]
noncomputable def zm8 : List D -> Option (List D)
  | [x] => (lsD x).map (zgp 0)
  | _ => none
noncomputable def ziw (f : List Sl -> Option (List D)) (ρ : List Sl) : Option (List D) := (f ρ).bind zm8
section
variable {c : Str -> Addr} {X : Cx} {a : Expr} {pos p : Pos}
theorem z0d {f : List Sl -> Option (List D)} {elts : List Expr} {kx : Nat} {tpos : Pos} (hg : Gl X "enumerate") (hm : X.mg "enumerate" = none) (ha : DA c X [a] f) (hs : starEach [a] X.env = [(false, eval a X.env)] := by rfl) :
    DI c X (.Tuple elts kx tpos) (.Call (.Name "enumerate" p) [a] [] pos) (ziw f) :=
  PI.imp (zwy hg hm ha.pa hs) fun σ H R q_ => by
    obtain ⟨Hf0, H0, Hf, ρ, ds, st, ef, k⟩ := q_
    unfold ziw at ef
    cases e1 : f ρ with
    | none => rw [e1] at ef; cases ef
    | some as =>
      rw [e1] at ef
      replace ef : zm8 as = some ds := ef
      refine ⟨Hf0, H0, Hf, ρ, as, st, e1, fun vs Hf' H' x r => ?_⟩
      unfold zm8 at ef
      split at ef
      · rename_i dx
        cases ex : lsD dx with
        | none => rw [ex] at ef; cases ef
        | some xs =>
          rw [ex] at ef
          cases ef
          obtain ⟨v, ev, rv⟩ := r.one
          obtain ⟨l1, w1, el1, q1, r1⟩ := zgb ex rv
          subst el1
          refine ⟨l1, ev, ⟨w1, x.s.seq q1⟩, k _ Hf' H' x fun Hf2 H2 f2 s2 i => ?_⟩
          have g1 : SqL X.K H2 l1 w1 := (f2.trans s2).seq q1
          have h1 := r1.length
          refine ⟨fun d ed => ?_, fun ei => ⟨w1, g1, by rw [zpy] at ei; omega⟩⟩
          rw [zn3] at ed
          cases hx : xs[i]? with
          | none => rw [hx] at ed; cases ed
          | some x' =>
            rw [hx] at ed
            cases ed
            obtain ⟨u1, eu1, ru1⟩ := r1.get hx
            refine ⟨⟨w1, u1, g1, eu1⟩, fun z H3 ⟨pp, z1, ez, hp, eh, y1⟩ => ?_⟩
            subst ez eh
            have a1 := y1 w1 g1
            rw [eu1] at a1; cases a1
            exact ⟨upd Hf2 pp (.tup [.int i, u1]), Ext.new s2 hp, pp, [.int i, u1], rfl, zbe, .cons (by rw [Nat.zero_add]; rfl) (.cons (ru1.up (f2.trans (zbk (s2.free hp)))) .nil)⟩
      · cases ef
end
noncomputable def zgj : D -> Option Key
  | .int i => some (.inl i)
  | .str x => some (.inr x)
  | _ => none
theorem znl {G : Gc} {H : Hp} {d : D} {v : V} {k : Key} (e : zgj d = some k) (r : Rep G H d v) : v = kV k := by
  cases d <;> first | (cases e; done) | (cases e; exact r)
noncomputable def zff (ks : List Key) (k : Key) : Bool := ks.any fun j => decide (j = k)
noncomputable def zda {α : Type} (ks : List Key) (xs : List α) (k : Key) (x : α) : List α := if zff ks k = true then List.zipWith (fun j y => if j = k then x else y) ks xs else xs ++ [x]
noncomputable def zex (ks : List Key) (k : Key) : List Key := if zff ks k = true then ks else ks ++ [k]
theorem zs8 {ks : List Key} {k : Key} {v : V} : ∀ {ks : List Key} {vs : List V}, (ks.zip vs).map (fun kv => if kv.1 = k then (kv.1, v) else kv) = ks.zip (List.zipWith (fun j y => if j = k then v else y) ks vs)
  | [], _ => rfl
  | _ :: _, [] => rfl
  | j :: ks, y :: vs => by
    rw [List.zip_cons_cons, List.map_cons, List.zipWith_cons_cons, List.zip_cons_cons, zs8 (ks := ks)]
    by_cases h : j = k
    · subst h; simp
    · simp [h]
theorem ztl {k : Key} : ∀ {ks : List Key} {vs : List V}, ks.length = vs.length -> ((ks.zip vs).any fun kv => decide (kv.1 = k)) = zff ks k
  | [], [], _ => rfl
  | [], _ :: _, h => by cases h
  | _ :: _, [], h => by cases h
  | j :: ks, y :: vs, h => by
    unfold zff
    rw [List.zip_cons_cons, List.any_cons, List.any_cons, ztl (by simpa using h)]
    rfl
theorem z0p {ks : List Key} {vs : List V} {k : Key} {v : V} (h : ks.length = vs.length) : zdk (ks.zip vs) k v = (zex ks k).zip (zda ks vs k v) := by
  unfold zdk zex zda
  rw [ztl h]
  by_cases e : zff ks k = true
  · rw [if_pos e, if_pos e, if_pos e, zs8 (ks := ks)]
  · rw [if_neg e, if_neg e, if_neg e, List.zip_append h]; rfl
theorem zm7 {α : Type} {ks : List Key} {vs : List α} {k : Key} {v : α} (h : ks.length = vs.length) : (zex ks k).length = (zda ks vs k v).length := by
  unfold zex zda
  by_cases e : zff ks k = true
  · rw [if_pos e, if_pos e, List.length_zipWith]; omega
  · rw [if_neg e, if_neg e, List.length_append, List.length_append, h]; rfl
theorem zae.zipW {G : Gc} {H : Hp} {k : Key} {d : D} {v : V} (q : Rep G H d v) : ∀ {ks : List Key} {ds : List D} {vs : List V}, zae G H ds vs -> zae G H (List.zipWith (fun j y => if j = k then d else y) ks ds) (List.zipWith (fun j y => if j = k then v else y) ks vs)
  | [], _, _, _ => .nil
  | _ :: _, [], _, h => by cases (show _ = [] from h); exact .nil
  | j :: ks, x :: ds, _, ⟨u, r, e, h1, h2⟩ => by
    subst e
    rw [List.zipWith_cons_cons, List.zipWith_cons_cons]
    refine .cons ?_ (zae.zipW q h2)
    by_cases e : j = k
    · rw [if_pos e, if_pos e]; exact q
    · rw [if_neg e, if_neg e]; exact h1
theorem zae.put {G : Gc} {H : Hp} {k : Key} {ks : List Key} {d : D} {v : V} {ds : List D} {vs : List V} (r : zae G H ds vs) (q : Rep G H d v) : zae G H (zda ks ds k d) (zda ks vs k v) := by
  unfold zda
  by_cases e : zff ks k = true
  · rw [if_pos e, if_pos e]; exact r.zipW q
  · rw [if_neg e, if_neg e]; exact r.append (.cons q .nil)
noncomputable def zlj (i : Nat) (ρ : List Sl) : Option Fl := some (.nx (ρ.set i (.ownd [] [])))
noncomputable def zio (i : Nat) (fk fv : List Sl -> Option D) (ρ : List Sl) : Option Fl := (fv ρ).bind fun d => (fk ρ).bind fun x => (zgj x).bind fun k => match ρ[i]? with
  | some (.ownd ks xs) => if ks.length < 16777216 then some (.nx (ρ.set i (.ownd (zex ks k) (zda ks xs k d)))) else none
  | _ => none
section
variable {c : Str -> Addr} {X : Cx} {st : Stmt} {e a b i' value : Expr} {pos pos' p' : Pos}
theorem z20 {i : Nat} (hp : PS X st (zf6 zpk (zfv i))) : DS c X st (zlj i) := PS.imp hp fun E σ H q_ => by
  obtain ⟨Hf0, H0, Hf, ρ, o, so, ef, k⟩ := q_
  cases ef
  intro q hq
  have x : Ext Hf H Hf (upd H q (.dK [])) := Ext.tmp so.sub hq
  exact k _ Hf _ x.f (so.setOwn (s := .ownd [] []) rfl x hq (so.sub.free hq) ⟨[], zbe, rfl, .nil⟩)
theorem z2u (i : Nat) {x : Str} (hN : X.N.Nodup) (hi : X.N[i]? = some x := by rfl) (hx : Loc X.env.scope x := by first | exact Or.inl rfl | exact Or.inr rfl) (hs : swapsWith (.Dict [] [] pos) (some (.Name x pos')) p'.line X.env = pure false := by rfl) (hf : X.fn x = true \/ X.env.scope.names.lookup x = some .local := by first | exact .inl rfl | exact .inr rfl) :
    DS c X (.Assign [.Name x pos'] (.Dict [] [] pos) p') (zlj i) := z20 (zl3 hN hi hx z37 hs hf)
theorem z5c {i : Nat} {fk fv : List Sl -> Option D} (hp : PS X st (zr3 (zde i) (tD (Gx c X) fk) (tD (Gx c X) fv))) : DS c X st (zio i fk fv) := PS.imp hp fun E σ H q_ => by
  obtain ⟨Hf0, H0, Hf, ρ, o, so, ef, k⟩ := q_
  unfold zio at ef
  cases e1 : fv ρ with
  | none => rw [e1] at ef; cases ef
  | some d =>
    rw [e1] at ef
    cases e2 : fk ρ with
    | none => rw [e2] at ef; cases ef
    | some x =>
      rw [e2] at ef
      cases e3 : zgj x with
      | none => rw [Option.bind_some, Option.bind_some, e3] at ef; cases ef
      | some ky =>
        rw [Option.bind_some, Option.bind_some, e3] at ef
        replace ef : (match ρ[i]? with | some (.ownd ks xs) => if ks.length < 16777216 then some (Fl.nx (ρ.set i (.ownd (zex ks ky) (zda ks xs ky d)))) else none | _ => none) = some o := ef
        split at ef
        · rename_i ks xs es
          split at ef
          · rename_i hl
            cases ef
            refine ⟨Hf0, H0, Hf, ρ, d, so, e1, fun v Hf1 H1 x1 r1 => ?_⟩
            have so1 := so.step x1
            obtain ⟨l, el, h0, hf, vs, q, z, r⟩ := so1.ownAt rfl es
            refine ⟨_, el, Hf0, H0, Hf1, ρ, x, so1, e2, fun y Hf2 H2 x2 r2 => ?_⟩
            have so2 := so1.step x2
            have q2 := x2.h _ _ q
            have ey := znl e3 r2
            subst ey
            refine ⟨l, _, rfl, zgm.k q2 (by rw [sizeLine_eq, List.length_zip]; omega), ?_⟩
            refine k σ Hf2 _ (x1.f.trans x2.f) (so2.mutd (s := .ownd ks xs) (s' := .ownd (zex ks ky) (zda ks xs ky d)) rfl rfl es el ⟨zda ks vs ky v, ?_, zm7 z, (r.up x2.f).put (r1.up x2.f)⟩)
            rw [zbe, z0p z]
          · cases ef
        · cases ef
theorem zyp (hu : X.A.units + 64 < cLine) {i : Nat} {fk fv : List Sl -> Option D} (ho : PE X e (zde i)) (hk : DE c X i' fk) (hv : DE c X value fv) (hs : swapsWith value (some (.Subscript e i' pos')) pos.line X.env = pure false := by rfl) :
    DS c X (.Assign [.Subscript e i' pos'] value pos) (zio i fk fv) := z5c (z3l (by omega) ho hk hv hs)
end
end L2
namespace L2
open PySem PySem.Spec PyProof.Rows
noncomputable def ze2 (i : Nat) (fk fv : List Sl -> Option D) (ρ : List Sl) : Option Fl := (fv ρ).bind fun d => (fk ρ).bind fun x => match x with
  | .int k => (match ρ[i]? with
    | some (.own xs) => (ixN xs.length k).map fun j => .nx (ρ.set i (.own (xs.set j d)))
    | _ => none)
  | _ => none
section
variable {c : Str -> Addr} {X : Cx} {st : Stmt} {e a b i' value : Expr} {pos pos' : Pos}
theorem zy2 {i : Nat} {fk fv : List Sl -> Option D} (hp : PS X st (zf6 (tD (Gx c X) fv) (zsk (zde i) (tD (Gx c X) fk) zq8))) : DS c X st (ze2 i fk fv) := PS.imp hp fun E σ H q_ => by
  obtain ⟨Hf0, H0, Hf, ρ, o, so, ef, k⟩ := q_
  unfold ze2 at ef
  cases e1 : fv ρ with
  | none => rw [e1] at ef; cases ef
  | some d =>
    rw [e1] at ef
    cases e2 : fk ρ with
    | none => rw [e2] at ef; cases ef
    | some x =>
      rw [e2] at ef
      obtain ⟨ky, rfl⟩ : ∃ ky, x = .int ky := by cases x <;> first | exact ⟨_, rfl⟩ | cases ef
      replace ef : (match ρ[i]? with | some (.own xs) => (ixN xs.length ky).map fun j => Fl.nx (ρ.set i (.own (xs.set j d))) | _ => none) = some o := ef
      split at ef
      · rename_i xs es
        cases ej : ixN xs.length ky with
        | none => rw [ej] at ef; cases ef
        | some j =>
          rw [ej] at ef
          cases ef
          refine ⟨Hf0, H0, Hf, ρ, d, so, e1, fun v Hf1 H1 x1 r1 => ?_⟩
          have so1 := so.step x1
          obtain ⟨l, el, h0, hf, vs, q, r⟩ := so1.ownAt rfl es
          refine ⟨_, el, Hf0, H0, Hf1, ρ, .int ky, so1, e2, fun y Hf2 H2 x2 r2 => ?_⟩
          have so2 := so1.step x2
          have q2 := x2.h _ _ q
          refine ⟨l, vs, ky, j, rfl, r2, q2, by rw [<- r.length]; exact ej, ?_⟩
          exact k σ Hf2 _ (x1.f.trans x2.f) (so2.mutd (s := .own xs) (s' := .own (xs.set j d)) rfl rfl es el ⟨vs.set j v, zbe, (r.up x2.f).set j (r1.up x2.f)⟩)
      · cases ef
theorem zoa {i : Nat} {fk fv : List Sl -> Option D} (ho : PE X e (zde i)) (hk : DE c X i' fk) (hv : DE c X value fv) (hs : swapsWithSole [.Subscript e i' pos'] value pos.line X.env = pure false := by rfl) (hw : swappedStores [.Subscript e i' pos'] value X.env = pure none := by rfl)
    (h1 : (assignEach [.Subscript e i' pos'] X.env).map (·.2) = [assign (.Subscript e i' pos') X.env] := by rfl)
    (ha : ∀ v, assign (.Subscript e i' pos') X.env v = (do
      let ov <- holding [v] (eval e X.env)
      let iv <- holding [v, ov] (eval i' X.env)
      standAt pos'
      holding [v, ov, iv] (setItem ov iv v)
      release [v, ov, iv] []) := by intro _; rfl) :
    DS c X (.Assign [.Subscript e i' pos'] value pos) (ze2 i fk fv) := zy2 (zxa hv (zxb ho hk zud ha) hs hw h1)
end
theorem zmq {G : Gc} {H : Hp} {f : D -> D -> Option Bool} (hf : ∀ (d1 d2 x : D) (b1 b2 : Bool) (v : V), Rep G H d1 v -> Rep G H d2 v -> f d1 x = some b1 -> f d2 x = some b2 -> b1 = b2) :
    ∀ {xs1 xs2 ys : List D} {b1 b2 : Bool} {vs : List V}, zae G H xs1 vs -> zae G H xs2 vs -> zb1 f xs1 ys = some b1 -> zb1 f xs2 ys = some b2 -> b1 = b2
  | [], [], [], _, _, _, _, _, h1, h2 => by cases h1; cases h2; rfl
  | [], [], _ :: _, _, _, _, _, _, h1, h2 => by cases h1; cases h2; rfl
  | [], _ :: _, _, _, _, _, r1, r2, _, _ => by have := r1.length; have := r2.length; simp at *; omega
  | _ :: _, [], _, _, _, _, r1, r2, _, _ => by have := r1.length; have := r2.length; simp at *; omega
  | _ :: _, _ :: _, [], _, _, _, _, _, h1, h2 => by cases h1; cases h2; rfl
  | d1 :: xs1, d2 :: xs2, y :: ys, b1, b2, vs, r1, r2, h1, h2 => by
    obtain ⟨v, r, e, p1, q1⟩ := r1
    obtain ⟨v', r', e', p2, q2⟩ := r2
    subst e
    cases e'
    obtain ⟨a1, a2, e1, e2, rfl⟩ := zkl h1
    obtain ⟨c1, c2, g1, g2, rfl⟩ := zkl h2
    have z1 : a1 = c1 := hf _ _ _ _ _ _ p1 p2 e1 g1
    have z2 : a2 = c2 := zmq (f := f) hf q1 q2 e2 g2
    rw [z1, z2]
noncomputable def vD : V -> D
  | .bl b => .bl b
  | .int i => .int i
  | .str x => .str x
  | _ => .non
theorem zrl {G : Gc} {H : Hp} {d : D} {v : V} (s : d.scalar = true) (r : Rep G H d v) : d = vD v := by
  cases d <;> first | (cases s; done) | (rw [show v = _ from r]; rfl)
theorem zj2 {G : Gc} {H : Hp} {d : D} {a : Addr} (s : d.scalar = true) (r : Rep G H d (.ref a)) : False := by
  cases d <;> first | (cases s; done) | (cases (show _ = _ from r))
theorem zmt {G : Gc} {H : Hp} : ∀ (n : Nat) {d1 d2 x : D} {b1 b2 : Bool} {v : V}, Rep G H d1 v -> Rep G H d2 v -> deq n d1 x = some b1 -> deq n d2 x = some b2 -> b1 = b2
  | 0, _, _, _, _, _, _, _, _, h, _ => by cases h
  | n + 1, d1, d2, x, b1, b2, v, r1, r2, h1, h2 => by
    replace h1 : zge (deq n) d1 x = some b1 := h1
    replace h2 : zge (deq n) d2 x = some b2 := h2
    have L : ∀ {xs ys : List D}, d1 = .lst xs -> d2 = .lst ys -> b1 = b2 := fun {xs ys} e1 e2 => by
      subst e1 e2
      obtain ⟨a, vs, e, q, rs⟩ := r1
      obtain ⟨a', vs', e', q', rs'⟩ := r2
      rw [e] at e'; cases e'
      rw [q] at q'; cases q'
      have l1 := rs.length
      have l2 := rs'.length
      cases x with
      | lst zs =>
        replace h1 : (if xs.length = zs.length then zb1 (deq n) xs zs else some false) = some b1 := h1
        replace h2 : (if ys.length = zs.length then zb1 (deq n) ys zs else some false) = some b2 := h2
        by_cases hl : xs.length = zs.length
        · rw [if_pos hl] at h1
          rw [if_pos (by omega)] at h2
          exact zmq (f := deq n) (fun _ _ _ _ _ _ => zmt n) rs rs' h1 h2
        · rw [if_neg hl] at h1
          rw [if_neg (by omega)] at h2
          cases h1; cases h2; rfl
      | _ => cases h1
    have T : ∀ {xs ys : List D}, d1 = .tup xs -> d2 = .tup ys -> b1 = b2 := fun {xs ys} e1 e2 => by
      subst e1 e2
      obtain ⟨a, vs, e, q, rs⟩ := r1
      obtain ⟨a', vs', e', q', rs'⟩ := r2
      rw [e] at e'; cases e'
      rw [q] at q'; cases q'
      have l1 := rs.length
      have l2 := rs'.length
      cases x with
      | tup zs =>
        replace h1 : (if xs.length = zs.length then zb1 (deq n) xs zs else none) = some b1 := h1
        replace h2 : (if ys.length = zs.length then zb1 (deq n) ys zs else none) = some b2 := h2
        by_cases hl : xs.length = zs.length
        · rw [if_pos hl] at h1
          rw [if_pos (by omega)] at h2
          exact zmq (f := deq n) (fun _ _ _ _ _ _ => zmt n) rs rs' h1 h2
        · rw [if_neg hl] at h1
          cases h1
      | _ => cases h1
    have no : ∀ {d : D} {b : Bool}, zge (deq n) d x = some b -> d.scalar = true \/ (∃ xs, d = .lst xs) \/ ∃ xs, d = .tup xs := fun {d b} h => by
      cases d with
      | lst xs => exact .inr (.inl ⟨xs, rfl⟩)
      | tup xs => exact .inr (.inr ⟨xs, rfl⟩)
      | non => exact .inl rfl
      | bl b => exact .inl rfl
      | int i => exact .inl rfl
      | str i => exact .inl rfl
      | _ => cases x <;> cases h
    rcases no h1 with s1 | ⟨xs, e1⟩ | ⟨xs, e1⟩
    · have : d1 = d2 := by
        rcases no h2 with s2 | ⟨ys, e2⟩ | ⟨ys, e2⟩
        · rw [zrl s1 r1, <- zrl s2 r2]
        · subst e2; obtain ⟨a, _, e, _⟩ := r2; subst e; exact (zj2 s1 r1).elim
        · subst e2; obtain ⟨a, _, e, _⟩ := r2; subst e; exact (zj2 s1 r1).elim
      subst this
      rw [h1] at h2; cases h2; rfl
    · rcases no h2 with s2 | ⟨ys, e2⟩ | ⟨ys, e2⟩
      · subst e1; obtain ⟨a, _, e, _⟩ := r1; subst e; exact (zj2 s2 r2).elim
      · exact L e1 e2
      · subst e1 e2
        obtain ⟨a, vs, e, q, rs⟩ := r1
        obtain ⟨a', vs', e', q', rs'⟩ := r2
        rw [e] at e'; cases e'
        rw [q] at q'; cases q'
    · rcases no h2 with s2 | ⟨ys, e2⟩ | ⟨ys, e2⟩
      · subst e1; obtain ⟨a, _, e, _⟩ := r1; subst e; exact (zj2 s2 r2).elim
      · subst e1 e2
        obtain ⟨a, vs, e, q, rs⟩ := r1
        obtain ⟨a', vs', e', q', rs'⟩ := r2
        rw [e] at e'; cases e'
        rw [q] at q'; cases q'
      · exact T e1 e2
noncomputable def zen (x : D) : List D -> Option Bool
  | [] => some false
  | d :: ds => (deq 19 d x).bind fun b => (zen x ds).map fun r => b || r
noncomputable def zhj (x y : D) : Option D := ((zfe y).bind (zen x)).map .bl
theorem z2w : ∀ x y d, zhj x y = some d -> d.scalar = true := fun _ _ d e => zjq (g := id) d e
theorem z2f {x d : D} {ds : List D} {b : Bool} (h : zen x (d :: ds) = some b) : ∃ b1 b2, deq 19 d x = some b1 /\ zen x ds = some b2 /\ b = (b1 || b2) := by
  unfold zen at h
  cases e1 : deq 19 d x with
  | none => rw [e1] at h; cases h
  | some b1 =>
    cases e2 : zen x ds with
    | none => rw [e1, e2] at h; cases h
    | some b2 => rw [e1, e2] at h; cases h; exact ⟨b1, b2, rfl, rfl, rfl⟩
theorem zn0 {α : Type} {f g : α -> Bool} : ∀ {l : List α}, (∀ x ∈ l, f x = g x) -> l.any f = l.any g
  | [], _ => rfl
  | x :: l, h => by rw [List.any_cons, List.any_cons, h x List.mem_cons_self, zn0 fun y hy => h y (List.mem_cons_of_mem _ hy)]
section
variable {c : Str -> Addr} {X : Cx}
open Classical in
theorem zmd {pins : List (Addr × Obj)} {σ : St} {H : Hp} {s : Shared} {A : Around} {x : D} {vx : V} {u : Value} (I : Inv X pins σ H s) (hu : A.units + 19 < cLine) (rx : Rep (Gx c X) H x vx) (ru : zam vx u) :
    ∀ {ds : List D} {vs : List V} {us : List Value} {b : Bool}, zae (Gx c X) H ds vs -> zaj vs us -> zen x ds = some b ->
      ∃ f : Value -> Bool, (∀ y ∈ us, SeqAt.EqAt A s y u (f y) /\ ∃ d v, Rep (Gx c X) H d v /\ zam v y /\ deq 19 d x = some (f y)) /\ us.any f = b
  | [], _, _, b, r, rv, h => by
    cases (show _ = [] from r)
    cases rv
    cases h
    exact ⟨fun _ => false, (fun y hy => by cases hy), rfl⟩
  | d :: ds, _, _, b, ⟨v, r', ev, r1, r2⟩, rv, h => by
    subst ev
    obtain ⟨b1, b2, h1, h2, rfl⟩ := z2f h
    cases rv with
    | @cons _ y _ us rvy rvs =>
      obtain ⟨f, hf, ha⟩ := zmd I hu rx ru r2 rvs h2
      have eqy : SeqAt.EqAt A s y u b1 := znr I 19 hu h1 r1 rx rvy ru
      refine ⟨fun z => if z = y then b1 else f z, fun z hz => ?_, ?_⟩
      · by_cases e : z = y
        · subst e
          simp only [if_true]
          exact ⟨eqy, d, v, r1, rvy, h1⟩
        · simp only [e, if_false]
          exact hf z ((List.mem_cons.mp hz).resolve_left e)
      · rw [List.any_cons, if_pos rfl, <- ha]
        congr 1
        by_cases hy : y ∈ us
        · obtain ⟨_, d', v', r', rv', h'⟩ := hf y hy
          have ev : v' = v := zam.inj rv' rvy
          subst ev
          have eb : f y = b1 := zmt 19 r' r1 h' h1
          refine zn0 fun z hz => ?_
          by_cases e : z = y
          · subst e; simp [eb]
          · simp [e]
        · refine zn0 fun z hz => ?_
          have e : z ≠ y := fun q => hy (q ▸ hz)
          simp [e]
theorem z42 (hu : X.A.units + 64 < cLine) : OpD c X (compareOp .In) zhj := by
  rintro pins s σ H v u w w' Q I rv ru ⟨Hf, x, y, d, s0, r1, r2, e, k⟩
  unfold zhj at e
  cases h : (zfe y).bind (zen x) with
  | none => rw [h] at e; cases e
  | some b =>
    rw [h] at e
    cases e
    cases es : zfe y with
    | none => rw [es] at h; cases h
    | some ds =>
      rw [es] at h
      obtain ⟨a, vs, e1, q, r⟩ := zli es (r2.up s0)
      subst e1
      cases ru
      have fin : ∃ v' H', Inv X pins σ H' s /\ zam v' (.bool b) /\ Q v' H' := ⟨.bl b, H, I, rfl, k _ Hf H (Ext.refl s0) rfl⟩
      rcases q with q | q
      · obtain ⟨its, rr, pl, hz⟩ := I.list q
        obtain ⟨f, hf, ha⟩ := zmd (A := X.A.in1) I (by rw [Around.in1_units]; omega) (r1.up s0) rv r rr h
        refine SeqAt.in_listAt f pl.isList (fun z hz => (hf z (by simpa using hz)).1) ?_
        rw [show its.toArray.any f = its.any f by simp, ha]
        exact fin
      · obtain ⟨its, rr, pl, hz⟩ := I.tuple q
        obtain ⟨f, hf, ha⟩ := zmd (A := X.A.in1) I (by rw [Around.in1_units]; omega) (r1.up s0) rv r rr h
        refine SeqAt.in_tupleAt f pl (fun z hz => (hf z (by simpa using hz)).1) ?_
        rw [show its.toArray.any f = its.any f by simp, ha]
        exact fin
end
end L2
namespace L2
open PySem PySem.Spec PyProof.Rows
noncomputable def Ris (xs : Array Nat) : Prop := xs.toList.Pairwise (· < ·)
theorem ztb {xs : Array Nat} (h : Ris xs) {a b j : Nat} (hab : a < b) (hb : b < xs.size) : xs.getD a j < xs.getD b j := by
  have h1 := List.pairwise_iff_getElem.mp h a b (by simpa using Nat.lt_trans hab hb) (by simpa using hb) hab
  rw [Array.getD, Array.getD, dif_pos (Nat.lt_trans hab hb), dif_pos hb]
  simpa using h1
theorem zm5 {xs : Array Nat} (h : Ris xs) {a b j : Nat} (hab : a <= b) (hb : b < xs.size) : xs.getD a j <= xs.getD b j := by
  rcases Nat.eq_or_lt_of_le hab with e | e
  · subst e; exact Nat.le_refl _
  · exact Nat.le_of_lt (ztb h e hb)
theorem zn1 {xs : Array Nat} {j : Nat} (h : Ris xs) : ∀ (fuel lo hi : Nat), lo <= hi -> hi <= xs.size -> hi - lo <= fuel -> (∀ i, i < lo -> xs.getD i j < j) -> (∀ i, hi <= i -> i < xs.size -> ¬ xs.getD i j < j) ->
    SetTable.below.go xs j fuel lo hi <= xs.size /\ (∀ i, i < SetTable.below.go xs j fuel lo hi -> xs.getD i j < j) /\ ∀ i, SetTable.below.go xs j fuel lo hi <= i -> i < xs.size -> ¬ xs.getD i j < j
  | 0, lo, hi, h1, h2, h3, h4, h5 => by
    have e : lo = hi := by omega
    subst e
    exact ⟨h2, h4, h5⟩
  | fuel + 1, lo, hi, h1, h2, h3, h4, h5 => by
    unfold SetTable.below.go
    by_cases hl : lo < hi
    · rw [if_pos hl]
      by_cases hm : xs.getD ((lo + hi) / 2) j < j
      · simp only [hm, if_true]
        refine zn1 h fuel ((lo + hi) / 2 + 1) hi (by omega) h2 (by omega) (fun i hi' => ?_) h5
        exact Nat.lt_of_le_of_lt (zm5 h (by omega) (by omega)) hm
      · simp only [hm, if_false]
        refine zn1 h fuel lo ((lo + hi) / 2) (by omega) (by omega) (by omega) h4 fun i hi' hs hc => ?_
        exact hm (Nat.lt_of_le_of_lt (zm5 h hi' hs) hc)
    · rw [if_neg hl]
      have e : lo = hi := by omega
      subst e
      exact ⟨h2, h4, h5⟩
theorem znb {xs : Array Nat} (h : Ris xs) (j : Nat) : SetTable.below xs j <= xs.size /\ (∀ i, i < SetTable.below xs j -> xs.getD i j < j) /\ ∀ i, SetTable.below xs j <= i -> i < xs.size -> ¬ xs.getD i j < j :=
  zn1 h xs.size 0 xs.size (Nat.zero_le _) (Nat.le_refl _) (by omega) (fun i hi => by omega) fun i hi hs => by omega
theorem z3c {xs : Array Nat} (h : Ris xs) {i : Nat} (hi : i < xs.size) : SetTable.below xs (xs[i] + 1) = i + 1 := by
  obtain ⟨h1, h2, h3⟩ := znb h (xs[i] + 1)
  have e : xs.getD i (xs[i] + 1) = xs[i] := by rw [Array.getD, dif_pos hi]; rfl
  by_cases hlt : SetTable.below xs (xs[i] + 1) <= i
  · exact absurd (by rw [e]; omega) (h3 i hlt hi)
  · by_cases hgt : i + 1 < SetTable.below xs (xs[i] + 1)
    · have a := h2 (i + 1) hgt
      have b := ztb h (j := xs[i] + 1) (show i < i + 1 by omega) (by omega)
      rw [e] at b
      omega
    · omega
theorem z4c {xs : Array Nat} (h : Ris xs) : SetTable.below xs 0 = 0 := by
  obtain ⟨h1, h2, h3⟩ := znb h 0
  by_cases e : 0 < SetTable.below xs 0
  · have := h2 0 e; omega
  · omega
theorem zz3 {xs : Array Nat} (h : Ris xs) {j : Nat} (hn : xs[SetTable.below xs j]? ≠ some j) : Ris (SetTable.insertAt xs (SetTable.below xs j) j) := by
  obtain ⟨h1, h2, h3⟩ := znb h j
  unfold Ris SetTable.insertAt
  have g : ∀ i, (hi : i < xs.size) -> xs.getD i j = xs[i] := fun i hi => by rw [Array.getD, dif_pos hi]; rfl
  rw [Array.toList_append, Array.toList_push, Array.toList_extract, Array.toList_extract]
  simp only [List.extract_eq_drop_take, Nat.sub_zero, List.drop_zero]
  have hlt : ∀ x ∈ xs.toList.take (SetTable.below xs j), x < j := fun x hx => by
    obtain ⟨i, hi, e⟩ := List.mem_take_iff_getElem.mp hx
    have hi' : i < SetTable.below xs j := by omega
    have := h2 i hi'
    rw [g i (by omega)] at this
    rw [<- e]
    simpa using this
  have hgt : ∀ x ∈ xs.toList.drop (SetTable.below xs j), j < x := fun x hx => by
    obtain ⟨i, hi, e⟩ := List.mem_drop_iff_getElem.mp hx
    have hs : SetTable.below xs j + i < xs.size := by simpa [Nat.add_comm] using hi
    have a := h3 (SetTable.below xs j + i) (by omega) hs
    rw [g _ hs] at a
    have ex : x = xs[SetTable.below xs j + i] := by rw [<- e]; simp
    rw [ex]
    rcases Nat.lt_or_ge j xs[SetTable.below xs j + i] with q | q
    · exact q
    · exfalso
      have ej : xs[SetTable.below xs j + i] = j := by omega
      have hb : SetTable.below xs j < xs.size := by omega
      have b := zm5 h (j := j) (show SetTable.below xs j <= SetTable.below xs j + i by omega) hs
      rw [g _ hs, g _ hb, ej] at b
      have c := h3 (SetTable.below xs j) (Nat.le_refl _) hb
      rw [g _ hb] at c
      exact hn (by rw [Array.getElem?_eq_getElem hb]; congr 1; omega)
  have ed : List.take (xs.size - SetTable.below xs j) (List.drop (SetTable.below xs j) xs.toList) = List.drop (SetTable.below xs j) xs.toList := List.take_of_length_le (by simp)
  rw [ed]
  refine List.pairwise_append.mpr ⟨List.pairwise_append.mpr ⟨List.Pairwise.sublist (List.take_sublist _ _) h, by simp, fun a ha b hb => ?_⟩, List.Pairwise.sublist (List.drop_sublist _ _) h, fun a ha b hb => ?_⟩
  · have : b = j := by simpa using hb
    subst this; exact hlt a ha
  · rcases List.mem_append.mp ha with ha | ha
    · exact Nat.lt_trans (hlt a ha) (hgt b hb)
    · have : a = j := by simpa using ha
      subst this; exact hgt b hb
theorem zv7 (n : Nat) : Ris (Array.range n) := by
  unfold Ris
  rw [Array.toList_range]
  exact List.pairwise_lt_range
theorem zpo {t : SetTable} {j : Nat} (h : t.slot j = .empty \/ t.slot j = .dummy) : t.place[SetTable.below t.place j]? ≠ some j := fun e => by
  have : t.slot j = .live (SetTable.below t.place j) := by
    unfold SetTable.slot
    simp only [e, beq_self_eq_true, if_true]
  rw [this] at h
  rcases h with h | h <;> cases h
theorem zmj {t : SetTable} {h : Int} : ∀ (fuel : Nat) (p : SetTable.Probe) {j : Nat} {d : Option Nat}, (∀ d', p.dummy = some d' -> t.place[SetTable.below t.place d']? ≠ some d') -> SetTable.probe.go t (fun _ => h + 1) h fuel p = some (.empty j d) ->
    t.place[SetTable.below t.place j]? ≠ some j /\ ∀ d', d = some d' -> t.place[SetTable.below t.place d']? ≠ some d'
  | 0, _, _, _, _, e => by cases e
  | fuel + 1, p, j, d, hd, e => by
    unfold SetTable.probe.go at e
    split at e
    · rename_i hs
      cases e
      exact ⟨zpo (.inl hs), hd⟩
    · rename_i hs
      refine zmj fuel _ (fun d' q => ?_) e
      have : d' = p.j := by
        unfold SetTable.advance at q
        split at q
        · exact (Option.some.inj q).symm
        · exact (Option.some.inj q).symm
      subst this
      exact zpo (.inr hs)
    · rename_i i hs
      split at e
      · cases e
      · refine zmj fuel _ (fun d' q => hd d' ?_) e
        unfold SetTable.advance at q
        split at q <;> exact q
theorem z4w {t : SetTable} {h : Int} {j : Nat} {w : Bool} (e : t.freeSlot h = some (j, w)) : t.place[SetTable.below t.place j]? ≠ some j := by
  unfold SetTable.freeSlot at e
  split at e
  · rename_i j' d hp
    obtain ⟨h1, h2⟩ := zmj _ _ (fun d' q => by cases q) hp
    cases d with
    | none => cases e; exact h1
    | some d' => cases e; exact h2 _ rfl
  · cases e
theorem zld (t : SetTable) (n : Nat) : Ris (t.standIn n).place /\ (t.standIn n).led = t.led := ⟨zv7 n, rfl⟩
theorem zt5 {t : SetTable} (n : Nat) (h : Ris t.place) : Ris (t.orStandIn n).place /\ (t.orStandIn n).led = t.led := by
  unfold SetTable.orStandIn
  split
  · exact ⟨h, rfl⟩
  · exact zld t n
theorem zt8 {t : SetTable} (es : Array (Int × Value)) (h : Int) (x : Value) (hr : Ris t.place) : Ris (layNew t es h x).2.1.place /\ (layNew t es h x).2.1.led = t.led := by
  unfold layNew
  split
  · rename_i slot wd hf
    exact zt5 (t := (t.put slot).1) _ (zz3 hr (z4w hf))
  · exact zld t _
theorem z0u {mask finger moves : Nat} {led plain : Bool} {hashes : Array Int} {t' : SetTable} {order : Array Nat} (e : SetTable.laid mask finger moves led plain hashes = some (t', order)) : Ris t'.place /\ t'.led = led := by
  unfold SetTable.laid at e
  cases ho : SetTable.layClean mask hashes with
  | none => rw [ho] at e; cases e
  | some owner =>
    rw [ho] at e
    cases e
    refine ⟨?_, rfl⟩
    unfold Ris
    show List.Pairwise _ (List.map _ _)
    rw [List.pairwise_map, List.pairwise_filterMap]
    refine List.Pairwise.imp (fun {a b} hab => ?_) List.pairwise_lt_range
    intro p hp q hq
    cases ha : owner.getD a none with
    | none => rw [ha] at hp; cases hp
    | some ka =>
      cases hb : owner.getD b none with
      | none => rw [hb] at hq; cases hq
      | some kb => rw [ha] at hp; rw [hb] at hq; cases hp; cases hq; exact hab
theorem zwv {t : SetTable} (es : Array (Int × Value)) (wanted : Nat) : Ris (relayAll t es wanted).2.1.place /\ (relayAll t es wanted).2.1.led = t.led := by
  unfold relayAll
  split
  · rename_i t' order hl
    have hr : Ris t'.place /\ t'.led = t.led := z0u hl
    dsimp only
    split
    · exact hr
    · exact zld t _
  · exact zld t _
end L2
namespace L2
open PySem PySem.Spec PyProof.Rows
noncomputable def zcg (P : Program) (w : World) (h : Heap) (a : Addr) (led : Bool) (S : Int -> Bool) (n : Nat) : Prop :=
  ∃ o ents ep tb, h.get? a = some o /\ o.ExactSet /\ o.data = .set ents ep tb /\ ElemsOf (intKind P w) ents.toList /\ (∀ k, S k = true ↔ ∃ e ∈ ents.toList, (intKind P w).is k e.2 = true)
    /\ ents.size < scanBound /\ tb.fits ents.size = true /\ ents.size = n /\ Ris tb.place /\ tb.led = led
section
variable {P : Program} {w : World} {A : Around} {E : Value -> Shared -> Prop} {s : Shared}
theorem zcg.stay {h h' : Heap} {a : Addr} {led : Bool} {S : Int -> Bool} {n : Nat} (q : zcg P w h a led S n) (k : ∀ o, h.get? a = some o -> h'.get? a = some o) : zcg P w h' a led S n := by
  obtain ⟨o, ents, ep, tb, ho, r⟩ := q
  exact ⟨o, ents, ep, tb, k o ho, r⟩
theorem zcg.congr {h : Heap} {a : Addr} {led : Bool} {S S' : Int -> Bool} {n n' : Nat} (q : zcg P w h a led S n) (e : ∀ k, S k = S' k) (en : n = n') : zcg P w h a led S' n' := by
  have : S = S' := funext e
  subst this en
  exact q
theorem zo4 {h : Heap} {a : Addr} {o : Obj} {ents ents' : Array (Int × Value)} {ep : Nat} {tb tb' : SetTable} {led : Bool} {S : Int -> Bool} (ho : h.get? a = some o) (hex : o.ExactSet) (hd : o.data = .set ents ep tb)
    (hel : ElemsOf (intKind P w) ents'.toList) (hm : ∀ k, S k = true ↔ ∃ e ∈ ents'.toList, (intKind P w).is k e.2 = true) (hb : ents'.size < scanBound) (hf : tb'.fits ents'.size = true) (hr : Ris tb'.place) (hled : tb'.led = led) :
    (h.update a (Obj.putSet ents' tb')).get? a = some { o with data := .set ents' (ep + 1) tb' } /\ zcg P w (h.update a (Obj.putSet ents' tb')) a led S ents'.size := by
  have g1 := (SetOf_store (knd := intKind P w) ho hex hd hel hm hb hf).1
  exact ⟨g1, _, ents', ep + 1, tb', g1, hex, rfl, hel, hm, hb, hf, rfl, hr, hled⟩
theorem ztd {g : Bool -> Sem Unit} (hg : ∀ (b : Bool) (s₁ : Shared) (Q' : Unit -> Shared -> Prop), Q' () s₁ -> wpAny (model P w) A (g b) Q' E s₁) {a : Addr} {o : Obj} {ents ents1 : Array (Int × Value)} {ep : Nat} {tb tb1 : SetTable} {led : Bool} {S : Int -> Bool}
    (ho : s.heap.get? a = some o) (hex : o.ExactSet) (hd : o.data = .set ents ep tb) (hel : ElemsOf (intKind P w) ents1.toList) (hm : ∀ k, S k = true ↔ ∃ e ∈ ents1.toList, (intKind P w).is k e.2 = true)
    (hb : ents1.size < scanBound) (hf : tb1.fits ents1.size = true) (hr : Ris tb1.place) (hled : tb1.led = led) {dm : Bool} {R : Option Bool -> Shared -> Prop}
    (h : ∀ h', Heap.SameBut a s.heap h' -> zcg P w h' a led S ents1.size -> R (some true) { s with heap := h' }) :
    wpAny (model P w) A (do
        storeSet a ents1 tb1
        if (!dm && tb1.tooFull) = true then do
            g (relayAll tb1 ents1 (SetTable.grown ents1.size)).2.2
            storeSet a (relayAll tb1 ents1 (SetTable.grown ents1.size)).1 (relayAll tb1 ents1 (SetTable.grown ents1.size)).2.1
            pure (some true)
          else pure (some true)) R E s := by
  refine wpAny_bind (wpAny_storeSet_of ho hd ?_ (fits_of_scanBound hb))
  obtain ⟨ho1, q1⟩ := zo4 (P := P) (w := w) ho hex hd hel hm hb hf hr hled
  have sb := Heap.SameBut.update s.heap a (Obj.putSet ents1 tb1)
  split
  · have pp := relayAll_perm tb1 ents1 (SetTable.grown ents1.size)
    have ff := relayAll_fits tb1 ents1 (SetTable.grown ents1.size)
    have rr := zwv (t := tb1) ents1 (SetTable.grown ents1.size)
    generalize relayAll tb1 ents1 (SetTable.grown ents1.size) = z at pp ff rr ⊢
    obtain ⟨ents2, tb2, gv⟩ := z
    dsimp only at pp ff rr ⊢
    have zz : ents2.size = ents1.size := by rw [<- Array.length_toList, pp.length_eq, Array.length_toList]
    refine wpAny_bind (hg _ _ _ (wpAny_bind (wpAny_storeSet_of ho1 rfl ?_ (fits_of_scanBound (by rw [zz]; exact hb)))))
    have q2 := (zo4 (P := P) (w := w) (led := led) (S := S) ho1 hex rfl (hel.perm pp) (fun k => (hm k).trans ⟨fun ⟨e, he, q⟩ => ⟨e, pp.mem_iff.mpr he, q⟩, fun ⟨e, he, q⟩ => ⟨e, pp.mem_iff.mp he, q⟩⟩) (by rw [zz]; exact hb) ff rr.1 (rr.2.trans hled)).2
    rw [zz] at q2
    exact wpAny_pure (h _ (sb.trans (Heap.SameBut.update _ a _)) q2)
  · exact wpAny_pure (h _ sb q1)
theorem zv6 {a : Addr} {led : Bool} {S : Int -> Bool} {n : Nat} {k : Int} {x : Value} {Q : Bool -> Shared -> Prop} (hk : (intKind P w).is k x = true) (hx : x.scannable = true) (q : zcg P w s.heap a led S n) (room : n + 1 < scanBound)
    (h : ∀ h', Heap.SameBut a s.heap h' -> zcg P w h' a led (fun k' => S k' || decide (k' = k)) (if S k then n else n + 1) -> Q (!S k) { s with heap := h' }) : wpAny (model P w) A (setAddHashed a x ((intKind P w).hash k)) Q E s := by
  obtain ⟨o, ents, ep, tb, ho, hex, hd, hel, hm, hb, hf, hn, hr, hled⟩ := q
  unfold setAddHashed setAddHashedIn
  refine wpAny_holding (wpAny_bind (wpAny_setState_of ho hd hf ?_))
  dsimp only
  rw [byScan_of hx hb hel, if_pos rfl]
  unfold setAddByScan
  refine wpAny_bind (wpAny_bind (wpAny_rule (wpAny_bind (wpAny_setScan_of hk ho hd hf hel ?_))))
  cases hi : List.findIdx? (fun e => (intKind P w).is k e.2) ents.toList with
  | some j =>
    dsimp only
    obtain ⟨hj, pj, _⟩ := List.findIdx?_eq_some_iff_getElem.mp hi
    have sk : S k = true := (hm k).mpr ⟨ents.toList[j], List.getElem_mem hj, pj⟩
    refine wpAny_pure (wpAny_pure ?_)
    have es : s = { s with heap := s.heap } := by cases s; rfl
    have fin := h s.heap (Heap.SameBut.refl a s.heap) ⟨o, ents, ep, tb, ho, hex, hd, hel, fun k' => by
      rw [Bool.or_eq_true, decide_eq_true_eq, <- hm k']
      exact ⟨fun z => z.elim id (fun e => e ▸ sk), .inl⟩, hb, hf, by rw [sk]; exact hn, hr, hled⟩
    rw [sk] at fin
    rw [es]
    exact fin
  | none =>
    dsimp only
    have sk : S k = false := by
      cases hs : S k with
      | false => rfl
      | true =>
        obtain ⟨e, he, pe⟩ := (hm k).mp hs
        have := List.findIdx?_eq_none_iff.mp hi e he
        rw [pe] at this
        cases this
    have gw : ∀ (b : Bool) (s₁ : Shared) (Q' : Unit -> Shared -> Prop), Q' () s₁ -> wpAny (model P w) A (match b with | true => rule "set.scan.the-table-gave-way" | false => pure ()) Q' E s₁ :=
      fun b s₁ Q' hq => by cases b <;> first | exact wpAny_pure hq | exact wpAny_rule hq
    have pp := layNew_perm tb ents ((intKind P w).hash k) x
    have ff := layNew_fits tb ents ((intKind P w).hash k) x
    have rr := zt8 ents ((intKind P w).hash k) x hr
    generalize layNew tb ents ((intKind P w).hash k) x = z at pp ff rr ⊢
    obtain ⟨ents1, tb1, dm, gv⟩ := z
    dsimp only at pp ff rr ⊢
    rw [Array.toList_push] at pp
    have z1 : ents1.size = n + 1 := by rw [<- Array.length_toList, pp.length_eq, List.length_append, Array.length_toList, hn]; rfl
    have fin : ∀ h', Heap.SameBut a s.heap h' -> zcg P w h' a led (fun k' => S k' || decide (k' = k)) ents1.size -> Q true { s with heap := h' } := fun h' sb q' => by
      have := h h' sb
      rw [sk] at this
      rw [z1] at q'
      exact this q'
    refine wpAny_bind (gw _ _ _ ?_)
    split
    · refine wpAny_bind ?_
      rw [hashByValue_scannable 8 hx]
      refine wpAny_pure (ztd (led := led) (S := fun k' => S k' || decide (k' = k)) ?_ ho hex hd ((hel.push hk hx).perm pp) (mem_push_iff hk hm pp) (by rw [z1]; exact room) ?_ ?_ ?_ fun h' sb q' => ?_)
      · exact fun b s₁ Q' hq => by cases b <;> first | exact wpAny_pure hq | exact wpAny_rule hq
      · split
        · exact ff
        · exact SetTable.fits_plain_off ff
      · split
        · exact rr.1
        · exact rr.1
      · split
        · exact rr.2.trans hled
        · exact rr.2.trans hled
      · dsimp only
        exact wpAny_pure (fin h' sb q')
    · refine wpAny_bind (wpAny_pure ?_)
      simp only [↓reduceIte]
      refine ztd (led := led) (S := fun k' => S k' || decide (k' = k)) ?_ ho hex hd ((hel.push hk hx).perm pp) (mem_push_iff hk hm pp) (by rw [z1]; exact room) ff rr.1 (rr.2.trans hled) fun h' sb q' => ?_
      · exact fun b s₁ Q' hq => by cases b <;> first | exact wpAny_pure hq | exact wpAny_rule hq
      · dsimp only
        exact wpAny_pure (fin h' sb q')
end
end L2
namespace L2
open PySem PySem.Spec PyProof.Rows
set_option maxRecDepth 100000
noncomputable def zcn (w : World) : Bool := !(w.params.followText "set-order")
section
variable {P : Program} {w : World} {A : Around} {R : Result -> Shared -> Prop} {I : Addr} {fp wr : List Addr} {G : Array GenState -> Array GenState -> Prop} {n : Nat} {Pv : Nat -> Value -> Prop} {St : Nat -> Shared -> Prop}
theorem zvx (W : WalksS P w A.in1 I fp wr G n Pv St) (S : Addr) (hS : S ∉ fp) {led : Bool} (val : Nat -> Int) (hv : ∀ i v, Pv i v -> ∃ t, v = .int (val i) t) (hb : n + 1 < scanBound) :
    ∀ (k i : Nat) (s : Shared), n - i = k -> i <= n -> St i s -> zcg P w s.heap S led (fun j => (firstMet val i).any (· == j)) (firstMet val i).length ->
      (∀ s', Moved (S :: wr) G s s' -> zcg P w s'.heap S led (fun j => (firstMet val n).any (· == j)) (firstMet val n).length -> R (.ok (.ret .none)) s') ->
      codeAny (model P w) A (.builtin "set.update.loop" ⟨[.ref S, .ref I], []⟩) R s := by
  have hw : S ∉ wr := fun h => hS (W.sub _ h)
  have sub : ∀ b ∈ wr, b ∈ S :: wr := fun b h => List.mem_cons_of_mem _ h
  intro k
  induction k with
  | zero =>
    intro i s hk hi st q fin
    obtain rfl : i = n := by omega
    refine codeAny_builtin F.entry_set_update_loop ?_
    rw [Around.under_plainId F.plain_set_update_loop _]
    show wpAny _ A.in1 (pyNext (.ref I) >>= _) _ _ s
    refine wpAny_bind (W.done s _ _ st fun s' m => ?_)
    show wpAny _ A.in1 (ret Value.none) _ _ s'
    exact wpAny_pure (fin s' (m.mono sub) (q.stay fun o e => m.heap S o hw e))
  | succ k ih =>
    intro i s hk hi st q fin
    have lt : i < n := by omega
    refine codeAny_builtin F.entry_set_update_loop ?_
    rw [Around.under_plainId F.plain_set_update_loop _]
    show wpAny _ A.in1 (pyNext (.ref I) >>= _) _ _ s
    refine wpAny_bind (W.item i s _ _ lt st fun v s' hP st' m => ?_)
    obtain ⟨t, rfl⟩ := hv i v hP
    have q1 := q.stay fun o e => m.heap S o hw e
    show wpAny _ A.in1 (holding [Value.int (val i) t] (setAdd S (.int (val i) t)) >>= _) _ _ s'
    refine wpAny_bind (wpAny_holding ?_)
    unfold setAdd
    refine wpAny_holding (wpAny_bind ((intKind P w).pyHash (k := val i) (intKind_is _ _ _ _) ?_))
    have room : (firstMet val i).length + 1 < scanBound := by have := firstMet_length_le val i; omega
    refine zv6 (s := { s' with toks := s'.toks + 1 }) (k := val i) (intKind_is _ _ _ _) rfl q1 room fun h' sb q2 => ?_
    have q3 : zcg P w h' S led (fun j => (firstMet val (i + 1)).any (· == j)) (firstMet val (i + 1)).length := q2.congr (fun j => by rw [firstMet_succ, step_any]) (by rw [firstMet_succ, step_length])
    refine wpAny_pure ⟨plainId_quiet F.plain_set_update_loop _, ih (i + 1) _ (by omega) lt (W.frame _ s' _ _ st' (Nat.le_succ _) fun b hb' o e => ?_) q3 fun s2 m2 q4 => ?_⟩
    · rw [sb.2 b fun h => hS (by rw [<- h]; exact hb')]; exact e
    · refine fin s2 (Moved.trans W.gtrans ((m.mono sub).then_heap (Nat.le_succ _) fun b o hb' e => ?_) m2) q4
      rw [sb.2 b fun h => hb' (by rw [h]; exact List.mem_cons_self)]; exact e
end
section
variable {P : Program} {w : World} {A : Around} {E : Value -> Shared -> Prop} {s : Shared}
noncomputable abbrev zed (led : Bool) : Obj := { cls := .type "set", dict := none, data := .set #[] 0 (.fresh 0 0 led) }
theorem zv2 (a : Value) {Q : Value -> Shared -> Prop} (h : Q (.ref s.heap.objs.size) { s with heap := s.heap.push (zed (zcn w)) }) :
    codeAny (model P w) A (.call (.builtin "set.__new__") ⟨[.type "set", a], []⟩) (wants Q E) s := by
  refine codeAny_of_tree ?_
  show wpAny _ A.in1 (do checkBuiltinCall "set.__new__" ⟨[.type "set", a], []⟩; again (.builtin "set.__new__" ⟨[.type "set", a], []⟩)) _ _ s
  refine wpAny_bind (wpAny_of_eq (F.newCall_set_1 a) (wpAny_pure ⟨plainId_quiet F.plain_set_new _, codeAny_builtin F.entry_set_new ?_⟩))
  rw [Around.under_plainId F.plain_set_new _]
  unfold Builtin.«set.__new__» Builtin.Frozenset.newClass
  have hsub := sub_set_self
  obtain ⟨hp, g, d, tk, os⟩ := s
  dsimp only
  wp_walk
  refine wpAny_askSetting (wpAny_pure ?_)
  dsimp only
  simp only [newObj]
  refine wpAny_bind (wpAny_alloc (wpAny_pure ?_))
  exact wpAny_pure h
theorem z5n (h : Heap) (led : Bool) : zcg P w (h.push (zed led)) h.objs.size led (fun _ => false) 0 :=
  ⟨_, #[], 0, _, Heap.get?_push_size _ rfl, ⟨rfl, rfl, rfl⟩, rfl, fun e he => by simp at he, fun k => by simp, by decide, rfl, rfl, by unfold Ris; simp [SetTable.fresh], rfl⟩
end
end L2
namespace L2
open PySem PySem.Spec PyProof.Rows
set_option maxRecDepth 100000
section
variable {P : Program} {w : World} {A : Around} {E : Value -> Shared -> Prop} {s : Shared}
set_option maxHeartbeats 8000000 in
theorem z3k {l : Addr} {items : Array Value} {ns : List Int} {Q : Value -> Shared -> Prop} (hh : A.handled = none) (hl : s.heap.IsList l items) (hi : IntsAre items.toList ns) (hb : items.size + 1 < scanBound)
    (h : ∀ (h' : Heap) (tk : Nat), zcg P w h' s.heap.objs.size (zcn w) (fun j => (firstMet (fun i => ns.getD i 0) items.size).any (· == j)) (firstMet (fun i => ns.getD i 0) items.size).length ->
      (∀ b o, b < s.heap.objs.size -> s.heap.get? b = some o -> h'.get? b = some o) -> s.toks <= tk -> Q (.ref s.heap.objs.size) { s with heap := h', toks := tk }) :
    wpAny (model P w) A (call (.type "set") [.ref l]) Q E s := by
  obtain ⟨c, tl, hmro⟩ := F.called_set.mro
  have hmade := F.called_set.made
  have hsub := F.called_set.sub
  refine wpAny_call (codeAny_of_tree ?_)
  show wpAny _ _ (callAny (.type "set") _) _ _ _
  refine wpAny_pure ⟨Code.quiet_builtin _ (by decide +kernel), codeAny_builtin F.entry_type_call ?_⟩
  rw [Around.under_plain (weight_type_call_type "set" [.ref l] []) rfl]
  have h1 := F.called_set.notType
  have h2 := F.called_set.canCreate
  have hct := F.typeCall_set_1 (.ref l)
  repeat (any_goals (first | assumption | wp_step))
  refine codeAny_mono (zv2 (.ref l) (E := E) (Q := fun ob s₁ => ob = .ref s.heap.objs.size /\ s₁ = { s with heap := s.heap.push (zed (zcn w)) }) ⟨rfl, rfl⟩) fun r s₁ hr => ?_
  cases r with
  | error e => exact hr
  | ok fl =>
    cases fl with
    | ret ob =>
      obtain ⟨rfl, rfl⟩ := hr
      have g0 : (s.heap.push (zed (zcn w))).get? s.heap.objs.size = some (zed (zcn w)) := Heap.get?_push_size _ rfl
      have hT : Shared.TypeIs { s with heap := s.heap.push (zed (zcn w)) } (.ref s.heap.objs.size) "set" := ⟨_, g0, rfl⟩
      have hli := F.called_set.init.lookup
      have hbi := F.called_set.init.bind (.ref s.heap.objs.size)
      repeat (any_goals (first | assumption | wp_step))
      refine codeAny_mono (codeAny_call_builtin (R := wants (fun r s₂ => r = .none /\ ∃ h' tk, s₂ = { s with heap := h', toks := tk } /\ s.toks <= tk /\
          zcg P w h' s.heap.objs.size (zcn w) (fun j => (firstMet (fun i => ns.getD i 0) items.size).any (· == j)) (firstMet (fun i => ns.getD i 0) items.size).length /\
          (∀ b o, b < s.heap.objs.size -> s.heap.get? b = some o -> h'.get? b = some o)) E) F.called_set.init.plain F.entry_set_init (check_set_init_1 hT ?_)) fun r₂ s₂ hr₂ => ?_
      · obtain ⟨⟨oc, od, odt, os⟩, hol, hcl, nl, hdl⟩ := hl
        simp only at hcl hdl
        subst hcl hdl
        have hol' : (s.heap.push (zed (zcn w))).get? l = some { cls := .type "list", dict := od, data := .seq items nl, slots := os } := Heap.get?_push_of_some _ hol
        have k1 := F.sub_list_set
        have k2 := F.sub_list_frozenset
        have k3 : (Value.type "list" == Value.type "dict") = false := by decide
        have hl1 : (s.heap.push (zed (zcn w))).IsList l items := ⟨_, hol', rfl, nl, rfl⟩
        unfold Builtin.«set.__init__» noKeywords Builtin.Frozenset.updateFrom
        generalize hPI : pyIter = PI
        wp_walk
        subst hPI
        refine wpAny_pyIter_list hl1 (wpAny_bind (wpAny_runValue ?_))
        have lt : l < s.heap.objs.size := Heap.lt_size hol
        have hh3 : A.in1.in1.in1.handled = none := by simp [hh]
        have ne1 : l ≠ (s.heap.push (zed (zcn w))).objs.size := by rw [Heap.size_push]; exact Nat.ne_of_lt (Nat.lt_succ_of_lt lt)
        have nin : s.heap.objs.size ∉ [(s.heap.push (zed (zcn w))).objs.size, l] := by
          rw [Heap.size_push]
          simp only [List.mem_cons, List.not_mem_nil, or_false, not_or]
          exact ⟨Nat.ne_of_lt (Nat.lt_succ_self _), Nat.ne_of_gt lt⟩
        have hv : ∀ (i : Nat) (v : Value), items[i]? = some v -> ∃ t, v = .int ((fun i => ns.getD i 0) i) t := fun i v hv => IntsAre.int_at hi i v (by rw [Array.getElem?_toList]; exact hv)
        refine zvx (led := zcn w) ((Walks.list hh3 _ l ne1 items).toS) s.heap.objs.size nin (fun i => ns.getD i 0) hv hb (items.size - 0) 0 _ (by omega) (Nat.zero_le _) ⟨⟨_, Heap.get?_push_size _ rfl, rfl, rfl⟩, (hl1.push _)⟩ ?hS0 ?hR
        case hS0 => exact ((z5n (P := P) (w := w) s.heap (zcn w)).stay fun o e => Heap.get?_push_of_some _ e).congr (fun _ => rfl) rfl
        case hR =>
          intro s' hm hS'
          obtain ⟨h', g', d', tk', os'⟩ := s'
          have eg : g' = s.gens := hm.gens
          have ed : d' = s.drawn := hm.drawn
          have eo : os' = s.os := hm.os
          subst eg ed eo
          show wpAny _ _ _ _ _ _
          refine wpAny_pure ?_
          show wpAny _ _ (ret Value.none) _ _ _
          refine wpAny_pure ⟨rfl, h', tk', rfl, hm.toks, hS', fun b o hb' e => ?_⟩
          have n2 : b ≠ (s.heap.push (zed (zcn w))).objs.size := by rw [Heap.size_push]; exact Nat.ne_of_lt (Nat.lt_succ_of_lt hb')
          refine hm.heap b o ?_ (Heap.get?_push_of_some _ (Heap.get?_push_of_some _ e))
          simp only [List.mem_cons, List.not_mem_nil, or_false, not_or]
          exact ⟨Nat.ne_of_lt hb', n2⟩
      · cases r₂ with
        | error e => exact hr₂
        | ok fl₂ =>
          cases fl₂ with
          | ret r =>
            obtain ⟨rfl, h', tk, rfl, htk, q', kk⟩ := hr₂
            repeat (any_goals (first | assumption | wp_step))
            exact h _ _ q' kk htk
          | _ => exact hr₂.elim
    | _ => exact hr.elim
end
end L2
namespace L2
open PySem PySem.Spec PyProof.Rows
set_option maxRecDepth 100000
theorem zmw {α : Type} : ∀ (l : List α) (i : Nat) (x : α), l[i]? = some x -> (x :: l.eraseIdx i).Perm l
  | [], _, _, h => by simp at h
  | y :: l, 0, x, h => by simp at h; subst h; simp
  | y :: l, i + 1, x, h => by
    have := zmw l i x (by simpa using h)
    rw [List.eraseIdx_cons_succ]
    exact (List.Perm.swap y x _).trans (List.Perm.cons y this)
theorem zp1 {α : Type} (next : Nat -> Nat) : ∀ (fuel k : Nat) (left : List α) (out : Array α), left.length = fuel -> (pickOrder.go next fuel k left out).toList.Perm (out.toList ++ left)
  | 0, k, left, out, h => by
    obtain rfl : left = [] := List.length_eq_zero_iff.mp h
    unfold pickOrder.go
    simp
  | fuel + 1, k, left, out, h => by
    unfold pickOrder.go
    have hlt : next k % left.length < left.length := Nat.mod_lt _ (by omega)
    have hx : left[next k % left.length]? = some left[next k % left.length] := List.getElem?_eq_getElem hlt
    rw [hx]
    dsimp only
    refine (zp1 next fuel (k + 1) _ _ (by rw [List.length_eraseIdx_of_lt hlt]; omega)).trans ?_
    rw [Array.toList_push, List.append_assoc]
    exact List.Perm.append_left _ (zmw left _ _ hx)
theorem zn9 {α : Type} (next : Nat -> Nat) (xs : Array α) : (pickOrder next xs).toList.Perm xs.toList := by
  have := zp1 next xs.size 0 xs.toList #[] (by simp)
  simpa [pickOrder] using this
section
variable {P : Program} {w : World} {A : Around} {E : Value -> Shared -> Prop}
theorem ztx {src : Source} {n : Nat} {s : Shared} {Q : Nat -> Shared -> Prop} (hn : n ≠ 0) (h : ∀ i, i < n -> Q i { s with drawn := s.drawn.bump src }) : wpAny (model P w) A (choose src n) Q E s := fun Γ p hΓ =>
  ⟨hn, h _ (Nat.mod_lt _ (Nat.pos_of_ne_zero hn))⟩
theorem zqb {α : Type} : ∀ (n : Nat) (xs : List α) {s : Shared} {Q : List α -> Shared -> Prop}, xs.length = n -> (∀ ys d, ys.Perm xs -> Q ys { s with drawn := d }) -> wpAny (model P w) A (drawOrder n xs) Q E s
  | 0, xs, s, Q, hl, h => by
    obtain rfl : xs = [] := List.length_eq_zero_iff.mp hl
    unfold drawOrder
    have := h [] s.drawn (List.Perm.refl _)
    exact wpAny_pure (by cases s; exact this)
  | n + 1, [], s, Q, hl, h => by cases hl
  | n + 1, x :: xs, s, Q, hl, h => by
    unfold drawOrder
    refine wpAny_bind (ztx (by simp) fun i hi => ?_)
    have hx : (x :: xs)[i]? = some ((x :: xs)[i]) := List.getElem?_eq_getElem hi
    rw [hx]
    dsimp only
    refine wpAny_bind (zqb n _ (by rw [List.length_eraseIdx_of_lt hi]; omega) fun ys d hp => wpAny_pure ?_)
    exact h _ d ((List.Perm.cons _ hp).trans (zmw _ _ _ hx))
end
end L2
namespace L2
open PySem PySem.Spec PyProof.Rows
set_option maxRecDepth 100000
theorem zd9 : Slot "set_iterator" "__next__" "set_iterator.__next__" :=
  .of (owner := "set_iterator") (n := "__next__") (by rw [typeLookup_type, builtinLookup_eq_fast]; kernel_rfl) (by decide +kernel) (by decide +kernel) (by decide +kernel) (by first | exact .inl (by decide +kernel) | exact .inr (by decide +kernel)) (by rw [isSubtype_type]; kernel_rfl)
theorem zjx : entryFor table "set_iterator.__next__" = some Builtin.«set_iterator.__next__» := entryFor_of_fast (by kernel_rfl)
theorem zj9 (a : Value) : argsOk "set_iterator.__next__" ⟨[a], []⟩ := by unfold argsOk; kernel_rfl
theorem zqs : Slot "set_iterator" "__iter__" "set_iterator.__iter__" :=
  .of (owner := "set_iterator") (n := "__iter__") (by rw [typeLookup_type, builtinLookup_eq_fast]; kernel_rfl) (by decide +kernel) (by decide +kernel) (by decide +kernel) (by first | exact .inl (by decide +kernel) | exact .inr (by decide +kernel)) (by rw [isSubtype_type]; kernel_rfl)
theorem zwt : entryFor table "set_iterator.__iter__" = some Builtin.«dict_keyiterator.__iter__» :=
  entryFor_alias (id' := "dict_keyiterator.__iter__") (by kernel_rfl) (by first | rfl | decide +kernel | (unfold String.splitOn; simp +decide [String.splitOnAux])) (by decide +kernel) (by kernel_rfl)
theorem z2l (a : Value) : argsOk "set_iterator.__iter__" ⟨[a], []⟩ := by unfold argsOk; kernel_rfl
noncomputable abbrev zdn (h : Heap) (I : Addr) (first : Value) (i : Nat) (a : Addr) (n ep : Nat) : Prop :=
  h.get? I = some { cls := .type "set_iterator", dict := none, data := .fields #[first, rawInt i, .ref a, rawInt n, rawInt ep], slots := #[] }
section
variable {P : Program} {w : World} {A : Around} {E : Value -> Shared -> Prop} {s : Shared}
theorem zou {I a : Addr} {slot slot' i n ep : Nat} {o : Obj} {ents : Array (Int × Value)} {tb : SetTable} {v : Value} {Q : Option Value -> Shared -> Prop} (hI : zdn s.heap I (rawInt slot) i a n ep) (ho : s.heap.get? a = some o) (hd : o.data = .set ents ep tb) (hf : tb.fits ents.size = true) (hn : ents.size = n)
    (hN : ∀ (A' : Around) (E' : Value -> Shared -> Prop) (R : Option (Value × Nat) -> Shared -> Prop), R (some (v, slot')) s -> wpAny (model P w) A' (setNext a slot i ep) R E' s)
    (hQ : ∀ h', zdn h' I (rawInt slot') (i + 1) a n ep -> Heap.SameBut I s.heap h' -> Q (some v) { s with heap := h' }) : wpAny (model P w) A (pyNext (.ref I)) Q E s := by
  have hT : s.TypeIs (.ref I) "set_iterator" := ⟨_, hI, rfl⟩
  unfold pyNext
  refine wpAny_bind (wpAny_attempt (wpAny_callSpecial?_slot (name := Str.ofString "__next__") hT zd9 (wpAny_call_entry zd9 hT zjx ?_ (zj9 _))))
  show wpAny _ _ (fieldsOf (.ref I) >>= _) _ _ s
  refine wpAny_bind (wpAny_fieldsOf hI rfl ?_)
  show wpAny _ _ (setEntries a >>= _) _ _ s
  refine wpAny_bind (wpAny_setEntries_of ho hd hf ?_)
  have e1 : (((ents.size : Nat) : Int) != (n : Int)) = false := by rw [hn]; simp
  show wpAny _ _ (if (((ents.size : Nat) : Int) != (n : Int)) = true then _ else _) _ _ s
  rw [e1, if_neg Bool.false_ne_true]
  show wpAny _ _ (setNext a ((slot : Nat) : Int).toNat ((i : Nat) : Int).toNat ((ep : Nat) : Int).toNat >>= _) _ _ s
  rw [Int.toNat_natCast, Int.toNat_natCast, Int.toNat_natCast]
  refine wpAny_bind (hN _ _ _ ?_)
  refine wpAny_bind (wpAny_setField_rec hI (by simp) fun h1 g1 s1 => ?_)
  refine wpAny_bind (wpAny_setField_rec g1 (by simp) fun h2 g2 s2 => wpAny_pure ⟨v, rfl, wpAny_pure (hQ h2 ?_ (Heap.SameBut.trans s1 s2))⟩)
  show h2.get? I = _
  rw [g2]
  simp [rawInt]
theorem zrc {I a : Addr} {slot i n ep : Nat} {o : Obj} {ents : Array (Int × Value)} {tb : SetTable} {Q : Option Value -> Shared -> Prop} (hh : A.handled = none) (hI : zdn s.heap I (rawInt slot) i a n ep) (ho : s.heap.get? a = some o) (hd : o.data = .set ents ep tb) (hf : tb.fits ents.size = true) (hn : ents.size = n)
    (hN : ∀ (A' : Around) (E' : Value -> Shared -> Prop) (R : Option (Value × Nat) -> Shared -> Prop), R none s -> wpAny (model P w) A' (setNext a slot i ep) R E' s)
    (hQ : ∀ h', Heap.ExtBut I s.heap h' -> Q none { s with heap := h' }) : wpAny (model P w) A (pyNext (.ref I)) Q E s := by
  have hT : s.TypeIs (.ref I) "set_iterator" := ⟨_, hI, rfl⟩
  unfold pyNext
  refine wpAny_bind (wpAny_attempt (wpAny_callSpecial?_slot (name := Str.ofString "__next__") hT zd9 (wpAny_call_entry zd9 hT zjx ?_ (zj9 _))))
  show wpAny _ _ (fieldsOf (.ref I) >>= _) _ _ s
  refine wpAny_bind (wpAny_fieldsOf hI rfl ?_)
  show wpAny _ _ (setEntries a >>= _) _ _ s
  refine wpAny_bind (wpAny_setEntries_of ho hd hf ?_)
  have e1 : (((ents.size : Nat) : Int) != (n : Int)) = false := by rw [hn]; simp
  show wpAny _ _ (if (((ents.size : Nat) : Int) != (n : Int)) = true then _ else _) _ _ s
  rw [e1, if_neg Bool.false_ne_true]
  show wpAny _ _ (setNext a ((slot : Nat) : Int).toNat ((i : Nat) : Int).toNat ((ep : Nat) : Int).toNat >>= _) _ _ s
  rw [Int.toNat_natCast, Int.toNat_natCast, Int.toNat_natCast]
  refine wpAny_bind (hN _ _ _ ?_)
  refine wpAny_bind (wpAny_setField_rec hI (by simp) fun h1 g1 s1 => ?_)
  show wpAny _ _ (newExc (.type "StopIteration") [] >>= _) _ _ _
  refine wpAny_bind ?_
  simp only [newExc, newTuple]
  refine wpAny_bind (wpAny_newObj_type ?_ (by size_fits))
  refine wpAny_bind (m := firstArgMember _ _) (wpAny_of_eq (a := Value.none) (by first | rfl | (simp only [firstArgMember]; rfl)) ?_)
  refine wpAny_newObj_type ?_ (by size_fits)
  simp only [raiseNew]
  refine wpAny_bind (wpAny_handled ?_)
  rw [show A.in1.handled = none from hh]
  refine wpAny_bind (wpAny_pure (wpAny_throw ?_))
  refine wpAny_bind (wpAny_isInstance (T := "StopIteration") (b := true) ⟨_, Heap.get?_push_size _ rfl, rfl⟩ isSubtype_stop ?_)
  exact wpAny_pure (hQ _ ((s1.extBut.push _).push _))
theorem z4y {I a T : Addr} {i n ep pl : Nat} {o : Obj} {ents : Array (Int × Value)} {tb : SetTable} {pls : Array Value} {hx : Int} {v : Value} {Q : Option Value -> Shared -> Prop} (hI : zdn s.heap I (.ref T) i a n ep) (ho : s.heap.get? a = some o) (hd : o.data = .set ents ep tb) (hf : tb.fits ents.size = true) (hn : ents.size = n)
    (hT : s.heap.get? T = some { cls := .type "tuple", data := .seq pls }) (hp : pls[i]? = some (rawInt pl)) (he : ents[pl]? = some (hx, v))
    (hQ : ∀ h', zdn h' I (.ref T) (i + 1) a n ep -> Heap.SameBut I s.heap h' -> Q (some v) { s with heap := h' }) : wpAny (model P w) A (pyNext (.ref I)) Q E s := by
  have hTy : s.TypeIs (.ref I) "set_iterator" := ⟨_, hI, rfl⟩
  unfold pyNext
  refine wpAny_bind (wpAny_attempt (wpAny_callSpecial?_slot (name := Str.ofString "__next__") hTy zd9 (wpAny_call_entry zd9 hTy zjx ?_ (zj9 _))))
  show wpAny _ _ (fieldsOf (.ref I) >>= _) _ _ s
  refine wpAny_bind (wpAny_fieldsOf hI rfl ?_)
  show wpAny _ _ (setEntries a >>= _) _ _ s
  refine wpAny_bind (wpAny_setEntries_of ho hd hf ?_)
  have e1 : (((ents.size : Nat) : Int) != (n : Int)) = false := by rw [hn]; simp
  show wpAny _ _ (if (((ents.size : Nat) : Int) != (n : Int)) = true then _ else _) _ _ s
  rw [e1, if_neg Bool.false_ne_true]
  show wpAny _ _ (seqItems? (.ref T) >>= _) _ _ s
  refine wpAny_bind (wpAny_seqItems hT rfl ?_)
  show wpAny _ _ (match pls[((i : Nat) : Int).toNat]? with | some (.int place _) => _ | some _ => _ | none => _) _ _ s
  rw [Int.toNat_natCast, hp]
  show wpAny _ _ (setNextDrawn a ((pl : Nat) : Int).toNat ((ep : Nat) : Int).toNat >>= _) _ _ s
  rw [Int.toNat_natCast, Int.toNat_natCast]
  refine wpAny_bind ?_
  unfold setNextDrawn
  refine wpAny_bind (wpAny_setState_of ho hd hf ?_)
  dsimp only
  rw [if_neg (by simp)]
  rw [he]
  refine wpAny_pure ?_
  refine wpAny_bind (wpAny_setField_rec hI (by simp) fun h1 g1 s1 => wpAny_pure ⟨v, rfl, wpAny_pure (hQ h1 ?_ s1)⟩)
  show h1.get? I = _
  rw [g1]
  simp [rawInt]
theorem zyt {I a T : Addr} {i n ep : Nat} {pls : Array Value} {o : Obj} {ents : Array (Int × Value)} {tb : SetTable} {Q : Option Value -> Shared -> Prop} (hh : A.handled = none) (hI : zdn s.heap I (.ref T) i a n ep) (ho : s.heap.get? a = some o) (hd : o.data = .set ents ep tb) (hf : tb.fits ents.size = true) (hn : ents.size = n)
    (hTu : s.heap.get? T = some { cls := .type "tuple", data := .seq pls }) (hp : pls[i]? = none)
    (hQ : ∀ h', Heap.ExtBut I s.heap h' -> Q none { s with heap := h' }) : wpAny (model P w) A (pyNext (.ref I)) Q E s := by
  have hT : s.TypeIs (.ref I) "set_iterator" := ⟨_, hI, rfl⟩
  unfold pyNext
  refine wpAny_bind (wpAny_attempt (wpAny_callSpecial?_slot (name := Str.ofString "__next__") hT zd9 (wpAny_call_entry zd9 hT zjx ?_ (zj9 _))))
  show wpAny _ _ (fieldsOf (.ref I) >>= _) _ _ s
  refine wpAny_bind (wpAny_fieldsOf hI rfl ?_)
  show wpAny _ _ (setEntries a >>= _) _ _ s
  refine wpAny_bind (wpAny_setEntries_of ho hd hf ?_)
  have e1 : (((ents.size : Nat) : Int) != (n : Int)) = false := by rw [hn]; simp
  show wpAny _ _ (if (((ents.size : Nat) : Int) != (n : Int)) = true then _ else _) _ _ s
  rw [e1, if_neg Bool.false_ne_true]
  show wpAny _ _ (seqItems? (.ref T) >>= _) _ _ s
  refine wpAny_bind (wpAny_seqItems hTu rfl ?_)
  show wpAny _ _ (match pls[((i : Nat) : Int).toNat]? with | some (.int place _) => _ | some _ => _ | none => _) _ _ s
  rw [Int.toNat_natCast, hp]
  refine wpAny_bind (wpAny_setField_rec hI (by simp) fun h0 g0 s0 => ?_)
  refine wpAny_bind (wpAny_setField_rec g0 (by simp) fun h1 g1 s1 => ?_)
  show wpAny _ _ (newExc (.type "StopIteration") [] >>= _) _ _ _
  refine wpAny_bind ?_
  simp only [newExc, newTuple]
  refine wpAny_bind (wpAny_newObj_type ?_ (by size_fits))
  refine wpAny_bind (m := firstArgMember _ _) (wpAny_of_eq (a := Value.none) (by first | rfl | (simp only [firstArgMember]; rfl)) ?_)
  refine wpAny_newObj_type ?_ (by size_fits)
  simp only [raiseNew]
  refine wpAny_bind (wpAny_handled ?_)
  rw [show A.in1.handled = none from hh]
  refine wpAny_bind (wpAny_pure (wpAny_throw ?_))
  refine wpAny_bind (wpAny_isInstance (T := "StopIteration") (b := true) ⟨_, Heap.get?_push_size _ rfl, rfl⟩ isSubtype_stop ?_)
  exact wpAny_pure (hQ _ (((Heap.SameBut.trans s0 s1).extBut.push _).push _))
end
end L2
namespace L2
open PySem PySem.Spec PyProof.Rows
set_option maxRecDepth 100000
theorem zzq : entryFor table "set.__iter__" = some Builtin.«frozenset.__iter__» :=
  entryFor_alias (id' := "frozenset.__iter__") (by kernel_rfl) (by first | rfl | decide +kernel | (unfold String.splitOn; simp +decide [String.splitOnAux])) (by decide +kernel) (by kernel_rfl)
noncomputable def zi7 (pl : Array Nat) : Nat -> Nat
  | 0 => 0
  | i + 1 => pl.getD i 0 + 1
theorem zqw {pl : Array Nat} {i : Nat} (hi : i < pl.size) : zi7 pl (i + 1) = pl[i] + 1 := by
  show pl.getD i 0 + 1 = _
  simp [Array.getD, hi]
theorem zr6 {α β : Type} {f : α -> Option β} {g : α -> β} : ∀ (l : List α), (∀ x ∈ l, f x = some (g x)) -> l.filterMap f = l.map g
  | [], _ => rfl
  | x :: l, h => by rw [List.filterMap_cons, h x List.mem_cons_self, List.map_cons, zr6 l fun y hy => h y (List.mem_cons_of_mem _ hy)]
theorem zpn {pl : Array Nat} (h : Ris pl) : ∀ i, i <= pl.size -> SetTable.below pl (zi7 pl i) = i
  | 0, _ => z4c h
  | i + 1, hi => by
    rw [zqw (by omega)]
    exact z3c h (by omega)
section
variable {P : Program} {w : World} {A : Around} {E : Value -> Shared -> Prop} {s : Shared} {a : Addr} {o : Obj} {ents : Array (Int × Value)} {ep : Nat} {tb : SetTable}
theorem zki {Q : Bool -> Shared -> Prop} (h : Q (w.params.followText "set-order") s) : wpAny (model P w) A setsByText Q E s := by
  unfold setsByText
  exact wpAny_bind (wpAny_askSetting (wpAny_pure h))
theorem zqt {slot i : Nat} {R : Option (Value × Nat) -> Shared -> Prop} (ho : s.heap.get? a = some o) (hd : o.data = .set ents ep tb) (hf : tb.fits ents.size = true) (ht : w.params.followText "set-order" = true)
    (h : R (((pickOrder (w.params.setOrder a ep) ents)[i]?).map fun e => (e.2, slot)) s) : wpAny (model P w) A (setNext a slot i ep) R E s := by
  unfold setNext
  refine wpAny_bind (wpAny_setState_of ho hd hf ?_)
  dsimp only
  refine wpAny_bind (zki ?_)
  rw [ht, if_pos rfl, if_neg (by simp)]
  refine wpAny_bind ?_
  unfold setWalk
  refine wpAny_bind (wpAny_setState_of ho hd hf ?_)
  dsimp only
  refine wpAny_bind (zki ?_)
  rw [ht, if_pos rfl]
  refine wpAny_bind (wpAny_askSetting (wpAny_pure (wpAny_pure ?_)))
  exact h
theorem ztp {slot i : Nat} {R : Option (Value × Nat) -> Shared -> Prop} (ho : s.heap.get? a = some o) (hd : o.data = .set ents ep tb) (hf : tb.fits ents.size = true) (ht : w.params.followText "set-order" = false) (hw : (!tb.plain && decide (ents.size > 1)) = false) (hled : tb.led = true)
    (h : R (match ents[SetTable.below tb.place slot]?, tb.place[SetTable.below tb.place slot]? with | some (_, x), some j => some (x, j + 1) | _, _ => none) s) : wpAny (model P w) A (setNext a slot i ep) R E s := by
  unfold setNext
  refine wpAny_bind (wpAny_setState_of ho hd hf ?_)
  dsimp only
  refine wpAny_bind (zki ?_)
  rw [ht, if_neg Bool.false_ne_true]
  show wpAny _ _ (if (!tb.plain && decide (ents.size > 1)) = true then _ else _) _ _ s
  rw [hw, if_neg Bool.false_ne_true]
  show wpAny _ _ ((if (!tb.led && !ents.isEmpty) = true then unsupported "set:maker-not-led" else pure ()) >>= _) _ _ s
  rw [hled, Bool.not_true, Bool.false_and, if_neg Bool.false_ne_true]
  exact wpAny_bind (wpAny_pure (wpAny_pure h))
end
section
variable {P : Program} {w : World} {a I T : Addr} {o : Obj} {ents : Array (Int × Value)} {ep n : Nat} {tb : SetTable}
theorem zl1 {A : Around} {E : Value -> Shared -> Prop} {s : Shared} {first : Value} {i : Nat} {Q : Value -> Shared -> Prop} (hI : zdn s.heap I first i a n ep) (h : Q (.ref I) s) : wpAny (model P w) A (pyIter (.ref I)) Q E s := by
  have hT : s.TypeIs (.ref I) "set_iterator" := ⟨_, hI, rfl⟩
  refine wpAny_pyIter_slot hT zqs (wpAny_call_entry zqs hT zwt ?_ (z2l _))
  show wpAny _ _ (ret (.ref I)) _ _ s
  exact wpAny_pure ⟨_, rfl, "set_iterator", _, hT, zd9.lookup, h⟩
theorem z5j {A : Around} (hh : A.handled = none) (ne : a ≠ I) (hd : o.data = .set ents ep tb) (hf : tb.fits ents.size = true) (hn : ents.size = n) (ht : w.params.followText "set-order" = true) :
    WalksS P w A I [I, a] [I] (fun x y => y = x) n (fun i v => ((pickOrder (w.params.setOrder a ep) ents).toList.map (·.2))[i]? = some v) (fun i s => zdn s.heap I (rawInt ((0 : Nat) : Int)) i a n ep /\ s.heap.get? a = some o) where
  sub := fun b hb => by simp at hb; simp [hb]
  grefl := fun _ => rfl
  gtrans := fun _ _ _ h1 h2 => h2.trans h1
  frame := fun i s h' tk st _ hk => ⟨hk I (by simp) _ st.1, hk a (by simp) _ st.2⟩
  item := fun i s Q E hi st hQ => by
    have hz : (pickOrder (w.params.setOrder a ep) ents).size = n := by rw [<- Array.length_toList, (zn9 _ _).length_eq, Array.length_toList, hn]
    have hx : (pickOrder (w.params.setOrder a ep) ents)[i]? = some (pickOrder (w.params.setOrder a ep) ents)[i] := Array.getElem?_eq_getElem (by omega)
    refine zou st.1 st.2 hd hf hn (v := ((pickOrder (w.params.setOrder a ep) ents)[i]'(by omega)).2) (slot' := 0) (fun A' E' R r => zqt st.2 hd hf ht (by rw [hx]; exact r)) fun h' g sb => ?_
    refine hQ _ _ (by rw [List.getElem?_map, Array.getElem?_toList, hx]; rfl) ⟨g, (sb.2 a ne).trans st.2⟩ ⟨fun b o' hb e => (sb.2 b (fun h => hb (by simp [h]))).trans e, rfl, rfl, rfl, Nat.le_refl _⟩
  done := fun s Q E st hQ => by
    have hz : (pickOrder (w.params.setOrder a ep) ents).size = n := by rw [<- Array.length_toList, (zn9 _ _).length_eq, Array.length_toList, hn]
    have hx : (pickOrder (w.params.setOrder a ep) ents)[n]? = none := Array.getElem?_eq_none (by omega)
    exact zrc hh st.1 st.2 hd hf hn (fun A' E' R r => zqt st.2 hd hf ht (by rw [hx]; exact r)) fun h' eb => hQ _ ⟨fun b o' hb e => eb b o' (fun h => hb (by simp [h])) e, rfl, rfl, rfl, Nat.le_refl _⟩
  self := fun i s Q E st hQ => zl1 st.1 hQ
theorem zxq {A : Around} (hh : A.handled = none) (ne : a ≠ I) (hd : o.data = .set ents ep tb) (hf : tb.fits ents.size = true) (hn : ents.size = n) (ht : w.params.followText "set-order" = false) (hw : (!tb.plain && decide (ents.size > 1)) = false) (hled : tb.led = true) (hr : Ris tb.place) :
    WalksS P w A I [I, a] [I] (fun x y => y = x) n (fun i v => (ents.toList.map (·.2))[i]? = some v) (fun i s => zdn s.heap I (rawInt ((zi7 tb.place i : Nat) : Int)) i a n ep /\ s.heap.get? a = some o) where
  sub := fun b hb => by simp at hb; simp [hb]
  grefl := fun _ => rfl
  gtrans := fun _ _ _ h1 h2 => h2.trans h1
  frame := fun i s h' tk st _ hk => ⟨hk I (by simp) _ st.1, hk a (by simp) _ st.2⟩
  item := fun i s Q E hi st hQ => by
    have hz : tb.place.size = ents.size := by simp only [SetTable.fits, Bool.and_eq_true, beq_iff_eq] at hf; exact hf.1
    have hb := zpn hr i (by omega)
    have hx : ents[i]? = some ents[i] := Array.getElem?_eq_getElem (by omega)
    have hp : tb.place[i]? = some tb.place[i] := Array.getElem?_eq_getElem (by omega)
    have es : zi7 tb.place (i + 1) = tb.place[i]'(by omega) + 1 := zqw (by omega)
    refine zou st.1 st.2 hd hf hn (v := (ents[i]'(by omega)).2) (slot' := zi7 tb.place (i + 1)) (fun A' E' R r => ztp st.2 hd hf ht hw hled (by rw [hb, hx, hp]; rw [es] at r; exact r)) fun h' g sb => ?_
    refine hQ _ _ (by rw [List.getElem?_map, Array.getElem?_toList, hx]; rfl) ⟨g, (sb.2 a ne).trans st.2⟩ ⟨fun b o' hb e => (sb.2 b (fun h => hb (by simp [h]))).trans e, rfl, rfl, rfl, Nat.le_refl _⟩
  done := fun s Q E st hQ => by
    have hz : tb.place.size = ents.size := by simp only [SetTable.fits, Bool.and_eq_true, beq_iff_eq] at hf; exact hf.1
    have hb := zpn hr n (by omega)
    have hx : ents[n]? = none := Array.getElem?_eq_none (by omega)
    exact zrc hh st.1 st.2 hd hf hn (fun A' E' R r => ztp st.2 hd hf ht hw hled (by rw [hb, hx]; exact r)) fun h' eb => hQ _ ⟨fun b o' hb e => eb b o' (fun h => hb (by simp [h])) e, rfl, rfl, rfl, Nat.le_refl _⟩
  self := fun i s Q E st hQ => zl1 st.1 hQ
theorem zuq {A : Around} (hh : A.handled = none) (ne : a ≠ I) (nT : T ≠ I) (hd : o.data = .set ents ep tb) (hf : tb.fits ents.size = true) (hn : ents.size = n) {ord : List Nat} (hp : ord.Perm (List.range n)) :
    WalksS P w A I [I, a, T] [I] (fun x y => y = x) n (fun i v => (ord.filterMap fun j => (ents[j]?).map (·.2))[i]? = some v)
      (fun i s => zdn s.heap I (.ref T) i a n ep /\ s.heap.get? a = some o /\ s.heap.get? T = some { cls := .type "tuple", data := .seq (ord.map fun (j : Nat) => rawInt j).toArray }) where
  sub := fun b hb => by simp at hb; simp [hb]
  grefl := fun _ => rfl
  gtrans := fun _ _ _ h1 h2 => h2.trans h1
  frame := fun i s h' tk st _ hk => ⟨hk I (by simp) _ st.1, hk a (by simp) _ st.2.1, hk T (by simp) _ st.2.2⟩
  item := fun i s Q E hi st hQ => by
    have hl : ord.length = n := by rw [hp.length_eq, List.length_range]
    have lt : ∀ j ∈ ord, j < ents.size := fun j hj => by rw [hn]; exact List.mem_range.mp (hp.mem_iff.mp hj)
    have hj : ord[i]? = some (ord[i]'(by omega)) := List.getElem?_eq_getElem (by omega)
    have hlt : ord[i]'(by omega) < ents.size := lt _ (List.getElem_mem _)
    have hx : ents[ord[i]'(by omega)]? = some (ents[ord[i]'(by omega)]) := Array.getElem?_eq_getElem hlt
    have em : (ord.filterMap fun j => (ents[j]?).map (·.2)) = ord.map fun j => ((ents[j]?).map (·.2)).getD .none := by
      refine zr6 ord fun j hj => ?_
      have : ents[j]? = some (ents[j]'(lt j hj)) := Array.getElem?_eq_getElem (lt j hj)
      rw [this]
      rfl
    refine z4y st.1 st.2.1 hd hf hn st.2.2 (pl := ord[i]'(by omega)) (hx := (ents[ord[i]'(by omega)]).1) (v := (ents[ord[i]'(by omega)]).2) (by rw [List.getElem?_toArray, List.getElem?_map, hj]; rfl) hx fun h' g sb => ?_
    refine hQ _ _ ?_ ⟨g, (sb.2 a ne).trans st.2.1, (sb.2 T nT).trans st.2.2⟩ ⟨fun b o' hb e => (sb.2 b (fun h => hb (by simp [h]))).trans e, rfl, rfl, rfl, Nat.le_refl _⟩
    rw [em, List.getElem?_map, hj]
    simp only [Option.map_some, hx]
    rfl
  done := fun s Q E st hQ => by
    have hl : ord.length = n := by rw [hp.length_eq, List.length_range]
    exact zyt hh st.1 st.2.1 hd hf hn st.2.2 (by rw [List.getElem?_toArray]; exact List.getElem?_eq_none (by simp; omega)) fun h' eb => hQ _ ⟨fun b o' hb e => eb b o' (fun h => hb (by simp [h])) e, rfl, rfl, rfl, Nat.le_refl _⟩
  self := fun i s Q E st hQ => zl1 st.1 hQ
end
end L2
namespace L2
open PySem PySem.Spec PyProof.Rows
set_option maxRecDepth 100000
theorem zqo {P : Program} {w : World} : ∀ (l : List (Int × Value)), ElemsOf (intKind P w) l -> ∃ ns : List Int, IntsAre (l.map (·.2)) ns /\ ∀ k, (∃ e ∈ l, (intKind P w).is k e.2 = true) ↔ k ∈ ns
  | [], _ => ⟨[], .nil, fun k => by simp⟩
  | e :: l, h => by
    obtain ⟨ns, h1, h2⟩ := zqo l h.tail
    obtain ⟨⟨k, hk, _⟩, _⟩ := h.head
    obtain ⟨t, et⟩ := Value.isInt_shape hk
    refine ⟨k :: ns, by rw [List.map_cons, et]; exact .cons k t h1, fun j => ?_⟩
    rw [List.mem_cons, <- h2 j]
    constructor
    · rintro ⟨x, hx, q⟩
      rcases List.mem_cons.mp hx with rfl | hx
      · exact .inl ((intKind P w).inj _ _ _ q hk)
      · exact .inr ⟨x, hx, q⟩
    · rintro (rfl | ⟨x, hx, q⟩)
      · exact ⟨e, List.mem_cons_self, hk⟩
      · exact ⟨x, List.mem_cons_of_mem _ hx, q⟩
theorem zsu {α : Type} (xs : List α) : ∀ (n k : Nat), k + n = xs.length -> (List.range' k n).filterMap (fun j => xs[j]?) = xs.drop k
  | 0, k, h => by rw [List.range'_zero, List.filterMap_nil, List.drop_of_length_le (by omega)]
  | n + 1, k, h => by
    rw [List.range'_succ, List.filterMap_cons, List.getElem?_eq_getElem (show k < xs.length by omega), zsu xs n (k + 1) (by omega), List.drop_eq_getElem_cons (show k < xs.length by omega)]
theorem zu4 {α : Type} (xs : Array α) : (List.range xs.size).filterMap (fun j => xs[j]?) = xs.toList := by
  have := zsu xs.toList xs.size 0 (by simp)
  rw [List.drop_zero] at this
  rw [List.range_eq_range', <- this]
  simp
section
variable {P : Program} {w : World} {A : Around} {E : Value -> Shared -> Prop} {s : Shared} {a : Addr}
theorem zuf {S : Int -> Bool} {n : Nat} {Q : Value -> Shared -> Prop} (q : zcg P w s.heap a (zcn w) S n)
    (hQ : ∀ (I : Addr) (fp : List Addr) (vals : List Value) (ns : List Int) (St : Nat -> Shared -> Prop) (h' : Heap) (d' : Drawn), (∀ A' : Around, A'.handled = none -> WalksS P w A' I fp [I] (fun x y => y = x) n (fun i v => vals[i]? = some v) St) ->
      St 0 { s with heap := h', drawn := d' } -> (∀ b o, s.heap.get? b = some o -> h'.get? b = some o) -> s.heap.objs.size <= I -> I ∈ fp -> (∀ b ∈ fp, b < h'.objs.size /\ (b = a \/ s.heap.objs.size <= b)) -> IntsAre vals ns -> ns.length = n -> (∀ k, S k = true ↔ k ∈ ns) -> Q (.ref I) { s with heap := h', drawn := d' }) :
    wpAny (model P w) A (pyIter (.ref a)) Q E s := by
  obtain ⟨o, ents, ep, tb, ho, hex, hd, hel, hm, hb, hf, hn, hr, hled⟩ := q
  have hT : s.TypeIs (.ref a) "set" := ⟨o, ho, hex.1⟩
  have la : a < s.heap.objs.size := Heap.lt_size ho
  have fin : ∀ (vs : List (Int × Value)), vs.Perm ents.toList -> ∃ ns, IntsAre (vs.map (·.2)) ns /\ ns.length = n /\ ∀ k, S k = true ↔ k ∈ ns := fun vs hp => by
    obtain ⟨ns, h1, h2⟩ := zqo vs (hel.perm hp)
    refine ⟨ns, h1, ?_, fun k => ?_⟩
    · rw [<- h1.length, List.length_map, hp.length_eq, Array.length_toList, hn]
    · rw [hm k, <- h2 k]
      exact ⟨fun ⟨e, he, x⟩ => ⟨e, hp.mem_iff.mpr he, x⟩, fun ⟨e, he, x⟩ => ⟨e, hp.mem_iff.mp he, x⟩⟩
  refine wpAny_pyIter_slot hT F.slot_set_iter (wpAny_call_entry F.slot_set_iter hT zzq ?_ (F.args_set_iter_1 _))
  show wpAny _ _ (Builtin.Frozenset.sizeOf a >>= _) _ _ s
  refine wpAny_bind ?_
  unfold Builtin.Frozenset.sizeOf
  refine wpAny_bind (wpAny_setEntries_of ho hd hf (wpAny_pure ?_))
  refine wpAny_bind ?_
  unfold setDrawn
  refine wpAny_bind (wpAny_setState_of ho hd hf ?_)
  dsimp only
  refine wpAny_bind (zki (wpAny_pure ?_))
  show wpAny _ _ (if (!w.params.followText "set-order" && (!tb.plain && decide (ents.size > 1))) = true then _ else _) _ _ s
  cases ht : w.params.followText "set-order" with
  | true =>
    rw [Bool.not_true, Bool.false_and, if_neg Bool.false_ne_true]
    refine wpAny_bind (wpAny_pure (wpAny_bind (wpAny_setEpoch_of ho hd hf ?_)))
    refine wpAny_bind (wpAny_newObj_type ?_ (by size_fits))
    refine wpAny_pure ?_
    obtain ⟨ns, i1, i2, i3⟩ := fin _ (zn9 (w.params.setOrder a ep) ents)
    have hI : zdn (s.heap.push { cls := .type "set_iterator", dict := none, data := .fields #[rawInt ((0 : Nat) : Int), rawInt ((0 : Nat) : Int), .ref a, rawInt n, rawInt ep], slots := #[] }) s.heap.objs.size (rawInt ((0 : Nat) : Int)) 0 a n ep := Heap.get?_push_size _ rfl
    rw [hn]
    refine ⟨_, rfl, "set_iterator", _, ⟨_, hI, rfl⟩, zd9.lookup, ?_⟩
    refine hQ s.heap.objs.size [s.heap.objs.size, a] _ ns _ _ s.drawn (fun A' hh => z5j hh (Nat.ne_of_lt la) hd hf hn ht) ⟨hI, Heap.get?_push_of_some _ ho⟩ (fun b o' e => Heap.get?_push_of_some _ e) (Nat.le_refl _) (by simp) (fun b hb' => ?_) i1 i2 i3
    rw [Heap.size_push]
    simp only [List.mem_cons, List.not_mem_nil, or_false] at hb'
    rcases hb' with rfl | rfl
    · exact ⟨Nat.lt_succ_self _, .inr (Nat.le_refl _)⟩
    · exact ⟨Nat.lt_succ_of_lt la, .inl rfl⟩
  | false =>
    rw [Bool.not_false, Bool.true_and]
    have hled' : tb.led = true := by rw [hled]; unfold zcn; rw [ht]; rfl
    cases hw : (!tb.plain && decide (ents.size > 1)) with
    | false =>
      rw [if_neg Bool.false_ne_true]
      refine wpAny_bind (wpAny_pure (wpAny_bind (wpAny_setEpoch_of ho hd hf ?_)))
      refine wpAny_bind (wpAny_newObj_type ?_ (by size_fits))
      refine wpAny_pure ?_
      obtain ⟨ns, i1, i2, i3⟩ := fin _ (List.Perm.refl _)
      have hI : zdn (s.heap.push { cls := .type "set_iterator", dict := none, data := .fields #[rawInt ((0 : Nat) : Int), rawInt ((0 : Nat) : Int), .ref a, rawInt n, rawInt ep], slots := #[] }) s.heap.objs.size (rawInt ((0 : Nat) : Int)) 0 a n ep := Heap.get?_push_size _ rfl
      rw [hn]
      refine ⟨_, rfl, "set_iterator", _, ⟨_, hI, rfl⟩, zd9.lookup, ?_⟩
      refine hQ s.heap.objs.size [s.heap.objs.size, a] _ ns _ _ s.drawn (fun A' hh => zxq hh (Nat.ne_of_lt la) hd hf hn ht hw hled' hr) ⟨hI, Heap.get?_push_of_some _ ho⟩ (fun b o' e => Heap.get?_push_of_some _ e) (Nat.le_refl _) (by simp) (fun b hb' => ?_) i1 i2 i3
      rw [Heap.size_push]
      simp only [List.mem_cons, List.not_mem_nil, or_false] at hb'
      rcases hb' with rfl | rfl
      · exact ⟨Nat.lt_succ_self _, .inr (Nat.le_refl _)⟩
      · exact ⟨Nat.lt_succ_of_lt la, .inl rfl⟩
    | true =>
      rw [if_pos rfl]
      refine wpAny_bind (zqb _ _ (by rw [List.length_range]) fun ord d hp => ?_)
      rw [hn] at hp
      have hsz : ((ord.map fun (i : Nat) => rawInt i)).length <= sizeLine := by rw [List.length_map, hp.length_eq, List.length_range]; exact fits_of_scanBound (by omega)
      refine wpAny_bind (wpAny_newTuple ?_ hsz)
      refine wpAny_bind (wpAny_setEpoch_of (s := { s with heap := s.heap.push { cls := .type "tuple", data := .seq (ord.map fun (i : Nat) => rawInt i).toArray }, drawn := d }) (Heap.get?_push_of_some _ ho) hd hf ?_)
      refine wpAny_bind (wpAny_newObj_type ?_ (by size_fits))
      refine wpAny_pure ?_
      have pv : (ord.filterMap fun j => ents[j]?).Perm ents.toList := by
        have := hp.filterMap fun j => ents[j]?
        rw [<- hn, zu4] at this
        exact this
      obtain ⟨ns, i1, i2, i3⟩ := fin _ pv
      rw [List.map_filterMap] at i1
      have hI : zdn ((s.heap.push { cls := .type "tuple", data := .seq (ord.map fun (i : Nat) => rawInt i).toArray }).push { cls := .type "set_iterator", dict := none, data := .fields #[.ref s.heap.objs.size, rawInt ((0 : Nat) : Int), .ref a, rawInt n, rawInt ep], slots := #[] })
          (s.heap.push { cls := .type "tuple", data := .seq (ord.map fun (i : Nat) => rawInt i).toArray }).objs.size (.ref s.heap.objs.size) 0 a n ep := Heap.get?_push_size _ rfl
      rw [hn]
      refine ⟨_, rfl, "set_iterator", _, ⟨_, hI, rfl⟩, zd9.lookup, ?_⟩
      have zI : (s.heap.push { cls := .type "tuple", data := .seq (ord.map fun (i : Nat) => rawInt i).toArray }).objs.size = s.heap.objs.size + 1 := Heap.size_push ..
      refine hQ _ [(s.heap.push { cls := .type "tuple", data := .seq (ord.map fun (i : Nat) => rawInt i).toArray }).objs.size, a, s.heap.objs.size] _ ns _ _ d (fun A' hh => zuq hh (by rw [zI]; exact Nat.ne_of_lt (Nat.lt_succ_of_lt la)) (by rw [zI]; exact Nat.ne_of_lt (Nat.lt_succ_self _)) hd hf hn hp) ⟨hI, Heap.get?_push_of_some _ (Heap.get?_push_of_some _ ho), Heap.get?_push_of_some _ (Heap.get?_push_size _ rfl)⟩ (fun b o' e => Heap.get?_push_of_some _ (Heap.get?_push_of_some _ e)) (by rw [zI]; exact Nat.le_succ _) (by simp) (fun b hb' => ?_) i1 i2 i3
      rw [Heap.size_push]
      simp only [List.mem_cons, List.not_mem_nil, or_false] at hb'
      rcases hb' with rfl | rfl | rfl
      · exact ⟨Nat.lt_succ_self _, .inr (by rw [zI]; exact Nat.le_succ _)⟩
      · exact ⟨by rw [zI]; exact Nat.lt_succ_of_lt (Nat.lt_succ_of_lt la), .inl rfl⟩
      · exact ⟨by rw [zI]; exact Nat.lt_succ_of_lt (Nat.lt_succ_self _), .inr (Nat.le_refl _)⟩
end
end L2
namespace L2
open PySem PySem.Spec PyProof.Rows
set_option maxRecDepth 100000
theorem zzt {vals : List Value} {acc : Array Value} {n : Nat} (h : ItemsOf (fun i v => vals[i]? = some v) acc n) (hl : vals.length = n) : acc.toList = vals := by
  refine List.ext_getElem? fun i => ?_
  by_cases hi : i < n
  · have e : acc[i]? = some (acc[i]'(by rw [h.1]; exact hi)) := Array.getElem?_eq_getElem _
    rw [Array.getElem?_toList, e]
    exact (h.2 i _ e).symm
  · rw [List.getElem?_eq_none (by rw [Array.length_toList, h.1]; omega), List.getElem?_eq_none (by omega)]
theorem z0n : typeLookup (.type "set") "__len__" = pure (some (.builtin "set.__len__")) := by rw [typeLookup_type, builtinLookup_eq_fast]; kernel_rfl
theorem zyg : splitId "set.__len__" = some ("set", "__len__") := by decide +kernel
section
variable {P : Program} {w : World} {A : Around} {E : Value -> Shared -> Prop} {s : Shared} {a : Addr}
theorem zxh {S : Int -> Bool} {n : Nat} {Q : List Value -> Shared -> Prop} (hh : A.handled = none) (q : zcg P w s.heap a (zcn w) S n) (hn : n <= sizeLine)
    (hQ : ∀ (h' : Heap) (d' : Drawn) (tk : Nat) (vals : List Value) (ns : List Int), (∀ b o, s.heap.get? b = some o -> h'.get? b = some o) -> s.heap.objs.size <= h'.objs.size -> s.toks <= tk -> IntsAre vals ns -> ns.length = n -> (∀ k, S k = true ↔ k ∈ ns) -> Q vals { s with heap := h', drawn := d', toks := tk }) :
    wpAny (model P w) A (collect (.ref a)) Q E s := by
  unfold collect
  refine wpAny_bind (wpAny_runValue (codeAny_builtin PySem.F.entry_proto_collect ?_))
  rw [Around.under_plainId PySem.F.plain_proto_collect _]
  show wpAny _ A.in1 (newList [] >>= fun l => again (.builtin "list.__iadd__" ⟨[l, .ref a], []⟩)) _ _ s
  refine wpAny_bind (wpAny_newObj_type ?_)
  refine wpAny_pure ⟨plainId_quiet PySem.F.plain_list_iadd _, codeAny_builtin PySem.F.entry_list_iadd ?_⟩
  rw [Around.under_plainId PySem.F.plain_list_iadd _]
  show wpAny _ A.in1 (Builtin.List.listExtendWith (.ref s.heap.objs.size) (.ref a) (.ref s.heap.objs.size)) _ _ _
  unfold Builtin.List.listExtendWith
  obtain ⟨o, ents, ep, tb, ho, hex, zbs⟩ := id q
  have la : a < s.heap.objs.size := Heap.lt_size ho
  have q1 : zcg P w (s.heap.push { cls := .type "list", data := .seq ([] : List Value).toArray }) a (zcn w) S n := q.stay fun o e => Heap.get?_push_of_some _ e
  have hT : Shared.TypeIs { s with heap := s.heap.push { cls := .type "list", data := .seq ([] : List Value).toArray } } (.ref a) "set" := ⟨o, Heap.get?_push_of_some _ ho, hex.1⟩
  refine wpAny_bind (wpAny_typeOf hT ?_)
  have k1 : Builtin.List.listSameRef (.ref s.heap.objs.size) (.ref a) = false := by simp [Builtin.List.listSameRef, Nat.ne_of_gt la]
  have k2 : (Value.type "set" == Value.type "list") = false := by decide
  have k3 : (Value.type "set" == Value.type "tuple") = false := by decide
  simp only [k1, k2, k3, Bool.or_false, Bool.false_eq_true, if_false]
  refine wpAny_bind (zuf q1 fun I fp vals ns St h1 d1 W st0 keep gI mI fpl i1 i2 i3 => ?_)
  have hT1 : Shared.TypeIs { s with heap := h1, drawn := d1 } (.ref a) "set" := ⟨o, keep _ _ (Heap.get?_push_of_some _ ho), hex.1⟩
  have zL : (s.heap.push { cls := .type "list", data := .seq ([] : List Value).toArray }).objs.size = s.heap.objs.size + 1 := Heap.size_push ..
  have nL : s.heap.objs.size ∉ fp := fun hm => by
    rcases (fpl _ hm).2 with e | e
    · exact Nat.lt_irrefl _ (by rw [<- e] at la; exact la)
    · rw [zL] at e; exact Nat.not_succ_le_self _ e
  refine wpAny_bind (wpAny_holding ?_)
  unfold Builtin.List.listLengthHint
  refine wpAny_bind (wpAny_specialOf hT1 z0n ?_)
  dsimp only
  rw [zyg]
  dsimp only
  refine wpAny_bind (wpAny_isInstance hT1 sub_set_self ?_)
  simp only [Bool.not_true, Bool.false_eq_true, if_false]
  refine wpAny_bind (wpAny_typeOf hT1 (wpAny_pure ?_))
  show wpAny _ A.in1 (rule "list.extend.makes-room" >>= fun _ => Builtin.List.listTouch (.ref s.heap.objs.size) >>= fun _ =>
    again (.builtin "list.extend.loop" ⟨[.ref s.heap.objs.size, .ref I, .ref s.heap.objs.size], []⟩)) _ _ _
  refine wpAny_bind (wpAny_rule ?_)
  have g1 : h1.get? s.heap.objs.size = some { cls := .type "list", data := .seq ([] : List Value).toArray } := keep _ _ (Heap.get?_push_size _ rfl)
  refine wpAny_bind ?_
  show wpAny _ A.in1 (updateSeq s.heap.objs.size (·.push .none) >>= fun _ => updateSeq s.heap.objs.size (·.pop)) _ _ _
  refine wpAny_bind (wpAny_updateSeq (s := { s with heap := h1, drawn := d1 }) g1 rfl ?_)
  have g2 := Heap.get?_update_self (Obj.mapSeq (·.push Value.none)) g1 rfl
  refine wpAny_updateSeq (s := { s with heap := h1.update s.heap.objs.size (Obj.mapSeq (·.push Value.none)), drawn := d1 }) g2 rfl ?_
  have g3 := Heap.get?_update_self (Obj.mapSeq (·.pop)) g2 rfl
  have oth : ∀ b o, b ≠ s.heap.objs.size -> h1.get? b = some o -> ((h1.update s.heap.objs.size (Obj.mapSeq (·.push Value.none))).update s.heap.objs.size (Obj.mapSeq (·.pop))).get? b = some o :=
    fun b o hb e => (Heap.get?_update_other _ _ (Ne.symm hb)).trans ((Heap.get?_update_other _ _ (Ne.symm hb)).trans e)
  have W1 := W A.in1 (by simp [hh])
  refine wpAny_pure ⟨plainId_quiet PySem.F.plain_extend_loop _, codeAny_extend_loopS W1 hn _ nL _ n 0 _ _ _ rfl (Nat.zero_le _)
    (W1.frame 0 ({ s with heap := h1, drawn := d1 } : Shared) _ s.toks st0 (Nat.le_refl _) fun b hb o e => oth b o (fun h => nL (h ▸ hb)) e) g3 (ItemsOf.nil _) fun s' acc' c' hm hS' hacc => ?_⟩
  show wpAny _ A (load s.heap.objs.size >>= _) _ _ s'
  refine wpAny_bind (wpAny_load hS' (wpAny_pure ?_))
  have lv : vals.length = n := by rw [i1.length, i2]
  rw [zzt hacc lv]
  obtain ⟨h2, g', d', tk', os'⟩ := s'
  have eg : g' = s.gens := hm.gens
  have ed : d' = d1 := hm.drawn
  have eo : os' = s.os := hm.os
  subst eg ed eo
  refine hQ h2 d' tk' vals ns (fun b o' e => ?_) (Nat.le_of_lt (Heap.lt_size hS')) hm.toks i1 i2 i3
  have lb : b < s.heap.objs.size := Heap.lt_size e
  refine hm.heap b o' ?_ (oth b o' (Nat.ne_of_lt lb) (keep _ _ (Heap.get?_push_of_some _ e)))
  simp only [List.mem_cons, List.not_mem_nil, or_false, not_or]
  exact ⟨Nat.ne_of_lt lb, Nat.ne_of_lt (Nat.lt_of_lt_of_le lb (Nat.le_trans (by rw [zL]; exact Nat.le_succ _) gI))⟩
theorem zxl {S : Int -> Bool} {n : Nat} {Q : Value -> Shared -> Prop} (hh : A.handled = none) (q : zcg P w s.heap a (zcn w) S n) (h64 : n < 64)
    (hQ : ∀ (p : Addr) (h' : Heap) (d' : Drawn) (tk e : Nat) (out : Array Value) (ns : List Int), (∀ b o, s.heap.get? b = some o -> h'.get? b = some o) -> s.heap.objs.size <= p -> s.toks <= tk -> h'.get? p = some (seqObj "list" out e) -> IntsAre out.toList ns -> ns.Pairwise (· <= ·) -> ns.length = n -> (∀ k, S k = true ↔ k ∈ ns) ->
      Q (.ref p) { s with heap := h', drawn := d', toks := tk }) : wpAny (model P w) A (call (.builtin "sorted") [.ref a]) Q E s := by
  refine Calls.call_function_entry kind_sorted plain_sorted entry_sorted (args_sorted1 _) ?_
  unfold Builtin.«sorted»
  refine wpAny_bind (m := checkCount "sorted" 1 1 _) (wpAny_pure ?_)
  refine wpAny_bind (zxh (by simp [hh]) q (by rw [sizeLine_eq]; omega) fun h1 d1 tk vals ns keep grow htk i1 i2 i3 => ?_)
  refine wpAny_bind (wpAny_newList ?_ (by rw [i1.length, i2, sizeLine_eq]; omega))
  have g0 : (h1.push (seqObj "list" vals.toArray 0)).get? h1.objs.size = some (seqObj "list" vals.toArray 0) := Heap.get?_push_size _ rfl
  refine wpAny_bind (wpAny_holding (wpAny_call_entry (s := { s with heap := h1.push (seqObj "list" vals.toArray 0), drawn := d1, toks := tk }) slot_list_sort ⟨_, g0, rfl⟩ entry_list_sort (list_sort_tree g0 i1 (by rw [i1.length, i2]; exact h64) fun out ns' o1 o2 o3 => ⟨_, rfl, ?_⟩) (args_list_sort _)))
  obtain ⟨e, ge⟩ := sortedHeap_at (out := out) g0
  refine wpAny_pure ⟨_, rfl, hQ _ _ d1 tk e out ns' (fun b o eb => ?_) grow htk ge o1 o3 (by rw [o2.length_eq, i2]) fun k => (i3 k).trans (o2.mem_iff).symm⟩
  have lb : b < h1.objs.size := Heap.lt_size (keep b o eb)
  rw [sortedHeap_old (Nat.ne_of_lt lb) (by rw [Heap.size_push]; exact Nat.lt_succ_of_lt lb)]
  exact Heap.get?_push_of_some _ (keep b o eb)
end
end L2
namespace L2
open PySem PySem.Spec PyProof.Rows
noncomputable def ze3 (x : Int) : List Int -> List Int
  | [] => [x]
  | y :: r => if x < y then x :: y :: r else if x = y then y :: r else y :: ze3 x r
noncomputable def zay (ns : List Int) : List Int := ns.foldr ze3 []
theorem zmc (x k : Int) : ∀ l : List Int, k ∈ ze3 x l ↔ k = x \/ k ∈ l
  | [] => by simp [ze3]
  | y :: r => by
    unfold ze3
    split
    · simp
    · split
      · rename_i e; subst e; simp
      · rw [List.mem_cons, zmc x k r, List.mem_cons]
        constructor
        · rintro (h | h | h)
          · exact .inr (.inl h)
          · exact .inl h
          · exact .inr (.inr h)
        · rintro (h | h | h)
          · exact .inr (.inl h)
          · exact .inl h
          · exact .inr (.inr h)
theorem zqm (x : Int) : ∀ l : List Int, l.Pairwise (· < ·) -> (ze3 x l).Pairwise (· < ·)
  | [], _ => by simp [ze3]
  | y :: r, h => by
    obtain ⟨h1, h2⟩ := List.pairwise_cons.mp h
    unfold ze3
    split
    · rename_i hx
      refine List.pairwise_cons.mpr ⟨fun k hk => ?_, h⟩
      rcases List.mem_cons.mp hk with e | hk
      · subst e; exact hx
      · exact Int.lt_trans hx (h1 k hk)
    · split
      · exact h
      · rename_i a b
        refine List.pairwise_cons.mpr ⟨fun k hk => ?_, zqm x r h2⟩
        rcases (zmc x k r).mp hk with e | hk
        · subst e; omega
        · exact h1 k hk
theorem zdb (k : Int) : ∀ l : List Int, k ∈ zay l ↔ k ∈ l
  | [] => by simp [zay]
  | x :: l => by
    show k ∈ ze3 x (zay l) ↔ _
    rw [zmc, zdb k l, List.mem_cons]
theorem zfi : ∀ l : List Int, (zay l).Pairwise (· < ·)
  | [] => by simp [zay]
  | x :: l => zqm x _ (zfi l)
theorem zit : ∀ (l m : List Int), l.Pairwise (· < ·) -> m.Pairwise (· < ·) -> (∀ k, k ∈ l ↔ k ∈ m) -> l = m
  | [], [], _, _, _ => rfl
  | [], y :: m, _, _, h => by have := (h y).mpr List.mem_cons_self; simp at this
  | x :: l, [], _, _, h => by have := (h x).mp List.mem_cons_self; simp at this
  | x :: l, y :: m, hl, hm, h => by
    obtain ⟨l1, l2⟩ := List.pairwise_cons.mp hl
    obtain ⟨m1, m2⟩ := List.pairwise_cons.mp hm
    have e : x = y := by
      rcases List.mem_cons.mp ((h x).mp List.mem_cons_self) with e | hx
      · exact e
      · rcases List.mem_cons.mp ((h y).mpr List.mem_cons_self) with e | hy
        · exact e.symm
        · have := m1 x hx; have := l1 y hy; omega
    subst e
    rw [zit l m l2 m2 fun k => ?_]
    constructor
    · intro hk
      rcases List.mem_cons.mp ((h k).mp (List.mem_cons_of_mem _ hk)) with e | q
      · have := l1 k hk; omega
      · exact q
    · intro hk
      rcases List.mem_cons.mp ((h k).mpr (List.mem_cons_of_mem _ hk)) with e | q
      · have := m1 k hk; omega
      · exact q
theorem zhn : ∀ (F L : List Int), F.Nodup -> (∀ x ∈ F, x ∈ L) -> L.length <= F.length -> L.Perm F
  | [], L, _, _, h => by
    obtain rfl : L = [] := List.length_eq_zero_iff.mp (by simpa using h)
    exact .refl _
  | x :: F, L, hn, hs, h => by
    obtain ⟨n1, n2⟩ := List.nodup_cons.mp hn
    have hx := hs x List.mem_cons_self
    have p := List.perm_cons_erase hx
    refine p.trans (List.Perm.cons x (zhn F (L.erase x) n2 (fun y hy => ?_) ?_))
    · have ne : y ≠ x := fun e => by subst e; exact n1 hy
      exact (List.mem_erase_of_ne ne).mpr (hs y (List.mem_cons_of_mem _ hy))
    · rw [List.length_erase_of_mem hx]
      simp at h
      omega
theorem zkt (val : Nat -> Int) : ∀ i, (firstMet val i).Nodup
  | 0 => by rw [firstMet_zero]; exact List.nodup_nil
  | i + 1 => by
    rw [firstMet_succ]
    unfold step_dedup
    split
    · exact zkt val i
    · rename_i h
      refine List.nodup_append.mpr ⟨zkt val i, by simp, fun a ha b hb e => ?_⟩
      have : b = val i := by simpa using hb
      rw [e, this] at ha
      exact h (List.any_eq_true.mpr ⟨_, ha, by simp⟩)
theorem zqv (ns : List Int) (k : Int) : (firstMet (fun i => ns.getD i 0) ns.length).any (· == k) = true ↔ k ∈ ns := by
  rw [firstMet_any]
  have e : (List.range ns.length).map (fun i => ns.getD i 0) = ns := by
    refine List.ext_getElem? fun i => ?_
    rw [List.getElem?_map]
    by_cases hi : i < ns.length
    · rw [List.getElem?_range hi]
      simp [List.getD_eq_getElem?_getD, hi]
    · rw [List.getElem?_eq_none (by rw [List.length_range]; omega), List.getElem?_eq_none (by omega)]
      rfl
  rw [e, List.any_eq_true]
  exact ⟨fun ⟨x, hx, q⟩ => by have := beq_iff_eq.mp q; exact this ▸ hx, fun h => ⟨k, h, by simp⟩⟩
theorem zvh {ns out : List Int} (hs : out.Pairwise (· <= ·)) (hl : out.length = (firstMet (fun i => ns.getD i 0) ns.length).length) (hm : ∀ k, (firstMet (fun i => ns.getD i 0) ns.length).any (· == k) = true ↔ k ∈ out) : out = zay ns := by
  have nd := zkt (fun i => ns.getD i 0) ns.length
  have p := zhn _ out nd (fun x hx => (hm x).mp (List.any_eq_true.mpr ⟨x, hx, by simp⟩)) (by omega)
  have nd' : out.Nodup := p.nodup_iff.mpr nd
  have lt : out.Pairwise (· < ·) := by
    refine List.Pairwise.imp₂ (fun a b h1 h2 => ?_) hs nd'
    exact Int.lt_iff_le_and_ne.mpr ⟨h1, h2⟩
  exact zit _ _ lt (zfi ns) fun k => by rw [<- hm k, zqv, zdb]
theorem z21 (ns : List Int) : (zay ns).length = (firstMet (fun i => ns.getD i 0) ns.length).length := by
  have nd := zkt (fun i => ns.getD i 0) ns.length
  have nd' : (zay ns).Nodup := (zfi ns).imp fun h => Int.ne_of_lt h
  have m : ∀ x, x ∈ firstMet (fun i => ns.getD i 0) ns.length ↔ x ∈ zay ns := fun x => by
    refine Iff.trans ?_ (zdb x ns).symm
    refine Iff.trans ?_ (zqv ns x)
    rw [List.any_eq_true]
    exact ⟨fun h => ⟨x, h, by simp⟩, fun ⟨y, hy, q⟩ => by have := beq_iff_eq.mp q; exact this ▸ hy⟩
  rcases Nat.le_total (zay ns).length (firstMet (fun i => ns.getD i 0) ns.length).length with h | h
  · exact (zhn _ _ nd (fun x hx => (m x).mp hx) h).length_eq
  · exact (zhn _ _ nd' (fun x hx => (m x).mpr hx) h).length_eq.symm
section
variable {X : Cx} {pins : List (Addr × Obj)} {σ : St} {H : Hp} {s : Shared}
theorem Inv.draws (I : Inv X pins σ H s) (d' : Drawn) : Inv X pins σ H { s with drawn := d' } := by
  refine I.step (g' := s.gens) (d' := d') (t' := s.toks) (h' := s.heap) (ch := []) (fun b hb => by cases hb) (fun b o _ _ _ e _ => e) (fun b o _ _ _ e _ => ⟨o.slots, e⟩) (fun _ _ _ _ n => n)
    (fun b o _ e => ⟨o, e⟩) (fun _ _ e => e) (fun _ _ _ e => e) (fun b ps e => ⟨#[], by rw [e]; simp⟩) (fun m hm => hm) I.hok I.bare
end
end L2
namespace L2
open PySem PySem.Spec PyProof.Rows
theorem zrt : ∀ {vs : List Value} {ns : List Int}, IntsAre vs ns -> zaj (ns.map V.int) vs
  | _, _, .nil => .nil
  | _, _, .cons n t h => .cons ⟨t, rfl⟩ (zrt h)
theorem zo2 : ∀ {ns : List Int} {vs : List Value}, zaj (ns.map V.int) vs -> IntsAre vs ns
  | [], _, .nil => .nil
  | n :: ns, _, .cons ⟨t, e⟩ h => by subst e; exact .cons n t (zo2 h)
noncomputable def tSS (K : PySem.W.Frag) (te : TE) : TE := fun σ H Q => te σ H fun x H1 => ∃ l ns, x = .ref l /\ SqL K H1 l (ns.map V.int) /\ ns.length < 4000 /\ (zay ns).length < 64 /\ ∀ p, H1 p = none -> Q (.ref p) (upd H1 p (.lst ((zay ns).map V.int)))
section
variable {X : Cx} {e : Expr} {te : TE} {p p2 pos pos2 : Pos}
theorem z2z (hc : X.calm = true) (hgs : Gl X "sorted") (hms : X.mg "sorted" = none) (hgt : Gl X "set") (hmt : X.mg "set" = none) (he : PE X e te)
    (h1 : starEach [.Call (.Name "set" p2) [e] [] pos2] X.env = (false, eval (.Call (.Name "set" p2) [e] [] pos2) X.env) :: starEach [] X.env := by rfl) (h2 : starEach [e] X.env = (false, eval e X.env) :: starEach [] X.env := by rfl)
    (hpl : (backTo pos (starEach [] X.env)).any (·.1) = false := by rfl) (hpl2 : (backTo pos2 (starEach [] X.env)).any (·.1) = false := by rfl) :
    PE X (.Call (.Name "sorted" p) [.Call (.Name "set" p2) [e] [] pos2] [] pos) (tSS X.K te) := by
  intro pins s σ H Q I h
  refine wpAny_Call_Name_kw (zfy I hgs hms boot_sorted ?_)
  refine PyProof.Rows.callWith_builtin1 ?_ h1 hpl
  rw [h1]
  show wpAny _ _ (spliced ((false, eval (.Call (.Name "set" p2) [e] [] pos2) X.env) :: backTo pos (starEach [] X.env))) _ _ s
  refine Calls.spliced_cons (wpAny_Call_Name_kw (zfy I hgt hmt boot_set ?_))
  refine PyProof.Rows.callWith_type1 ?_ h2 hpl2
  rw [h2]
  show wpAny _ _ (spliced ((false, eval e X.env) :: backTo pos2 (starEach [] X.env))) _ _ s
  refine Calls.spliced_cons (thn (he pins s σ H _ I h) fun u s1 q_ => ?_)
  obtain ⟨x, H1, I1, r1, l, ns, e1, hq, hb, h64, q⟩ := q_
  subst e1
  cases r1
  refine wpAny_pure ?_
  obtain ⟨its, rr, pl, hz⟩ := I1.list hq
  have ii : IntsAre its ns := zo2 rr
  have zz : its.toArray.size = ns.length := by rw [List.size_toArray, ii.length]
  refine z3k (items := its.toArray) (ns := ns) (I1.ok.hd hc) pl.isList (by simpa using ii) (by rw [zz]; unfold scanBound; omega) fun h' tk qs keep htk => ?_
  rw [zz] at qs
  refine wpAny_pure ?_
  have lt : s1.heap.objs.size < h'.objs.size := by obtain ⟨o, _, _, _, ho, _⟩ := id qs; exact Heap.lt_size ho
  refine zxl (s := { s1 with heap := h', toks := tk }) (I1.ok.hd hc) qs (by rw [<- z21]; exact h64) fun pp h'' d'' tk'' ep out ns' keep2 gp htk2 ge o1 o3 o4 o5 => ?_
  have en : ns' = zay ns := zvh o3 o4 o5
  subst en
  refine ⟨.ref pp, _, ((I1.laid (h' := h'') (t' := tk'') (a := pp) (o := .lst ((zay ns).map V.int)) (fun b u g => keep2 _ _ (keep b u (Heap.lt_size g) g)) (Nat.le_trans (Nat.le_of_lt lt) gp) ?_).draws d''), rfl, q pp (I1.hok.fresh (Nat.le_trans (Nat.le_of_lt lt) gp))⟩
  exact ⟨by rw [List.length_map, sizeLine_eq]; omega, out.toList, ep, zrt o1, by simpa using ge⟩
end
noncomputable def zsD : List D -> Option (List Int)
  | [] => some []
  | .int i :: r => (zsD r).map (i :: ·)
  | _ :: _ => none
theorem zo7 : ∀ {ds : List D} {ns : List Int}, zsD ds = some ns -> ds = ns.map D.int
  | [], _, h => by cases h; rfl
  | .int i :: r, ns, h => by
    replace h : (zsD r).map (i :: ·) = some ns := h
    cases e : zsD r with
    | none => rw [e] at h; cases h
    | some m => rw [e] at h; cases h; rw [zo7 e]; rfl
  | .non :: _, _, h => by cases h
  | .bl _ :: _, _, h => by cases h
  | .str _ :: _, _, h => by cases h
  | .lst _ :: _, _, h => by cases h
  | .tup _ :: _, _, h => by cases h
  | .kl _ :: _, _, h => by cases h
  | .kt _ :: _, _, h => by cases h
  | .dic _ _ :: _, _, h => by cases h
  | .ins _ _ _ :: _, _, h => by cases h
theorem zsq : ∀ (ns : List Int), zsD (ns.map D.int) = some ns
  | [] => rfl
  | n :: ns => by show (zsD (ns.map D.int)).map (n :: ·) = _; rw [zsq ns]; rfl
theorem zsi {G : Gc} {H : Hp} : ∀ {ns : List Int} {vs : List V}, zae G H (ns.map D.int) vs -> vs = ns.map V.int
  | [], _, h => h
  | n :: ns, _, ⟨v, r, e, h1, h2⟩ => by rw [e, show v = V.int n from h1, zsi h2]; rfl
noncomputable def zi9 (f : List Sl -> Option D) (ρ : List Sl) : Option (List D) := (f ρ).bind fun d => (lsD d).bind fun ds => (zsD ds).bind fun ns => if ns.length < 4000 /\ (zay ns).length < 64 then some ((zay ns).map .int) else none
section
variable {c : Str -> Addr} {X : Cx} {e : Expr} {p p2 pos pos2 : Pos}
theorem z4o {f : List Sl -> Option D} (hc : X.calm = true) (hgs : Gl X "sorted") (hms : X.mg "sorted" = none) (hgt : Gl X "set") (hmt : X.mg "set" = none) (ha : DE c X e f)
    (h1 : starEach [.Call (.Name "set" p2) [e] [] pos2] X.env = (false, eval (.Call (.Name "set" p2) [e] [] pos2) X.env) :: starEach [] X.env := by rfl) (h2 : starEach [e] X.env = (false, eval e X.env) :: starEach [] X.env := by rfl)
    (hpl : (backTo pos (starEach [] X.env)).any (·.1) = false := by rfl) (hpl2 : (backTo pos2 (starEach [] X.env)).any (·.1) = false := by rfl) : DO c X (.Call (.Name "sorted" p) [.Call (.Name "set" p2) [e] [] pos2] [] pos) (zi9 f) :=
  PE.imp (z2z hc hgs hms hgt hmt ha h1 h2 hpl hpl2) fun σ H Q q_ => by
    obtain ⟨Hf0, H0, Hf, ρ, ds, st, ef, k⟩ := q_
    unfold zi9 at ef
    cases e1 : f ρ with
    | none => rw [e1] at ef; cases ef
    | some d =>
      rw [e1] at ef
      cases e2 : lsD d with
      | none => rw [Option.bind_some, e2] at ef; cases ef
      | some xs =>
        rw [Option.bind_some, e2] at ef
        cases e3 : zsD xs with
        | none => rw [Option.bind_some, e3] at ef; cases ef
        | some ns =>
          rw [Option.bind_some, e3, Option.bind_some] at ef
          split at ef
          · rename_i hl
            cases ef
            refine ⟨Hf0, H0, Hf, ρ, d, st, e1, fun v Hf' H' x r => ?_⟩
            obtain ⟨l, vs, el, q, rs⟩ := zgb e2 r
            rw [zo7 e3] at rs
            have ev := zsi rs
            subst ev el
            exact ⟨l, ns, rfl, x.s.seq q, hl.1, hl.2, fun pp hp => k pp _ Hf' _ (x.trans (Ext.tmp x.s hp)) (x.h.free hp) (x.s.free hp) zbe (zae.ints _)⟩
          · cases ef
noncomputable def zef (f g : List Sl -> Option D) (ρ : List Sl) : Option (List D) := (f ρ).bind fun x => (g ρ).bind fun y => match x, y with
  | .lst a, .lst b => if a.length + b.length <= 16777216 then some (a ++ b) else none
  | _, _ => none
theorem zy8 {f g : List Sl -> Option D} {ρ : List Sl} {ds : List D} (h : zef f g ρ = some ds) : ∃ a b, f ρ = some (.lst a) /\ g ρ = some (.lst b) /\ a.length + b.length <= 16777216 /\ ds = a ++ b := by
  unfold zef at h
  cases e1 : f ρ with
  | none => rw [e1] at h; cases h
  | some x =>
    cases e2 : g ρ with
    | none => rw [e1, e2] at h; cases h
    | some y =>
      rw [e1, e2, Option.bind_some, Option.bind_some] at h
      split at h
      · split at h
        · rename_i a b hl
          cases h
          exact ⟨a, b, rfl, rfl, hl, rfl⟩
        · cases h
      · cases h
theorem zk2 {a b : Expr} {f g : List Sl -> Option D} (ha : DE c X a f) (hb : DE c X b g) : DO c X (.BinOp a .Add b pos) (zef f g) := PE.imp (zs2 zpr ha hb) fun σ H Q q_ => by
  obtain ⟨Hf0, H0, Hf, ρ, ds, st, ef, k⟩ := q_
  obtain ⟨xs, ys, e1, e2, hl, rfl⟩ := zy8 ef
  refine ⟨Hf0, H0, Hf, ρ, _, st, e1, fun v Hf1 H1 x1 r1 => ⟨Hf0, H0, Hf1, ρ, _, st.step x1, e2, fun u Hf2 H2 x2 r2 => ?_⟩⟩
  obtain ⟨l, vs, el, q1, s1⟩ := r1.up x2.f
  obtain ⟨m, us, em, q2, s2⟩ := r2
  subst el em
  have x := x1.trans x2
  exact ⟨l, m, vs, us, rfl, rfl, x2.s _ _ q1, x2.s _ _ q2, by rw [sizeLine_eq, <- s1.length, <- s2.length]; exact hl, fun p hp => k p _ Hf2 _ (x.trans (Ext.tmp x.s hp)) (x.h.free hp) (x.s.free hp) zbe (s1.append s2)⟩
end
end L2
namespace L2
open PySem PySem.Spec PyProof.Rows
noncomputable def wp (F : List Sl -> Option Fl) (ρ : List Sl) (K : Fl -> Prop) : Prop := ∃ o, F ρ = some o /\ K o
noncomputable def zti (F : List Sl -> Option Fl) (K : Fl -> Prop) : Fl -> Prop
  | .nx ρ => wp F ρ K
  | o => K o
noncomputable def ztf (J : List Sl -> Prop) (K : Fl -> Prop) : Fl -> Prop
  | .nx ρ => J ρ
  | .ct ρ => J ρ
  | .bk ρ => K (.nx ρ)
  | o => K o
noncomputable def zla (Q : D -> Prop) (o : Fl) : Prop := ∃ d, zm1 o = some d /\ Q d
theorem za0 {F F' : List Sl -> Option Fl} {ρ : List Sl} {K : Fl -> Prop} (h : wp F ρ (zti F' K)) : wp (zal F F') ρ K := by
  obtain ⟨o, e, k⟩ := h
  unfold wp zal
  rw [e]
  cases o with
  | nx ρ' => exact k
  | _ => exact ⟨_, rfl, k⟩
theorem zb3 {ρ : List Sl} {K : Fl -> Prop} (h : K (.nx ρ)) : wp zbn ρ K := ⟨_, rfl, h⟩
theorem zbx {i : Nat} {f : List Sl -> Option D} {ρ : List Sl} {d : D} {K : Fl -> Prop} (h : f ρ = some d) (k : K (.nx (ρ.set i (.im d)))) : wp (zbb i f) ρ K := ⟨_, zuc h, k⟩
theorem zkh {i : Nat} {f : List Sl -> Option (List D)} {ρ : List Sl} {d : List D} {K : Fl -> Prop} (h : f ρ = some d) (k : K (.nx (ρ.set i (.own d)))) : wp (zdw i f) ρ K := ⟨_, z1e h, k⟩
theorem zfo {f : List Sl -> Option D} {ρ : List Sl} {d : D} {K : Fl -> Prop} (h : f ρ = some d) (k : K (.rt d)) : wp (za6 f) ρ K := ⟨_, zcx h, k⟩
theorem zfp {f : List Sl -> Option (List D)} {ρ : List Sl} {d : List D} {K : Fl -> Prop} (h : f ρ = some d) (k : K (.rtO d)) : wp (zdr f) ρ K := ⟨_, by unfold zdr; rw [h]; rfl, k⟩
theorem zs1 {F : List Sl -> Option Fl} {ρ : List Sl} {o : Fl} {K : Fl -> Prop} (h : F ρ = some o) (k : K o) : wp F ρ K := ⟨_, h, k⟩
theorem zbg {t : List Sl -> Option Bool} {F F' : List Sl -> Option Fl} {ρ : List Sl} {b : Bool} {K : Fl -> Prop} (h : t ρ = some b) (kT : b = true -> wp F ρ K) (kF : b = false -> wp F' ρ K) : wp (za9 t F F') ρ K := by
  unfold wp za9
  rw [h]
  cases b with
  | true => exact kT rfl
  | false => exact kF rfl
theorem ztq {i : Nat} {F : List Sl -> Option Fl} {ρ ρ' : List Sl} {K : Fl -> Prop} (e : zmh i ρ = ρ') (h : wp F ρ' K) : wp (zhq i F) ρ K := by
  subst e
  exact h
theorem zgr {i : Nat} {f : List Sl -> Option D} {ρ : List Sl} {d : D} {xs : List D} {K : Fl -> Prop} (h : f ρ = some d) (h' : ρ[i]? = some (.own xs)) (hl : xs.length < 16777216) (k : K (.nx (ρ.set i (.own (xs ++ [d]))))) : wp (zec i f) ρ K := ⟨_, zw6 h h' hl, k⟩
theorem zfz {i : Nat} {fk fv : List Sl -> Option D} {ρ : List Sl} {d : D} {xs : List D} {k : Int} (hv : fv ρ = some d) (hk : fk ρ = some (.int k)) (h' : ρ[i]? = some (.own xs)) (h0 : 0 <= k) (h1 : k < xs.length) : ze2 i fk fv ρ = some (.nx (ρ.set i (.own (xs.set k.toNat d)))) := by
  have e : ixN xs.length k = some k.toNat := by
    unfold ixN
    rw [if_pos h0, if_pos h1]
  unfold ze2
  rw [hv, Option.bind_some, hk, Option.bind_some]
  show (match ρ[i]? with | some (.own xs) => (ixN xs.length k).map fun j => Fl.nx (ρ.set i (.own (xs.set j d))) | _ => none) = _
  rw [h']
  show (ixN xs.length k).map _ = _
  rw [e]
  rfl
theorem zn2 {i : Nat} {fk fv : List Sl -> Option D} {ρ : List Sl} {d : D} {xs : List D} {k : Int} {K : Fl -> Prop} (hv : fv ρ = some d) (hk : fk ρ = some (.int k)) (h' : ρ[i]? = some (.own xs)) (h0 : 0 <= k) (h1 : k < xs.length) (q : K (.nx (ρ.set i (.own (xs.set k.toNat d))))) : wp (ze2 i fk fv) ρ K := ⟨_, zfz hv hk h' h0 h1, q⟩
theorem zop {α : Type} {g : D -> List Sl -> Option (List Sl)} {F : List Sl -> Option Fl} {K : Fl -> Prop} (f : α -> D) (I : List α -> List Sl -> Prop) : ∀ (post pre : List α) (ρ : List Sl), I pre ρ ->
    (∀ pre' x post' ρ, pre ++ post = pre' ++ x :: post' -> I pre' ρ -> ∃ ρ1, g (f x) ρ = some ρ1 /\ wp F ρ1 (ztf (I (pre' ++ [x])) K)) -> (∀ ρ', I (pre ++ post) ρ' -> K (.nx ρ')) -> wp (zev g F (post.map f)) ρ K
  | [], pre, ρ, h, _, hk => ⟨_, rfl, hk ρ (by rw [List.append_nil]; exact h)⟩
  | x :: post, pre, ρ, h, hs, hk => by
    obtain ⟨ρ1, e1, o, e2, k2⟩ := hs pre x post ρ rfl h
    unfold wp
    rw [List.map_cons]
    unfold zev
    rw [e1, Option.bind_some, e2, Option.bind_some]
    have go : ∀ ρ2, I (pre ++ [x]) ρ2 -> wp (zev g F (post.map f)) ρ2 K := fun ρ2 h2 =>
      zop f I post (pre ++ [x]) ρ2 h2 (by rw [List.append_assoc]; exact hs) (by rw [List.append_assoc]; exact hk)
    cases o with
    | nx ρ2 => exact go ρ2 k2
    | ct ρ2 => exact go ρ2 k2
    | bk ρ2 => exact ⟨_, rfl, k2⟩
    | rt d => exact ⟨_, rfl, k2⟩
    | rtO d => exact ⟨_, rfl, k2⟩
    | rtS d ρ2 => exact ⟨_, rfl, k2⟩
    | rtT o => exact ⟨_, rfl, k2⟩
theorem zd2 {α : Type} {fi : List Sl -> Option (List D)} {g : D -> List Sl -> Option (List Sl)} {F : List Sl -> Option Fl} {ρ : List Sl} {K : Fl -> Prop} (xs : List α) (f : α -> D) (I : List α -> List Sl -> Prop) (hi : fi ρ = some (xs.map f)) (h0 : I [] ρ)
    (hs : ∀ pre x post ρ, xs = pre ++ x :: post -> I pre ρ -> ∃ ρ1, g (f x) ρ = some ρ1 /\ wp F ρ1 (ztf (I (pre ++ [x])) K)) (hk : ∀ ρ', I xs ρ' -> K (.nx ρ')) : wp (zcv fi g F) ρ K := by
  obtain ⟨o, e, k⟩ := zop f I xs [] ρ h0 hs hk
  refine ⟨o, ?_, k⟩
  unfold zcv
  rw [hi]
  exact e
theorem zf4 {n : Nat} {F : List Sl -> Option Fl} {ds : List D} {Q : D -> Prop} (h : wp F (zd3 n ds) (zla Q)) : ∃ d, zbf n F ds = some d /\ Q d := by
  obtain ⟨o, e, d, e', q⟩ := h
  refine ⟨d, ?_, q⟩
  unfold zbf
  rw [e]
  exact e'
theorem zeg {n : Nat} {F : List Sl -> Option Fl} {ds : List D} {r : D} (h : wp F (zd3 n ds) (zla fun d => d = r)) : zbf n F ds = some r := by
  obtain ⟨d, e, q⟩ := zf4 h
  rw [e, q]
theorem zdl {Q : D -> Prop} {d : D} (h : Q d) : zla Q (.rt d) := ⟨d, rfl, h⟩
theorem zc7 {Q : D -> Prop} {d : List D} (h : Q (.lst d)) : zla Q (.rtO d) := ⟨.lst d, rfl, h⟩
theorem zmx {t : List Sl -> Option Bool} {f g : List Sl -> Option D} {ρ : List Sl} {b : Bool} {r : Option D} (h : t ρ = some b) (hT : b = true -> f ρ = r) (hF : b = false -> g ρ = r) : vIf t f g ρ = r := by
  unfold vIf
  rw [h]
  cases b with
  | true => exact hT rfl
  | false => exact hF rfl
theorem zzg {m : List D -> Option D} {f : List Sl -> Option (List D)} {ρ : List Sl} {ds : List D} {d : D} (h : f ρ = some ds) (h' : m ds = some d) (hs : d.scalar = true) : zol m f ρ = some d := by
  unfold zol
  rw [h, Option.bind_some, h', Option.bind_some, if_pos hs]
theorem zjs {i j : Int} (h : 0 < j) : za3 (.int i) (.int j) = some (.int (i % j)) := zid h
theorem zu5 {i j : Int} (h : zi0 i j) : zfb (.int i) (.int j) = some (.int (i / j)) := zid h
theorem z3f {i j : Int} (h : zgt i j) : z45 (.int i) (.int j) = some (.int (i * j)) := zid h
theorem zts {i j : Int} (h : zib i j) : zob (.int i) (.int j) = some (.int (i ^ j.toNat)) := zid h
theorem zy4 {i j : Int} (h : 0 <= j) : z4n (.int i) (.int j) = some (.int (i / 2 ^ j.toNat)) := zid h
theorem zrm {i j : Int} : zbt (.int i) (.int j) = some (.int (i + j)) := rfl
theorem zlp {i j : Int} : zf2 (.int i) (.int j) = some (.int (i - j)) := rfl
theorem z2i {i j : Int} : zz8 (.int i) (.int j) = some (.int (Builtin.bitAnd i j)) := rfl
theorem zxm {i j : Int} : dLt (.int i) (.int j) = some (.bl (decide (i < j))) := rfl
theorem z17 {i j : Int} : dLe (.int i) (.int j) = some (.bl (decide (i <= j))) := rfl
theorem z07 {i j : Int} : dGt (.int i) (.int j) = some (.bl (decide (j < i))) := rfl
theorem zrs {i j : Int} : dGe (.int i) (.int j) = some (.bl (decide (j <= i))) := rfl
theorem zl4 {α : Type} (xs : List α) (f : α -> D) : zd4 [.lst (xs.map f)] = some (.int xs.length) := by
  show some (D.int ((xs.map f).length : Int)) = _
  rw [List.length_map]
theorem zw2 {α : Type} (xs : List α) (f : α -> D) : zd4 [.kl (xs.map f)] = some (.int xs.length) := by
  show some (D.int ((xs.map f).length : Int)) = _
  rw [List.length_map]
theorem zsw {α : Type} (f : α -> D) (xs : List α) (lo hi : Option Int) : zga (xs.map f) lo hi = ((xs.drop (HT.sIx xs.length 0 lo)).take (HT.sIx xs.length xs.length hi - HT.sIx xs.length 0 lo)).map f := by
  unfold zga
  rw [List.length_map, List.map_take, List.map_drop]
theorem zft {α : Type} {f : List Sl -> Option D} {l h : List Sl -> Option (Option Int)} {ρ : List Sl} {g : α -> D} {xs : List α} {lo hi : Option Int} (e : f ρ = some (.lst (xs.map g))) (e1 : l ρ = some lo) (e2 : h ρ = some hi) : mSl f l h ρ = some (((xs.drop (HT.sIx xs.length 0 lo)).take (HT.sIx xs.length xs.length hi - HT.sIx xs.length 0 lo)).map g) := by
  unfold mSl
  rw [e, Option.bind_some]
  show (l ρ).bind (fun lo => (h ρ).map fun hi => zga (xs.map g) lo hi) = _
  rw [e1, Option.bind_some, e2, <- zsw]
  rfl
theorem zs0 {α : Type} {f : List Sl -> Option D} {l h : List Sl -> Option (Option Int)} {ρ : List Sl} {g : α -> D} {xs : List α} {lo hi : Option Int} (e : f ρ = some (.kl (xs.map g))) (e1 : l ρ = some lo) (e2 : h ρ = some hi) : mSl f l h ρ = some (((xs.drop (HT.sIx xs.length 0 lo)).take (HT.sIx xs.length xs.length hi - HT.sIx xs.length 0 lo)).map g) := by
  unfold mSl
  rw [e, Option.bind_some]
  show (l ρ).bind (fun lo => (h ρ).map fun hi => zga (xs.map g) lo hi) = _
  rw [e1, Option.bind_some, e2, <- zsw]
  rfl
theorem zp2 {α : Type} (xs : List α) (f : α -> D) : dEq (.lst (xs.map f)) (.lst []) = some (.bl xs.isEmpty) := by cases xs <;> rfl
theorem z28 {α : Type} (xs : List α) (f : α -> D) : dNe (.lst (xs.map f)) (.lst []) = some (.bl (!xs.isEmpty)) := by cases xs <;> rfl
theorem z06 {α : Type} (g : α -> D) (d : α) : ∀ (xs : List α), zgp 0 (xs.map g) = (List.range xs.length).map fun i => D.tup [.int (i : Nat), g (xs.getD i d)] := fun xs => by
  refine List.ext_getElem? fun i => ?_
  rw [zn3, List.getElem?_map, List.getElem?_map]
  by_cases h : i < xs.length
  · rw [List.getElem?_eq_getElem h, List.getElem?_range h, Nat.zero_add]
    simp [h]
  · rw [List.getElem?_eq_none (by omega), List.getElem?_eq_none (by rw [List.length_range]; omega)]
    rfl
theorem ztt {α : Type} {f : List Sl -> Option (List D)} {ρ : List Sl} {g : α -> D} {xs : List α} (d : α) (e : f ρ = some [.lst (xs.map g)]) : ziw f ρ = some ((List.range xs.length).map fun i => D.tup [.int (i : Nat), g (xs.getD i d)]) := by
  unfold ziw
  rw [e, <- z06]
  rfl
theorem zw7 {α : Type} (f : α -> Int) (xs : List α) : (xs.map fun x => D.int (f x)) = (xs.map f).map D.int := by
  rw [List.map_map]
  rfl
noncomputable def kJ (J : List Sl -> Prop) (o : Fl) : Prop := ∃ ρ', o = .nx ρ' /\ J ρ'
theorem k_J {J : List Sl -> Prop} {ρ : List Sl} (h : J ρ) : kJ J (.nx ρ) := ⟨ρ, rfl, h⟩
theorem zfs {S F : List Sl -> Option Fl} {ρ : List Sl} {K : Fl -> Prop} (J : List Sl -> Prop) (h : wp S ρ (kJ J)) (k : ∀ ρ', J ρ' -> wp F ρ' K) : wp (zal S F) ρ K := by
  apply za0
  obtain ⟨o, e, ρ', rfl, j⟩ := h
  exact ⟨_, e, k ρ' j⟩
theorem z2x {i : Nat} {ρ : List Sl} {d : D} {K : Fl -> Prop} (h : ρ[i]? = some (.im d)) (k : K (.rt d)) : wp (zdj i) ρ K := ⟨_, by unfold zdj; rw [h], k⟩
theorem zgi {i : Nat} {ρ : List Sl} {d : List D} {K : Fl -> Prop} (h : ρ[i]? = some (.own d)) (k : K (.rtO d)) : wp (zdj i) ρ K := ⟨_, by unfold zdj; rw [h], k⟩
end L2
namespace L2
open PySem PySem.Spec PyProof.Rows
theorem zae.sc {G : Gc} {H H' : Hp} : ∀ {ds : List D} {vs : List V}, ds.all D.scalar = true -> zae G H ds vs -> zae G H' ds vs
  | [], _, _, h => h
  | d :: ds, _, hs, ⟨v, r, e, h1, h2⟩ => by
    rw [List.all_cons, Bool.and_eq_true] at hs
    exact ⟨v, r, e, h1.sc hs.1, zae.sc hs.2 h2⟩
section
variable {c : Str -> Addr} {X : Cx} {e : Expr} {es : List Expr} {x : Str} {p pos : Pos} {k : Nat} {f : Addr} {fd : FuncData} {ps : List Str} {fa : List Sl -> Option (List D)}
end
theorem zqk {m : List D -> Option (List D)} {f : List Sl -> Option (List D)} {ρ : List Sl} {ds rs : List D} (h : f ρ = some ds) (h' : m ds = some rs) : zjn m f ρ = some rs := by
  unfold zjn
  rw [h, Option.bind_some, h']
theorem z38 {n : Nat} {F : List Sl -> Option Fl} {ds rs : List D} (h : F (zd3 n ds) = some (.rtO rs)) : ziq n F ds = some rs := by
  unfold ziq
  rw [h]
  rfl
end L2
namespace L2
open PySem PySem.Spec PyProof.Rows
theorem zs7 {k : Int} {n : Nat} (h : k.natAbs < 2 ^ n) : Builtin.Int.intBits k <= n := by
  unfold Builtin.Int.intBits
  split
  · exact Nat.zero_le _
  · rename_i hk
    have : k.natAbs ≠ 0 := fun z => hk (by rw [Int.natAbs_eq_zero.mp z]; rfl)
    exact (Nat.log2_lt this).mpr h
noncomputable def zeq (i j : Int) : Prop := zgt i j \/ (i.natAbs < 2 ^ 200 /\ j.natAbs < 2 ^ 200)
theorem zeq.ok {i j : Int} (h : zeq i j) : IntMulOk i j := by
  rcases h with h | ⟨h1, h2⟩
  · exact h.ok
  · have a := zs7 h1
    have b := zs7 h2
    unfold IntMulOk
    have : Builtin.Int.intTooBig (Builtin.Int.intBits i + Builtin.Int.intBits j) = false := by
      unfold Builtin.Int.intTooBig
      have c : (400 : Int) <= bitsLine := by decide
      exact decide_eq_false (by omega)
    rw [this, Bool.and_false]
    exact Bool.false_ne_true
noncomputable instance {i j : Int} : Decidable (zeq i j) := by unfold zeq; infer_instance
noncomputable abbrev zcc : D -> D -> Option D := dI zeq fun i j => .int (i * j)
section
variable {c : Str -> Addr} {X : Cx}
theorem zy9 : OpR X (binaryOp .Mult) (rI zeq fun i j => .int (i * j)) := opI fun _ _ _ _ _ _ _ hc q => mul_int q hc.ok
theorem zdz : OpD c X (binaryOp .Mult) zcc := zkf zy9 fun _ _ _ _ => rfl
end
theorem z0h {i j : Int} (h : zeq i j) : zcc (.int i) (.int j) = some (.int (i * j)) := zid h
end L2
namespace L2
open PySem PySem.Spec PyProof.Rows
noncomputable def zhk (H : Hp) (l : Addr) : Hp := fun a => if a = l then none else H a
theorem zyw {H : Hp} {l : Addr} : zhk H l l = none := by unfold zhk; rw [if_pos rfl]
theorem zus {H : Hp} {l a : Addr} (h : a ≠ l) : zhk H l a = H a := by unfold zhk; rw [if_neg h]
section
variable {P : Program} {w : World} {K : PySem.W.Frag} {mg : Str -> Option Value} {base : Heap} {c : Str -> Addr}
end
section
variable {c : Str -> Addr} {X : Cx} {k : Nat} {f C : Addr} {fd : FuncData} {ps : List Str} {x : Str} {p pos apos : Pos} {e o tg iter : Expr} {es : List Expr} {fa ga : List Sl -> Option (List D)} {i : Nat}
end
end L2
namespace L2
open PySem PySem.Spec PyProof.Rows
open Classical in
section
variable {P : Program} {w : World} {K : PySem.W.Frag} {mg : Str -> Option Value} {base : Heap} {c : Str -> Addr}
end
theorem zai.giveS {G : Gc} {Hf0 H0 Hf H : Hp} {σ : St} {ρ : List Sl} {i : Nat} {l : Addr} {s : Sl} (hs : s.isOwn = true) (h : zai G Hf0 H0 Hf H σ ρ) (e : ρ[i]? = some s) (el : σ[i]? = some (some (.ref l))) : zai G Hf0 H0 Hf (zhk H l) σ (ρ.set i .no) := by
  refine h.chg e el (fun b u hb => ?_) trivial fun a p => (p.calm rfl).elim
  by_cases hl : b = l
  · subst hl; exact .inl ((Holds.own hs).mpr rfl)
  · exact .inr (by rw [zus hl]; exact hb)
theorem zai.back {G : Gc} {Hf0 H0 Hf H Hf' H' : Hp} {σ : St} {ρ : List Sl} {i : Nat} {l : Addr} {s s' : Sl} (hs : s.isOwn = true) (hs' : s'.isOwn = true) (h : zai G Hf0 H0 Hf H σ ρ) (e : ρ[i]? = some s) (el : σ[i]? = some (some (.ref l))) (x : Ext Hf (zhk H l) Hf' H') (hf : Hf' l = none) (ho : zc9 G Hf' H' l s') : zai G Hf0 H0 Hf' H' σ (ρ.set i s') := by
  have := (h.giveS hs e el).setOwn (i := i) (l := l) hs' x zyw hf ho
  rw [List.set_set] at this
  have e2 : σ.set i (some (.ref l)) = σ := by
    apply List.ext_getElem?
    intro j
    by_cases hj : i = j
    · subst hj
      rw [List.getElem?_set_self (List.getElem?_eq_some_iff.mp el).1, el]
    · rw [List.getElem?_set_ne hj]
  rw [e2] at this
  exact this
section
variable {c : Str -> Addr} {X : Cx} {k n0 : Nat} {f : Addr} {fd : FuncData} {ps : List Str} {x : Str} {p pos pos' : Pos} {e : Expr} {es : List Expr} {fa : List Sl -> Option (List D × List D)} {i : Nat}
open Classical in
end
end L2
namespace L2
open PySem PySem.Spec PyProof.Rows
noncomputable def Fre (B Hf : Hp) (fp : List Addr) : Prop := fp.Nodup /\ ∀ a ∈ fp, B a = none /\ Hf a = none
theorem Fre.nil {B Hf : Hp} : Fre B Hf [] := ⟨.nil, fun _ h => nomatch h⟩
theorem Fre.one {B Hf : Hp} {l : Addr} (h : B l = none) (h' : Hf l = none) : Fre B Hf [l] := ⟨List.nodup_cons.mpr ⟨List.not_mem_nil, List.nodup_nil⟩, fun a ha => by rw [List.mem_singleton.mp ha]; exact ⟨h, h'⟩⟩
theorem Fre.imp {B B' Hf : Hp} {fp : List Addr} (h : Fre B Hf fp) (k : ∀ a, B a = none -> B' a = none) : Fre B' Hf fp := ⟨h.1, fun a ha => ⟨k a (h.2 a ha).1, (h.2 a ha).2⟩⟩
noncomputable def bsH (b : Bool) (H0 H : Hp) : Hp := bif b then H else H0
noncomputable def tDZ (G : Gc) (b : Bool) (f : List Sl -> Option O) : TE := fun σ H Q => ∃ Hf0 H0 Hf ρ o, zai G Hf0 H0 Hf H σ ρ /\ f ρ = some o /\ ∀ u fp Hf' H', Ext Hf H Hf' H' -> OT G Hf' H' o u fp -> Fre (bsH b H0 H) Hf' fp -> Q u H'
noncomputable def DZ (c : Str -> Addr) (X : Cx) (b : Bool) (e : Expr) (f : List Sl -> Option O) : Prop := PE X e (tDZ (Gx c X) b f)
theorem OTs.snoc {G : Gc} {Hf H : Hp} {o : O} {u : V} {fp : List Addr} (h : OT G Hf H o u fp) : ∀ {ds : List D} {vs : List V}, zae G Hf ds vs -> OTs G Hf H (ds.map .fz ++ [o]) (vs ++ [u]) fp
  | [], _, r => by cases (show _ = [] from r); exact ⟨u, [], fp, [], rfl, h, ⟨rfl, rfl⟩, (List.append_nil _).symm⟩
  | d :: ds, _, ⟨v, r, e, h1, h2⟩ => by subst e; exact ⟨v, r ++ [u], [], fp, rfl, ⟨h1, rfl⟩, OTs.snoc h h2, rfl⟩
section
variable {c : Str -> Addr} {X : Cx} {b : Bool} {e o a a' : Expr} {es : List Expr} {pos : Pos}
noncomputable def zB (f : List Sl -> Option O) (ρ : List Sl) : Option D := (f ρ).bind fun o => if o.kn then some o.toD else none
theorem DZ.db {f : List Sl -> Option O} (h : DZ c X true e f) : DB c X e (zB f) := PE.imp h fun σ H Q q_ => by
  obtain ⟨Hf0, H0, Hf, ρ, d, st, ef, k⟩ := q_
  unfold zB at ef
  cases ed : f ρ with
  | none => rw [ed] at ef; cases ef
  | some o =>
    rw [ed, Option.bind_some] at ef
    split at ef
    · rename_i hk
      cases ef
      exact ⟨Hf0, H0, Hf, ρ, o, st, ed, fun u fp Hf' H' x r _ => k u Hf' H' x (r.rep x.s hk)⟩
    · cases ef
end
section
variable {P : Program} {w : World} {K : PySem.W.Frag} {mg : Str -> Option Value} {base : Heap} {c : Str -> Addr}
end
section
variable {G : Gc} {Hf Hf' H : Hp}
end
section
variable {c : Str -> Addr} {X : Cx} {b : Bool} {k : Nat} {f : Addr} {fd : FuncData} {ps : List Str} {x : Str} {p pos : Pos} {e : Expr} {es : List Expr} {fa : List Sl -> Option (List D)}
end
section
variable {c : Str -> Addr} {X : Cx} {st : Stmt} {e : Expr} {pos : Pos}
theorem OTs.at : ∀ {G : Gc} {Hf H : Hp} {os : List O} {vs : List V} {fp : List Addr} {k : Nat} {o : O}, OTs G Hf H os vs fp -> os[k]? = some o -> ∃ v f, vs[k]? = some v /\ OT G Hf H o v f /\ ∀ a ∈ f, a ∈ fp
  | _, _, _, [], _, _, _, _, _, e => by simp at e
  | _, _, _, o :: os, _, _, 0, o', ⟨v, r, f1, f2, e, h1, h2, ef⟩, e' => by
    rw [List.getElem?_cons_zero] at e'
    cases e'
    subst e ef
    exact ⟨v, f1, rfl, h1, fun a ha => List.mem_append_left _ ha⟩
  | _, _, _, o :: os, _, _, k + 1, o', ⟨v, r, f1, f2, e, h1, h2, ef⟩, e' => by
    rw [List.getElem?_cons_succ] at e'
    subst e ef
    obtain ⟨v', f, a, b, m⟩ := OTs.at h2 e'
    exact ⟨v', f, by rw [List.getElem?_cons_succ]; exact a, b, fun a ha => List.mem_append_right _ (m a ha)⟩
end
end L2
namespace L2
open PySem PySem.Spec PyProof.Rows
theorem OTs.length {G : Gc} {Hf H : Hp} : ∀ {os : List O} {vs : List V} {fp : List Addr}, OTs G Hf H os vs fp -> os.length = vs.length
  | [], _, _, h => by rw [h.1]; rfl
  | o :: os, _, _, ⟨v, r, f1, f2, e, h1, h2, ef⟩ => by subst e; simp [OTs.length h2]
theorem OTs.append {G : Gc} {Hf H : Hp} : ∀ {os ps : List O} {vs us : List V} {f g : List Addr}, OTs G Hf H os vs f -> OTs G Hf H ps us g -> OTs G Hf H (os ++ ps) (vs ++ us) (f ++ g)
  | [], _, _, _, _, _, h, t => by obtain ⟨a, b⟩ := h; subst a b; exact t
  | o :: os, _, _, _, _, _, ⟨v, r, f1, f2, e, h1, h2, ef⟩, t => by subst e ef; exact ⟨v, r ++ _, f1, f2 ++ _, rfl, h1, OTs.append h2 t, List.append_assoc _ _ _⟩
theorem OTs.one {G : Gc} {Hf H : Hp} {o : O} {v : V} {f : List Addr} (h : OT G Hf H o v f) : OTs G Hf H [o] [v] f := ⟨v, [], f, [], rfl, h, ⟨rfl, rfl⟩, (List.append_nil _).symm⟩
theorem OTs.up {G : Gc} {Hf H Hf' H' : Hp} {os : List O} {vs : List V} {fp : List Addr} (h : OTs G Hf H os vs fp) (f : zan Hf Hf') (s : zan H H') : OTs G Hf' H' os vs fp := OTs.frameM f os vs fp h fun b u e _ => s b u e
theorem Fre.step {B Hf H Hf' H' : Hp} {fs : List Addr} (z : Fre B Hf fs) (m : ∀ a ∈ fs, ∃ u, H a = some u /\ zfg u = false) (x : Ext Hf H Hf' H') : Fre B Hf' fs := ⟨z.1, fun a ha => ⟨(z.2 a ha).1, by
  obtain ⟨u, hu, ht⟩ := m a ha
  rw [x.n a u hu ht]
  exact (z.2 a ha).2⟩⟩
section
variable {c : Str -> Addr} {X : Cx} {elt tg iter e : Expr} {ifs : List Expr} {scope : Scope} {pos : Pos} {Nc : List Str} {k : Nat} {js : List Nat} {b : Bool}
  {fi : List Sl -> Option (List D)} {g : D -> List Sl -> Option (List Sl)} {ft : List Sl -> Option Bool} {fe : List Sl -> Option O}
end
section
variable {c : Str -> Addr} {X : Cx} {st : Stmt}
end
end L2
namespace L2
open PySem PySem.Spec PyProof.Rows
section
variable {c : Str -> Addr} {X : Cx} {st : Stmt}
end
end L2
namespace L2
open PySem PySem.Spec PyProof.Rows
theorem zc1.gone {G : Gc} {H0 Hf H : Hp} {s : Sl} {v : V} {a : Addr} (q : zc1 G H0 Hf H (some v) s) (p : Holds G Hf H s v a) : H0 a = none /\ Hf a = none := by
  cases hs : s.isOwn with
  | true =>
    obtain ⟨l, e1, h0, hf, _⟩ := q.own hs
    have e2 := (Holds.own hs).mp p
    cases e1
    cases e2
    exact ⟨h0, hf⟩
  | false =>
    cases s with
    | deep o =>
      obtain ⟨u, fp, e1, r, n, z⟩ := q
      cases e1
      obtain ⟨fp', r', ha⟩ := p
      have := OT.funM o v fp fp' r r'
      subst this
      exact z a ha
    | _ => first | exact Bool.noConfusion p.1 | cases hs
noncomputable def zln (G : Gc) (Hf H : Hp) (σ : St) (ρ : List Sl) (a : Addr) : Prop := ∀ (k : Nat) (t : Sl) (w : V), ρ[k]? = some t -> σ[k]? = some (some w) -> Holds G Hf H t w a -> False
section
variable {G : Gc} {Hf0 H0 Hf H : Hp} {σ : St} {ρ : List Sl}
theorem zai.free (h : zai G Hf0 H0 Hf H σ ρ) {a : Addr} {o : HO} (e : H0 a = some o) : zln G Hf H σ ρ a := fun k t w b c p => by
  rw [((h.at' k _ t c b).gone p).1] at e
  cases e
theorem zai.take {i : Nat} {u : V} (h : zai G Hf0 H0 Hf H σ ρ) (el : σ[i]? = some (some u)) : zai G Hf0 H0 Hf H σ (ρ.set i (.val u)) := by
  refine h.re h.ext (by simp) (fun j w s a b => ?_) fun j s v a b c d => ?_
  · rcases zb0 b with ⟨e, e', _⟩ | ⟨e, b⟩
    · subst e e'
      rw [el] at a
      cases a
      rfl
    · exact h.at' j w s a b
  · rcases zb0 b with ⟨e, e', _⟩ | ⟨e, b⟩
    · subst e'; exact Bool.noConfusion d.1
    · exact ⟨s, b, d⟩
end
noncomputable def zqu (ks : List Nat) (a b : List Sl) : Prop := a.length = b.length /\ ∀ m, m ∉ ks -> a[m]? = b[m]?
theorem zqu.refl (ks : List Nat) (a : List Sl) : zqu ks a a := ⟨rfl, fun _ _ => rfl⟩
open Classical in
section
variable {c : Str -> Addr} {X : Cx} {tg iter : Expr} {body : List Stmt} {pos : Pos} {F : List Sl -> Option Fl}
end
end L2
namespace L2
open PySem PySem.Spec PyProof.Rows
section
variable {c : Str -> Addr} {X : Cx} {b : Bool} {k : Nat} {f : Addr} {fd : FuncData} {ps : List Str} {fl cn : Str} {pos apos : Pos} {o e : Expr} {fo : List Sl -> Option D}
noncomputable def zOr (f g : List Sl -> Option O) (ρ : List Sl) : Option O := (f ρ).or (g ρ)
theorem DZ.orE {f g : List Sl -> Option O} (h : DZ c X b e f) (h' : DZ c X b e g) : DZ c X b e (zOr f g) := fun pins s σ H Q I q_ => by
  obtain ⟨Hf0, H0, Hf, ρ, d, st, ef, k⟩ := q_
  unfold zOr at ef
  cases ed : f ρ with
  | some d' =>
    rw [ed] at ef
    cases ef
    exact h pins s σ H Q I ⟨Hf0, H0, Hf, ρ, _, st, ed, k⟩
  | none =>
    rw [ed] at ef
    exact h' pins s σ H Q I ⟨Hf0, H0, Hf, ρ, d, st, ef, k⟩
end
section
variable {P : Program} {w : World} {K : PySem.W.Frag} {mg : Str -> Option Value} {base : Heap} {c : Str -> Addr}
end
section
variable {c : Str -> Addr} {X : Cx} {k : Nat} {f : Addr} {fd : FuncData} {q x : Str} {p pos spos : Pos} {e : Expr}
end
end L2
namespace L2
open PySem PySem.Spec PyProof.Rows
section
variable {c : Str -> Addr} {X : Cx} {cn fl : Str} {e o : Expr} {sts : List Stmt} {pos pos' : Pos} {m : List Sl -> Option O} {fs : List (Str × (List Sl -> Option O))}
end
section
variable {P : Program} {w : World} {K : PySem.W.Frag} {mg : Str -> Option Value} {base : Heap} {c : Str -> Addr}
end
section
variable {c : Str -> Addr} {X : Cx} {b : Bool} {k : Nat} {f : Addr} {fd : FuncData} {ps : List Str} {x cn : Str} {p pos : Pos} {e : Expr} {es : List Expr} {fa : List Sl -> Option (List D)}
end
section
variable {c : Str -> Addr} {X : Cx} {b : Bool} {e : Expr} {es : List Expr} {pos : Pos} {st : Stmt}
end
structure TyC (K : PySem.W.Frag) (C : Addr) : Prop where
  ha : PySem.W.findIn K (.ref C) "__class__" = some (some (.builtin "object.__class__"))
  hn : PySem.W.specialIn K (.builtin "object.__class__") "__get__" = some (some (.builtin "getset_descriptor.__get__"))
  htk : PySem.W.takesIn K (.builtin "object.__class__") = some true
  hm : PySem.W.mroIn K C (.type "object") = some true
noncomputable def zkb (K : PySem.W.Frag) (c : Str -> Addr) (CT : Addr) : List (Str × Bool) -> Prop
  | [] => True
  | (cn, b) :: r => (Cls K (c cn) /\ TyC K (c cn) /\ PySem.W.kitOne K (.ref (c cn)) (.ref CT) = some b) /\ zkb K c CT r
noncomputable def lkC (s : Str) : List (Str × Bool) -> Option Bool
  | [] => none
  | (k, b) :: r => if s = k then some b else lkC s r
theorem zkb.at {K : PySem.W.Frag} {c : Str -> Addr} {CT : Addr} {s : Str} {b : Bool} : ∀ {l : List (Str × Bool)}, zkb K c CT l -> lkC s l = some b -> Cls K (c s) /\ TyC K (c s) /\ PySem.W.kitOne K (.ref (c s)) (.ref CT) = some b
  | [], _, e => by cases e
  | (k, b') :: r, h, e => by
    unfold lkC at e
    split at e
    · rename_i q
      subst q
      cases e
      exact h.1
    · exact zkb.at h.2 e
section
variable {c : Str -> Addr} {X : Cx} {e : Expr} {p pos : Pos}
end
end L2
namespace L2
open PySem PySem.Spec PyProof.Rows
section
variable {X : Cx} {pins : List (Addr × Obj)} {σ : St} {H : Hp} {s : Shared} {l : Addr} {kvs : List (Key × V)}
theorem Inv.freeze (I : Inv X pins σ H s) (e : H l = some (.dK kvs)) : ∃ od, Inv X pins σ (upd H l (.frz od (.dK kvs))) s := by
  obtain ⟨z, ns, vs, rel, od, es, ep, ho, r⟩ := zra I.hok e
  refine ⟨od, ?_⟩
  have fr : ∀ b u, H b = some u -> (∀ w, u ≠ .dK w) -> upd H l (.frz od (.dK kvs)) b = some u := fun b u hb hu => by
    rw [zar (fun q => by subst q; rw [e] at hb; cases hb; exact hu _ rfl)]; exact hb
  have := I.step (g' := s.gens) (t' := s.toks) (d' := s.drawn) (h' := s.heap) (ch := []) (H' := upd H l (.frz od (.dK kvs))) (fun b hb => nomatch hb) (fun b o _ _ _ e _ => e) (fun b o _ _ _ e _ => ⟨o.slots, e⟩) (fun b o _ _ n => by rw [zar (fun q => by subst q; rw [e] at n; cases n)]; exact n)
    (fun b o _ e => ⟨o, e⟩) (fun b xs hb => fr b _ hb (fun w q => by cases q)) (fun b o u hb => fr b _ hb (fun w q => by cases q)) (fun b ps hb => ⟨#[], by rw [fr b _ hb (fun w q => by cases q)]; simp⟩) (fun m hm => hm) (fun b u hb => ?_) I.bare
  · exact this
  · by_cases q : b = l
    · subst q
      rw [zbe] at hb
      cases hb
      exact ⟨ho, z, ns, vs, rel, od, es, ep, ho, r⟩
    · rw [zar q] at hb
      exact (I.hok b u hb).stay (fun c v _ h => h) (fun c h => fr c _ h (fun w q => by cases q)) (fun c xs h => fr c _ h (fun w q => by cases q))
end
noncomputable def Itk (od : Obj) (d : Addr) : It :=
  ⟨fun i H => ∃ kvs k v, H d = some (.frz od (.dK kvs)) /\ kvs[i]? = some (k, v),
   fun i H x H' => H' = H /\ ∀ kvs, H d = some (.frz od (.dK kvs)) -> ∃ k v, kvs[i]? = some (k, v) /\ x = kV k,
   fun i H => ∃ kvs, H d = some (.frz od (.dK kvs)) /\ kvs.length <= i⟩
theorem KV.get : ∀ {xs : List (Key × V)} {us : List (Key × Value)} {i : Nat} {x : Key × V}, KV xs us -> xs[i]? = some x -> ∃ u, us[i]? = some u /\ x.1 = u.1 /\ zam x.2 u.2
  | _, _, _, _, .nil, e => by simp at e
  | _, _, 0, _, .cons r _, e => by simp at e; subst e; exact ⟨_, rfl, r⟩
  | _, _, i + 1, x, .cons _ t, e => by
    obtain ⟨u, h1, h2⟩ := KV.get (i := i) (x := x) t (by simpa using e)
    exact ⟨u, by simpa using h1, h2⟩
theorem z3n {k : Key} {v : Value} (h : zgc k v = true) : zam (kV k) v := by
  rcases zey h with ⟨i, t, rfl, rfl⟩ | ⟨x, t, rfl, rfl⟩
  · exact ⟨t, rfl⟩
  · exact ⟨t, rfl⟩
theorem z0k {P : Program} {w : World} {K : PySem.W.Frag} {tg : Expr} {od : Obj} {es : Array DictEntry} {ep : Nat} (hd : od.data = .dict es ep) (d it : Addr) : zf5 P w K tg (Itk od d) [it] it (fun i h => h.IsKeyIter it d i es.size ep) where
  mem := by simp
  obj := fun i h st b hb => by
    have e : b = it := by simpa using hb
    subst e
    obtain ⟨o, e, c, d⟩ := st
    exact ⟨o, e, fun v z => by rw [d] at z; cases z⟩
  keep := fun i h h' st k => st.at fun o e => k it (by simp) o e
  item := by
    intro X hP hw hK hc i pins s σ H E I hf st hg
    subst hP hw hK
    obtain ⟨kvs, k, v, hH, hx⟩ := hg
    obtain ⟨ho, z, ns, vs, rel, od', es', ep', ho', ex, hd', kk, pp, nd⟩ := I.hok d _ hH
    rw [ho] at ho'
    cases ho'
    rw [hd] at hd'
    cases hd'
    have hm : s.heap.DictAt (zck X.prog X.w) d vs ep := ⟨od, es, ho, ex, hd, kk, pp, nd⟩
    have hl : es.size = vs.length := by rw [<- pp.length]; simp
    obtain ⟨⟨k', v'⟩, hv, ek, rv⟩ := KV.get rel hx
    have ek : k = k' := ek
    subst ek
    obtain ⟨f0, f1, f2, f3, f4, f5⟩ := hf it (by simp)
    rw [hl] at st
    refine wpAny_pyNext_dict_item st hm hv fun key h' hkey st' sb => ?_
    have I1 : Inv X pins σ H { s with heap := h' } := I.turned (t' := s.toks) (fun b o hb e => (sb.2 b hb).trans e) f0 f1 f3 f4 f5
    refine ⟨key, rfl, letGo_keyiter (s' := { s with heap := h' }) st' ⟨kV k, H, I1, z3n hkey, ⟨rfl, fun kvs2 h2 => ?_⟩, by rw [hl]; exact st', fun b hb => (hf b hb).1⟩⟩
    rw [hH] at h2
    cases h2
    exact ⟨k, v, hx, rfl⟩
  done := by
    intro X hP hw hK hc i pins s σ H E I hf st hg
    subst hP hw hK
    obtain ⟨kvs, hH, hx⟩ := hg
    obtain ⟨ho, z, ns, vs, rel, od', es', ep', ho', ex, hd', kk, pp, nd⟩ := I.hok d _ hH
    rw [ho] at ho'
    cases ho'
    rw [hd] at hd'
    cases hd'
    have hm : s.heap.DictAt (zck X.prog X.w) d vs ep := ⟨od, es, ho, ex, hd, kk, pp, nd⟩
    have hl : es.size = vs.length := by rw [<- pp.length]; simp
    have hv : kvs.length = vs.length := Paired.length rel
    obtain ⟨f0, f1, f2, f3, f4, f5⟩ := hf it (by simp)
    rw [hl] at st
    exact wpAny_pyNext_dict_end (I.ok.hd hc) st hm (List.getElem?_eq_none (by omega)) fun h' eb => ⟨rfl, I.turned (t' := s.toks) (fun b o hb e => eb b o hb e) f0 f1 f3 f4 f5⟩
  self := fun _ _ _ _ _ st h => wpAny_pyIter_keyiter st h
section
variable {X : Cx} {tg : Expr}
noncomputable def z4f (te : TE) : TI := fun σ H R => te σ H fun x H1 => ∃ d od kvs, x = .ref d /\ H1 d = some (.frz od (.dK kvs)) /\ R (Itk od d) H1
theorem zxf {e : Expr} {te : TE} (he : PE X e te) : PI X tg e (z4f te) := by
  intro pins s σ H R I h
  refine thn (he pins s σ H _ I h) fun v s1 ⟨x, H1, I1, r1, q1⟩ => ?_
  obtain ⟨d, od, kvs, ex, hH, q⟩ := q1
  subst ex
  cases r1
  obtain ⟨ho, z, ns, vs, rel, od', es, ep, ho', exd, hd', kk, pp, nd⟩ := I1.hok d _ hH
  rw [ho] at ho'
  cases ho'
  have hm : s1.heap.DictAt (zck X.prog X.w) d vs ep := ⟨od, es, ho, exd, hd', kk, pp, nd⟩
  have hl : es.size = vs.length := by rw [<- pp.length]; simp
  refine wpAny_pyIter_dict ns hm ?_
  refine ⟨s1.heap.objs.size, [s1.heap.objs.size], _, _, H1, rfl, I1.kept (t' := s1.toks) fun b o e => Heap.get?_push_of_some _ e, z0k hd' d _, ⟨_, Heap.get?_push_size _ rfl, rfl, by rw [hl]; rfl⟩, fun b hb => ?_, q⟩
  have e : b = s1.heap.objs.size := by simpa using hb
  subst e
  exact I1.fpOk (Nat.le_refl _) (I1.hok.fresh (Nat.le_refl _))
end
noncomputable def kD : Key -> D
  | .inl i => .int i
  | .inr x => .str x
theorem zzn {G : Gc} {H : Hp} (k : Key) : Rep G H (kD k) (kV k) := by cases k <;> rfl
noncomputable def zvc : D -> Option (List D)
  | .kd ks _ => some (ks.map kD)
  | _ => none
noncomputable def zoi (f : List Sl -> Option D) (ρ : List Sl) : Option (List D) := (f ρ).bind zvc
theorem zp9 {α β : Type} : ∀ {ks : List α} {vs : List β} {i : Nat} {k : α}, ks.length = vs.length -> ks[i]? = some k -> ∃ v, (ks.zip vs)[i]? = some (k, v)
  | [], _, _, _, _, e => by simp at e
  | _ :: _, [], _, _, h, _ => by cases h
  | k :: ks, v :: vs, 0, _, _, e => by simp at e; subst e; exact ⟨v, rfl⟩
  | k :: ks, v :: vs, i + 1, _, h, e => by
    obtain ⟨u, hu⟩ := zp9 (i := i) (ks := ks) (vs := vs) (by simpa using h) (by simpa using e)
    exact ⟨u, by simpa using hu⟩
section
variable {c : Str -> Addr} {X : Cx} {tg e a b o f' : Expr} {pos apos cpos : Pos}
theorem z1q {f : List Sl -> Option D} (he : DE c X e f) : DI c X tg e (zoi f) := PI.imp (zxf he) fun σ H R q_ => by
  obtain ⟨Hf0, H0, Hf, ρ, ds, st, ef, k⟩ := q_
  unfold zoi at ef
  cases e1 : f ρ with
  | none => rw [e1] at ef; cases ef
  | some d =>
    rw [e1, Option.bind_some] at ef
    cases d with
    | kd ks xs =>
      cases ef
      refine ⟨Hf0, H0, Hf, ρ, _, st, e1, fun v Hf' H' x r => ?_⟩
      obtain ⟨a, od, vs, ev, q, z, rs⟩ := r
      refine ⟨a, od, _, ev, x.s _ _ q, k _ Hf' H' x fun Hf2 H2 f2 s2 i => ?_⟩
      have q2 : H2 a = some (.frz od (.dK (ks.zip vs))) := (f2.trans s2) _ _ q
      refine ⟨fun d ed => ?_, fun ei => ⟨_, q2, by rw [List.length_zip, <- z]; rw [List.length_map] at ei; omega⟩⟩
      rw [List.getElem?_map] at ed
      cases hk : ks[i]? with
      | none => rw [hk] at ed; cases ed
      | some ky =>
        rw [hk] at ed
        cases ed
        obtain ⟨u, hu⟩ := zp9 z hk
        refine ⟨⟨_, ky, u, q2, hu⟩, fun y H3 ⟨e3, hy⟩ => ?_⟩
        subst e3
        obtain ⟨k2, v2, h2, ey⟩ := hy _ q2
        rw [hu] at h2
        cases h2
        subst ey
        exact ⟨Hf2, Ext.refl s2, zzn ky⟩
    | _ => cases ef
noncomputable def zek (ks : List Key) (xs : List D) (k : Key) : Option D := ((ks.zip xs).find? fun kv => decide (kv.1 = k)).map (·.2)
theorem znc {G : Gc} {H : Hp} {k : Key} : ∀ {ks : List Key} {xs : List D} {vs : List V}, ks.length = vs.length -> zae G H xs vs -> (∀ d, zek ks xs k = some d -> ∃ v, zc4 (ks.zip vs) k = some v /\ Rep G H d v) /\ (zek ks xs k = none -> zc4 (ks.zip vs) k = none)
  | [], _, _, _, _ => ⟨fun d h => (by cases h), fun _ => rfl⟩
  | _ :: _, _, [], h, _ => by cases h
  | j :: ks, [], v :: vs, _, r => by cases (show _ = [] from r)
  | j :: ks, x :: xs, v :: vs, h, ⟨u, r', e, h1, h2⟩ => by
    injection e with e1 e2
    subst e1 e2
    obtain ⟨a, b⟩ := znc (k := k) (ks := ks) (xs := xs) (vs := vs) (by simpa using h) h2
    unfold zek
    rw [List.zip_cons_cons, List.zip_cons_cons]
    by_cases q : j = k
    · subst q
      refine ⟨fun d hd => ⟨v, zkk rfl, ?_⟩, fun hd => ?_⟩
      · rw [List.find?_cons_of_pos (by simp)] at hd
        cases hd
        exact h1
      · rw [List.find?_cons_of_pos (by simp)] at hd
        cases hd
    · rw [List.find?_cons_of_neg (by simpa using q), zj1 q]
      exact ⟨a, b⟩
noncomputable def zn8 : D -> Option (List Key × List D)
  | .dic ks xs => some (ks, xs)
  | .kd ks xs => some (ks, xs)
  | _ => none
theorem zyi {G : Gc} {H : Hp} {d : D} {v : V} {p : List Key × List D} (e : zn8 d = some p) (r : Rep G H d v) : ∃ a vs, v = .ref a /\ Rd H a (.dK (p.1.zip vs)) /\ p.1.length = vs.length /\ zae G H p.2 vs := by
  cases d with
  | dic ks xs => cases e; obtain ⟨a, vs, ev, q, z, r⟩ := r; exact ⟨a, vs, ev, .inl q, z, r⟩
  | kd ks xs => cases e; obtain ⟨a, od, vs, ev, q, z, r⟩ := r; exact ⟨a, vs, ev, .inr ⟨od, q⟩, z, r⟩
  | _ => cases e
theorem Rd.up {H H' : Hp} {a : Addr} {u : HO} (h : Rd H a u) (s : zan H H') : Rd H' a u := h.imp (s _ _) fun ⟨o, e⟩ => ⟨o, s _ _ e⟩
noncomputable def zm0 (x y : D) : Option D := (zn8 x).bind fun p => (zgj y).bind fun k => zek p.1 p.2 k
theorem zx5 (hu : X.A.units + 64 < cLine) {f g : List Sl -> Option D} (ha : DE c X a f) (hb : DE c X b g) (hs : zmb b := by exact fun _ _ => rfl) : DE c X (.Subscript a b pos) (m2 zm0 f g) :=
  PE.imp (zu3 (by omega) ha hb hs) fun σ H Q q_ => by
    obtain ⟨Hf0, H0, Hf, ρ, d, st, ef, k⟩ := q_
    obtain ⟨x, y, e1, e2, e3⟩ := znd ef
    refine ⟨Hf0, H0, Hf, ρ, x, st, e1, fun v Hf1 H1 x1 r1 => ⟨Hf0, H0, Hf1, ρ, y, st.step x1, e2, fun u Hf2 H2 x2 r2 => ?_⟩⟩
    unfold zm0 at e3
    cases ed : zn8 x with
    | none => rw [ed] at e3; cases e3
    | some p =>
      rw [ed, Option.bind_some] at e3
      cases ek : zgj y with
      | none => rw [ek] at e3; cases e3
      | some ky =>
        rw [ek, Option.bind_some] at e3
        obtain ⟨l, vs, el, q, z, r⟩ := zyi ed (r1.up x2.f)
        have ev := znl ek r2
        subst ev el
        obtain ⟨w, hw, rw'⟩ := (znc z r).1 d e3
        exact ⟨l, w, rfl, .inl ⟨_, ky, q.up x2.s, rfl, hw.symm⟩, k _ Hf2 H2 (x1.trans x2) rw'⟩
noncomputable def zj7 (i : Nat) (fk fx : List Sl -> Option D) (ρ : List Sl) : Option D := match ρ[i]? with
  | some (.ownd ks xs) => (fk ρ).bind fun y => (zgj y).bind fun k => (fx ρ).map fun x => (zek ks xs k).getD x
  | _ => none
theorem zwg (hu : X.A.units + 64 < cLine) {i : Nat} {fk fx : List Sl -> Option D} (ho : PE X o (zde i)) (hk : DE c X a fk) (hx : DE c X b fx) (m : M2 X o "get" apos a b cpos) : DE c X (.Call (.Attribute o "get" apos) [a, b] [] cpos) (zj7 i fk fx) :=
  PE.imp (zyf (by omega) ho hk hx m) fun σ H Q q_ => by
    obtain ⟨Hf0, H0, Hf, ρ, d, st, ef, k⟩ := q_
    unfold zj7 at ef
    split at ef
    · rename_i ks xs es
      cases e1 : fk ρ with
      | none => rw [e1] at ef; cases ef
      | some y =>
        rw [e1, Option.bind_some] at ef
        cases ek : zgj y with
        | none => rw [ek] at ef; cases ef
        | some ky =>
          rw [ek, Option.bind_some] at ef
          cases e2 : fx ρ with
          | none => rw [e2] at ef; cases ef
          | some x =>
            rw [e2] at ef
            cases ef
            obtain ⟨l, el, h0, hf, vs, q, z, r⟩ := st.ownAt rfl es
            refine ⟨_, el, l, rfl, .inl ⟨_, .inl q⟩, Hf0, H0, Hf, ρ, y, st, e1, fun v Hf1 H1 x1 r1 => ⟨Hf0, H0, Hf1, ρ, x, st.step x1, e2, fun u Hf2 H2 x2 r2 => ?_⟩⟩
            have q2 := (x1.trans x2).h _ _ q
            have r' := r.up (x1.trans x2).f
            have ev := znl ek r1
            subst ev
            refine ⟨zc4 (ks.zip vs) ky, zet.k q2, k _ Hf2 H2 (x1.trans x2) ?_⟩
            obtain ⟨h1, h2⟩ := znc (k := ky) z r'
            cases hv : zek ks xs ky with
            | none => rw [h2 hv]; exact r2
            | some d =>
              obtain ⟨w, hw, rw'⟩ := h1 d hv
              rw [hw]
              exact rw'
    · cases ef
end
noncomputable def zhz (i : Nat) (F : List Sl -> Option Fl) (ρ : List Sl) : Option Fl := match ρ[i]? with
  | some (.ownd ks xs) => F (ρ.set i (.im (.kd ks xs)))
  | _ => F ρ
section
variable {c : Str -> Addr} {X : Cx} {st : Stmt} {sts : List Stmt} {F : List Sl -> Option Fl}
theorem zvs {pins : List (Addr × Obj)} {σ : St} {H : Hp} {s : Shared} {E : ze4} (I : Inv X pins σ H s) {i : Nat} (h : tDS (Gx c X) (zhz i F) E σ H) : ∃ H', Inv X pins σ H' s /\ tDS (Gx c X) F E σ H' := by
  obtain ⟨Hf0, H0, Hf, ρ, o, so, ef, k⟩ := h
  unfold zhz at ef
  split at ef
  · rename_i ks xs es
    obtain ⟨l, e1, h0, hf, vs, q, z, r⟩ := so.ownAt rfl es
    obtain ⟨od, I'⟩ := I.freeze q
    refine ⟨_, I', Hf0, H0, upd Hf l (.frz od (.dK (ks.zip vs))), ρ.set i (.im (.kd ks xs)), o, ?_, ef, k.up (zbk hf)⟩
    have s1 : zai (Gx c X) Hf0 H0 Hf (upd H l (.frz od (.dK (ks.zip vs)))) σ (ρ.set i .no) := so.chg es e1 (fun b u hb => by
      by_cases hb' : b = l
      · subst hb'; exact .inl ((Holds.own rfl).mpr rfl)
      · exact .inr (by rw [zar hb']; exact hb)) trivial fun a p => (p.calm rfl).elim
    have s2 : zai (Gx c X) Hf0 H0 (upd Hf l (.frz od (.dK (ks.zip vs)))) (upd H l (.frz od (.dK (ks.zip vs)))) σ (ρ.set i .no) := by
      have fr : zln (Gx c X) Hf H σ (ρ.set i .no) l := fun m t w b cc p => by
        rcases zb0 b with ⟨_, e', _⟩ | ⟨ne, b⟩
        · subst e'; exact p.calm rfl
        · exact ne (so.dj m i t (.ownd ks xs) w _ l b es cc e1 p ((Holds.own rfl).mpr rfl))
      have fr' : zln (Gx c X) Hf (upd H l (.frz od (.dK (ks.zip vs)))) σ (ρ.set i .no) l := fun m t w b cc p => by
        obtain ⟨oo, hoo, hto⟩ := (s1.at' m _ t cc b).there p
        cases ht : t.isOwn with
        | true =>
          have ew := (Holds.own ht).mp p
          exact fr m t w b cc ((Holds.own ht).mpr ew)
        | false =>
          cases t with
          | deep o' =>
            obtain ⟨fp, rr, ha⟩ := p
            obtain ⟨u, fp', eu, r2, _⟩ := so.at' m _ _ cc (by
              rcases zb0 b with ⟨_, e', _⟩ | ⟨ne, b⟩
              · cases e'
              · exact b)
            cases eu
            have r3 : OT (Gx c X) Hf (upd H l (.frz od (.dK (ks.zip vs)))) o' w fp' := r2.frame (zan.refl _) fun b' u' hb' hm' => by
              rw [zar (fun qq => ?_)]
              · exact hb'
              · subst qq
                rcases hm' with hm' | hm'
                · rw [q] at hb'; cases hb'; cases hm'
                · exact fr m _ w b cc ⟨fp', r2, hm'⟩
            have := OT.funM o' w _ _ r3 rr
            subst this
            exact fr m _ w b cc ⟨fp', r2, ha⟩
          | _ => first | exact Bool.noConfusion p.1 | cases ht
      have x : Ext Hf (upd H l (.frz od (.dK (ks.zip vs)))) (upd Hf l (.frz od (.dK (ks.zip vs)))) (upd H l (.frz od (.dK (ks.zip vs)))) -> True := fun _ => trivial
      refine s1.re ⟨s1.ext.f.trans (zbk hf), s1.ext.h, fun b u e => ?_, fun b u e t => ?_⟩ rfl (fun m v t a b => ?_) fun m t v a b cc p => ?_
      · by_cases hb : b = l
        · subst hb; rw [zbe] at e ⊢; exact e
        · rw [zar hb] at e; exact s1.ext.s b u e
      · rw [zar (fun z => by subst z; rw [h0] at e; cases e)]
        exact s1.ext.n b u e t
      · have qq := s1.at' m v t a b
        cases ht : t.isOwn with
        | true =>
          obtain ⟨l2, e2, e3, e4, q2⟩ := qq.own ht
          subst e2
          refine .ofOwn ht ⟨l2, rfl, e3, ?_, q2.up (zbk hf) fun o' ho' => ho'⟩
          rw [zar (fun z => by subst z; exact fr' m t _ b a ((Holds.own ht).mpr rfl))]
          exact e4
        | false =>
          cases t with
          | no => trivial
          | im d => obtain ⟨u', e1, r⟩ := qq; exact ⟨u', e1, r.up (zbk hf)⟩
          | val u' => exact qq
          | deep o' =>
            obtain ⟨w, fp, e1, r, n, zz⟩ := qq
            subst e1
            refine ⟨w, fp, rfl, r.up (zbk hf) (zan.refl _), n, fun y hy => ⟨(zz y hy).1, ?_⟩⟩
            rw [zar (fun z => by subst z; exact fr' m _ w b a ⟨fp, r, hy⟩)]
            exact (zz y hy).2
          | _ => cases ht
      · exact ⟨t, b, (s1.at' m _ t cc b).back (fun o' fp _ r => r.up (zbk hf) (zan.refl _)) p⟩
    have res := s2.setIm (i := i) (d := .kd ks xs) (v := .ref l) ⟨l, od, vs, rfl, zbe, z, r.up (zbk hf)⟩
    have e3 : σ.set i (some (.ref l)) = σ := by
      apply List.ext_getElem?
      intro jj
      by_cases hj : i = jj
      · subst hj
        rw [List.getElem?_set_self (List.getElem?_eq_some_iff.mp e1).1, e1]
      · rw [List.getElem?_set_ne hj]
    rw [e3, List.set_set] at res
    exact res
  · exact ⟨H, I, Hf0, H0, Hf, ρ, o, so, ef, k⟩
theorem zvb (i : Nat) (h : DS c X st F) : DS c X st (zhz i F) := fun pins s σ H E I q => by
  obtain ⟨H', I', q'⟩ := zvs I q
  exact h pins s σ H' E I' q'
end
end L2
namespace L2
open PySem PySem.Spec PyProof.Rows
section
variable {c : Str -> Addr} {X : Cx} {b : Bool} {pos : Pos}
end
open Classical in
section
variable {P : Program} {w : World} {K : PySem.W.Frag} {mg : Str -> Option Value} {base : Heap} {c : Str -> Addr}
end
section
variable {c : Str -> Addr} {X : Cx} {st : Stmt} {e a b o i' value : Expr} {pos pos' p' apos cpos : Pos}
end
open Classical in
section
variable {c : Str -> Addr} {X : Cx} {k : Nat} {f : Addr} {fd : FuncData} {ps : List Str} {x : Str} {p pos spos : Pos} {e : Expr} {es : List Expr} {fa : List Sl -> Option (List D)} {fj : List Sl -> Option D} {i : Nat}
end
end L2
namespace L2
open PySem PySem.Spec PyProof.Rows
theorem zai.frz {G : Gc} {Hf0 H0 Hf H : Hp} {σ : St} {ρ : List Sl} {i : Nat} {s s' : Sl} {v : V} {l : Addr} {u : HO} (so : zai G Hf0 H0 Hf H σ ρ) (es : ρ[i]? = some s) (ev : σ[i]? = some (some v)) (hs : Holds G Hf H s v l) (hn : H0 l = none /\ Hf l = none)
    (ok : zc1 G H0 (upd Hf l u) (upd H l u) (some v) s') (bk : ∀ a, Holds G (upd Hf l u) (upd H l u) s' v a -> Holds G Hf H s v a) : zai G Hf0 H0 (upd Hf l u) (upd H l u) σ (ρ.set i s') := by
  obtain ⟨ol, hol, tol⟩ := (so.at' i _ s ev es).there hs
  have x : Ext Hf0 H0 (upd Hf l u) (upd H l u) := by
    refine ⟨so.ext.f.trans (zbk hn.2), fun b y e => ?_, fun b y e => ?_, fun b y e t => ?_⟩
    · rw [zar (fun z => by subst z; rw [hn.1] at e; cases e)]; exact so.ext.h b y e
    · by_cases hb : b = l
      · subst hb; rw [zbe] at e ⊢; exact e
      · rw [zar hb] at e ⊢; exact so.ext.s b y e
    · rw [zar (fun z => by subst z; rw [hn.1] at e; cases e)]
      exact so.ext.n b y e t
  have fr : ∀ m t w, m ≠ i -> ρ[m]? = some t -> σ[m]? = some (some w) -> Holds G Hf H t w l -> False := fun m t w ne a b p => ne (so.dj m i t s w v l a es b ev p hs)
  have frame : ∀ m o w fp, m ≠ i -> ρ[m]? = some (.deep o) -> σ[m]? = some (some w) -> OT G Hf H o w fp -> OT G (upd Hf l u) (upd H l u) o w fp := fun m o w fp ne a b r => r.frame (zbk hn.2) fun b' u' hb' hm' => by
    rw [zar (fun z => ?_)]
    · exact hb'
    · subst z
      rcases hm' with hm' | hm'
      · rw [hol] at hb'; cases hb'; rw [hm'] at tol; cases tol
      · exact fr m _ w ne a b ⟨fp, r, hm'⟩
  refine so.re x (by simp) (fun m w t a b => ?_) fun m t w a b cc p => ?_
  · rcases zb0 b with ⟨e, e', _⟩ | ⟨ne, b⟩
    · subst e e'
      rw [ev] at a
      cases a
      exact ok
    · have q := so.at' m w t a b
      cases ht : t.isOwn with
      | true =>
        obtain ⟨l2, e1, e2, e3, e4⟩ := q.own ht
        subst e1
        have nl : l2 ≠ l := fun z => by subst z; exact fr m t _ ne b a ((Holds.own ht).mpr rfl)
        exact .ofOwn ht ⟨l2, rfl, e2, by rw [zar nl]; exact e3, e4.up (zbk hn.2) fun o' ho' => by rw [zar nl]; exact ho'⟩
      | false =>
        cases t with
        | no => trivial
        | im d => obtain ⟨u', e1, r⟩ := q; exact ⟨u', e1, r.up (zbk hn.2)⟩
        | val u' => exact q
        | deep o' =>
          obtain ⟨w', fp, e1, r, n, zz⟩ := q
          subst e1
          refine ⟨w', fp, rfl, frame m o' w' fp ne b a r, n, fun y hy => ⟨(zz y hy).1, ?_⟩⟩
          rw [zar (fun z => by subst z; exact fr m _ w' ne b a ⟨fp, r, hy⟩)]
          exact (zz y hy).2
        | _ => cases ht
  · rcases zb0 b with ⟨e, e', _⟩ | ⟨ne, b⟩
    · subst e e'
      rw [ev] at cc
      cases cc
      exact ⟨s, es, bk a p⟩
    · exact ⟨t, b, (so.at' m _ t cc b).back (fun o' fp eo r => by subst eo; exact frame m o' w fp ne b cc r) p⟩
theorem OTs.split {G : Gc} {Hf H : Hp} {o : O} {os : List O} : ∀ {ds : List D} {vs : List V} {fp : List Addr}, OTs G Hf H (ds.map .fz ++ o :: os) vs fp -> ∃ vs0 v r f1 f2, vs = vs0 ++ v :: r /\ fp = f1 ++ f2 /\ zae G Hf ds vs0 /\ OT G Hf H o v f1 /\ OTs G Hf H os r f2
  | [], _, _, ⟨v, r, f1, f2, e, h1, h2, ef⟩ => ⟨[], v, r, f1, f2, e, ef, rfl, h1, h2⟩
  | d :: ds, _, _, ⟨v, r, f1, f2, e, h1, h2, ef⟩ => by
    obtain ⟨vs0, v', r', g1, g2, e1, e2, q1, q2, q3⟩ := OTs.split (ds := ds) h2
    subst e e1 ef e2
    rw [h1.2]
    exact ⟨v :: vs0, v', r', g1, g2, rfl, rfl, .cons h1.1 q1, q2, q3⟩
section
variable {X : Cx} {pins : List (Addr × Obj)} {σ : St} {s : Shared} {G : Gc} {i : Nat}
end
section
variable {c : Str -> Addr} {X : Cx} {st : Stmt} {sts : List Stmt} {F : List Sl -> Option Fl}
theorem z1z {i : Nat} {ρ : List Sl} {ks : List Key} {xs : List D} {K : Fl -> Prop} (h : ρ[i]? = some (.ownd ks xs)) (k : wp F (ρ.set i (.im (.kd ks xs))) K) : wp (zhz i F) ρ K := by
  obtain ⟨o, e, q⟩ := k
  exact ⟨o, by unfold zhz; rw [h]; exact e, q⟩
end
end L2
namespace L2
open PySem PySem.Spec PyProof.Rows
section
variable {prog : Program} {w : World} {A : Around} {E : Value -> Shared -> Prop} {s : Shared}
noncomputable def Beg (h : Heap) (v : Value) (n : Int) : Prop := ∃ a t ys, v = .ref a /\ IsTup h a (Value.int n t :: ys).toArray
theorem zty (b : Bool) (x y : Value) : keyLt' (tuples' b) x y = (do
    let xs <- Builtin.List.listItems x
    let ys <- Builtin.List.listItems y
    for ((p, q), i) in (xs.toList.zip ys.toList).zipIdx do
      if !(<- eqBool p q) then return <- oneLt' (b && i == 0) p q
    return xs.size < ys.size) := rfl
theorem zwb {x y : Value} {m n : Int} {Q : Bool -> Shared -> Prop} (hx : Beg s.heap x m) (hy : Beg s.heap y n) (ne : m ≠ n) (k : Q (decide (m < n)) s) : wpAny (model prog w) A (keyLt' (tuples' true) x y) Q E s := by
  obtain ⟨a, t, us, rfl, oa, ea, ca, _, da⟩ := hx
  obtain ⟨b, u, ws, rfl, ob, eb, cb, _, db⟩ := hy
  rw [zty]
  refine wpAny_bind (listItems_at ea da (wpAny_bind (listItems_at eb db ?_)))
  simp only [List.zip_cons_cons, List.zipIdx_cons, List.forIn_cons]
  refine wpAny_bind (wpAny_bind (wpAny_bind (wpAny_eqBool_int ?_)))
  rw [beq_eq_false_iff_ne.mpr ne]
  simp only [Bool.not_false, if_true]
  refine wpAny_bind (oneLt_int ?_)
  exact wpAny_pure (wpAny_pure (wpAny_pure k))
noncomputable def zaz (ky : Value -> Int) (xs : Array Keyed) (i : Nat) : Int := ((xs[i]?).map fun p => ky p.1).getD 0
structure SB (z : Array Keyed) (st : SortSt) : Prop where
  pm : (arrOf st).Perm z
  kd : kindOf st = tuples' true
  fl : failedOf st = none
  pd : pendingOf st = #[]
noncomputable def Up (ky : Value -> Int) (xs : Array Keyed) (m : Nat) : Prop := ∀ i j, i < j -> j < m -> zaz ky xs i < zaz ky xs j
noncomputable def Dn (ky : Value -> Int) (xs : Array Keyed) (m : Nat) : Prop := ∀ i j, i < j -> j < m -> zaz ky xs j < zaz ky xs i
structure ST (h : Heap) (ky : Value -> Int) (z : Array Keyed) : Prop where
  bg : ∀ p ∈ z.toList, Beg h p.1 (ky p.1)
  nd : (z.toList.map fun p => ky p.1).Nodup
theorem SB.sz {z : Array Keyed} {st : SortSt} (B : SB z st) : (arrOf st).size = z.size := B.pm.size_eq
theorem SB.put {z xs : Array Keyed} {st : SortSt} (B : SB z st) (q : xs.Perm (arrOf st)) : SB z (setArr st xs) := ⟨q.trans B.pm, B.kd, B.fl, B.pd⟩
theorem SB.get {h : Heap} {ky : Value -> Int} {z : Array Keyed} {st : SortSt} (B : SB z st) (T : ST h ky z) {i : Nat} (hi : i < z.size) : ∃ x p, (arrOf st)[i]? = some (x, p) /\ Beg h x (ky x) /\ zaz ky (arrOf st) i = ky x := by
  have hl : i < (arrOf st).size := B.sz ▸ hi
  have e := Array.getElem?_eq_getElem hl
  refine ⟨_, _, e, T.bg _ ((Array.perm_iff_toList_perm.mp B.pm).mem_iff.mp (Array.getElem_mem_toList hl)), ?_⟩
  unfold zaz
  rw [e]
  rfl
theorem SB.apart {h : Heap} {ky : Value -> Int} {z : Array Keyed} {st : SortSt} (B : SB z st) (T : ST h ky z) {i j : Nat} (hi : i < z.size) (hj : j < z.size) (ne : i ≠ j) : zaz ky (arrOf st) i ≠ zaz ky (arrOf st) j := by
  have nd : ((arrOf st).toList.map fun p => ky p.1).Nodup := ((Array.perm_iff_toList_perm.mp B.pm).map _).nodup_iff.mpr T.nd
  have at_ : ∀ k, k < z.size -> ((arrOf st).toList.map fun p => ky p.1)[k]? = some (zaz ky (arrOf st) k) := fun k hk => by
    have hl : k < (arrOf st).size := B.sz ▸ hk
    unfold zaz
    rw [List.getElem?_map, Array.getElem?_toList, Array.getElem?_eq_getElem hl]
    rfl
  intro e
  have h1 := at_ i hi
  have h2 := at_ j hj
  rw [<- e] at h2
  obtain ⟨l1, g1⟩ := List.getElem?_eq_some_iff.mp h1
  obtain ⟨l2, g2⟩ := List.getElem?_eq_some_iff.mp h2
  have pw := List.pairwise_iff_getElem.mp nd
  rcases Nat.lt_or_gt_of_ne ne with c | c
  · exact pw i j l1 l2 c (g1.trans g2.symm)
  · exact pw j i l2 l1 c (g2.trans g1.symm)
theorem zis {ky : Value -> Int} {z : Array Keyed} {st : SortSt} {i j : Nat} {Q : Option Bool -> SortSt -> Prop} (T : ST s.heap ky z) (B : SB z st) (hi : i < z.size) (hj : j < z.size) (ne : i ≠ j) (k : Q (some (decide (zaz ky (arrOf st) i < zaz ky (arrOf st) j))) st) : wpS (model prog w) A E s (ltAt' i j) Q st := by
  have ap := B.apart T hi hj ne
  obtain ⟨x, p, e1, b1, k1⟩ := B.get T hi
  obtain ⟨y, q, e2, b2, k2⟩ := B.get T hj
  rw [k1, k2] at ap k
  rw [ltAt'_eq]
  refine wpS_bind (wpS_get ?_)
  show wpS _ _ _ _ (elem' (arrOf st) i >>= fun u => elem' (arrOf st) j >>= fun v => lt' u v) Q st
  rw [elem'_eq, e1, elem'_eq, e2]
  refine wpS_bind (wpS_pure (wpS_bind (wpS_pure ?_)))
  rw [lt'_eq]
  refine wpS_bind (wpS_get ?_)
  rw [B.kd]
  exact wpS_bind (wpS_lift (wpAny_attempt (zwb b1 b2 ap ⟨rfl, wpS_pure k⟩)))
theorem up1 (ky : Value -> Int) (xs : Array Keyed) {m : Nat} (h : m <= 1) : Up ky xs m := fun i j a b => absurd a (by omega)
theorem z2s {ky : Value -> Int} {xs : Array Keyed} {m : Nat} (h : Up ky xs m) (h1 : 1 <= m) (q : zaz ky xs (m - 1) < zaz ky xs m) : Up ky xs (m + 1) := fun i j a b => by
  rcases Nat.lt_or_ge j m with c | c
  · exact h i j a c
  · have ej : j = m := by omega
    subst ej
    rcases Nat.lt_or_ge i (j - 1) with d | d
    · exact Int.lt_trans (h i (j - 1) d (by omega)) q
    · rw [show i = j - 1 by omega]; exact q
theorem z1h {ky : Value -> Int} {xs : Array Keyed} {m : Nat} (h : Dn ky xs m) (h1 : 1 <= m) (q : zaz ky xs m < zaz ky xs (m - 1)) : Dn ky xs (m + 1) := fun i j a b => by
  rcases Nat.lt_or_ge j m with c | c
  · exact h i j a c
  · have ej : j = m := by omega
    subst ej
    rcases Nat.lt_or_ge i (j - 1) with d | d
    · exact Int.lt_trans q (h i (j - 1) d (by omega))
    · rw [show i = j - 1 by omega]; exact q
theorem zqi {ky : Value -> Int} {z : Array Keyed} {st : SortSt} {m n : Nat} {Q : AscSt -> SortSt -> Prop} (T : ST s.heap ky z) (B : SB z st) (hn : n <= z.size) (h1 : 1 <= m) (hm : m <= n) (u : Up ky (arrOf st) m)
    (k : ∀ r, m <= r -> r <= n -> Up ky (arrOf st) r -> (r = n \/ zaz ky (arrOf st) r < zaz ky (arrOf st) (r - 1)) -> Q (none, r) st) : wpS (model prog w) A E s (ascLoop m n) Q st := by
  unfold ascLoop
  refine wpS_forRange (fun r c t => t = st /\ c = (none, r) /\ Up ky (arrOf st) r) ?_ ?_ ⟨rfl, rfl, u⟩
  · rintro r c t a b ⟨rfl, rfl, v⟩
    refine wpS_bind (zis T B (by omega) (by omega) (show r ≠ r - 1 by omega) ?_)
    by_cases q : zaz ky (arrOf t) r < zaz ky (arrOf t) (r - 1)
    · rw [decide_eq_true q]
      exact wpS_pure (k r a (by omega) v (.inr q))
    · rw [decide_eq_false q]
      have := B.apart T (show r < z.size by omega) (show r - 1 < z.size by omega) (by omega)
      exact wpS_pure ⟨rfl, rfl, z2s v (by omega) (by omega)⟩
  · rintro c t ⟨rfl, rfl, v⟩
    rw [Nat.max_eq_right hm] at v ⊢
    exact k n hm (Nat.le_refl _) v (.inl rfl)
theorem zwk {ky : Value -> Int} {z : Array Keyed} {st : SortSt} {m n : Nat} {Q : DescSt -> SortSt -> Prop} (T : ST s.heap ky z) (B : SB z st) (hn : n <= z.size) (h1 : 1 <= m) (hm : m <= n) (u : Dn ky (arrOf st) m)
    (k : ∀ r, m <= r -> r <= n -> Dn ky (arrOf st) r -> Q (none, r, 0) st) : wpS (model prog w) A E s (descLoop m n) Q st := by
  unfold descLoop
  refine wpS_forRange (fun r c t => t = st /\ c = (none, r, 0) /\ Dn ky (arrOf st) r) ?_ ?_ ⟨rfl, rfl, u⟩
  · rintro r c t a b ⟨rfl, rfl, v⟩
    refine wpS_bind (zis (i := r) (j := r - 1) T B (by omega) (by omega) (by omega) ?_)
    have ap := B.apart T (show r < z.size by omega) (show r - 1 < z.size by omega) (by omega)
    by_cases q : zaz ky (arrOf t) r < zaz ky (arrOf t) (r - 1)
    · rw [decide_eq_true q]
      exact wpS_pure ⟨rfl, rfl, z1h v (by omega) q⟩
    · rw [decide_eq_false q]
      refine wpS_bind (zis (i := r - 1) (j := r) T B (by omega) (by omega) (by omega) ?_)
      rw [decide_eq_true (show zaz ky (arrOf t) (r - 1) < zaz ky (arrOf t) r by omega)]
      exact wpS_pure (k r a (by omega) v)
  · rintro c t ⟨rfl, rfl, v⟩
    rw [Nat.max_eq_right hm] at v ⊢
    exact k n hm (Nat.le_refl _) v
theorem zsf (ky : Value -> Int) {xs : Array Keyed} {m : Nat} (hm : m <= xs.size) {i : Nat} (hi : i < m) : zaz ky (mirror xs 0 m ((m - 0) / 2)) i = zaz ky xs (m - 1 - i) := by
  unfold zaz
  rw [getElem?_mirror_all hm, if_pos ⟨Nat.zero_le _, hi⟩, Nat.zero_add]
theorem zxj {ky : Value -> Int} {z : Array Keyed} {st : SortSt} {n : Nat} {Q : Option Nat -> SortSt -> Prop} (T : ST s.heap ky z) (B : SB z st) (hn : n <= z.size) (h1 : 1 <= n)
    (k : ∀ m t, SB z t -> 1 <= m -> m <= n -> Up ky (arrOf t) m -> Q (some m) t) : wpS (model prog w) A E s (countRun' 0 n) Q st := by
  rw [countRun0_eq]
  refine wpS_bind (zqi T B hn (Nat.le_refl 1) h1 (up1 ky _ (Nat.le_refl 1)) fun r a b v c => ?_)
  show wpS _ _ _ _ (if (r == n) = true then _ else _) _ _
  by_cases er : r = n
  · rw [if_pos (beq_iff_eq.mpr er)]
    exact wpS_pure (k r st B a b v)
  rw [if_neg fun q => er (beq_iff_eq.mp q)]
  have hd := c.resolve_left er
  show wpS _ _ _ _ (if r > 1 then _ else _) _ _
  by_cases e1 : r > 1
  · rw [if_pos e1]
    refine wpS_bind (zis T B (by omega) (by omega) (show 0 ≠ r - 1 by omega) ?_)
    rw [decide_eq_true (v 0 (r - 1) (by omega) (by omega))]
    exact wpS_pure (k r st B a b v)
  rw [if_neg e1]
  have : r = 1 := by omega
  subst this
  unfold descPart
  refine wpS_bind (wpS_lift (wpAny_rule ⟨rfl, ?_⟩))
  refine wpS_bind (zwk T B hn (Nat.le_add_left 1 1) (by omega) (fun i j x y => by rw [show i = 0 by omega, show j = 1 by omega]; exact hd) fun m x y d => ?_)
  show wpS _ _ _ _ (tail3 m n) _ _
  unfold tail3
  refine wpS_bind (wpS_reverse ?_)
  have B2 := B.put (mirror_perm (arrOf st) 0 m ((m - 0) / 2))
  have hz : m <= (arrOf st).size := by rw [B.sz]; omega
  refine wpS_bind (zqi T B2 hn (by omega) y (fun i j p q => ?_) fun g e f v2 _ => wpS_pure (k g _ B2 (by omega) f v2))
  show zaz ky (mirror (arrOf st) 0 m ((m - 0) / 2)) i < zaz ky (mirror (arrOf st) 0 m ((m - 0) / 2)) j
  rw [zsf ky hz (by omega), zsf ky hz q]
  exact d _ _ (by omega) (by omega)
theorem zpt (ky : Value -> Int) {xs : Array Keyed} {g l : Nat} (hg : g < xs.size) (hl : l <= g) (i : Nat) : zaz ky (bubble xs g (g - l)) i = if i = l then zaz ky xs g else if l < i /\ i <= g then zaz ky xs (i - 1) else zaz ky xs i := by
  have e := getElem?_bubble hg (g - l) (Nat.sub_le _ _) i
  rw [Nat.sub_sub_self hl] at e
  unfold zaz
  rw [e]
  split
  · rfl
  · split <;> rfl
theorem zzl {ky : Value -> Int} {z : Array Keyed} {st : SortSt} {m n : Nat} {Q : Bool -> SortSt -> Prop} (T : ST s.heap ky z) (B : SB z st) (hn : n <= z.size) (h1 : 1 <= m) (hm : m <= n) (u : Up ky (arrOf st) m)
    (k : ∀ t, SB z t -> Up ky (arrOf t) n -> Q true t) : wpS (model prog w) A E s (binarySort' 0 n m) Q st := by
  rw [binarySort'_eq]
  simp only [Nat.zero_add]
  refine wpS_bind (wpS_mono (Q := fun c t => c = (none, ()) /\ SB z t /\ Up ky (arrOf t) n) (wpS_forRange (fun g c t => c = (none, ()) /\ SB z t /\ Up ky (arrOf t) g) ?_ ?_ ⟨rfl, B, ?_⟩) ?_)
  · rintro g c t a b ⟨rfl, C, v⟩
    have hg : g < z.size := by omega
    have hgt : g < (arrOf t).size := by rw [C.sz]; exact hg
    refine wpS_bind (wpS_mono (Q := fun c t' => t' = t /\ ∃ l r, c = (none, l, r) /\ l <= g /\ (∀ i, i < l -> zaz ky (arrOf t) i < zaz ky (arrOf t) g) /\ ∀ i, l <= i -> i < g -> zaz ky (arrOf t) g < zaz ky (arrOf t) i)
      (wpS_forRange (fun x c t' => t' = t /\ ∃ l r, c = (none, l, r) /\ (l <= r /\ r <= g /\ r - l <= g - x) /\ (∀ i, i < l -> zaz ky (arrOf t) i < zaz ky (arrOf t) g) /\ ∀ i, r <= i -> i < g -> zaz ky (arrOf t) g < zaz ky (arrOf t) i) ?_ ?_ ⟨rfl, 0, g, rfl, by omega, fun i q => by omega, fun i p q => by omega⟩) ?_)
    · rintro x c t' _ hx ⟨rfl, l, r, rfl, bd, lo, up⟩
      show wpS _ _ _ _ (if l ≥ r then _ else _) _ _
      by_cases hr : l ≥ r
      · rw [if_pos hr]
        have : l = r := by omega
        subst this
        exact wpS_pure ⟨rfl, l, l, rfl, by omega, lo, up⟩
      rw [if_neg hr]
      refine wpS_bind (zis (i := g) (j := (l + r) / 2) T C hg (by omega) (by omega) ?_)
      have ap := C.apart T hg (show (l + r) / 2 < z.size by omega) (by omega)
      by_cases q : zaz ky (arrOf t') g < zaz ky (arrOf t') ((l + r) / 2)
      · rw [decide_eq_true q]
        refine wpS_pure ⟨rfl, l, (l + r) / 2, rfl, by omega, lo, fun i c1 c2 => ?_⟩
        rcases Nat.eq_or_lt_of_le c1 with e | e
        · rw [<- e]; exact q
        · exact Int.lt_trans q (v _ _ e c2)
      · rw [decide_eq_false q]
        refine wpS_pure ⟨rfl, (l + r) / 2 + 1, r, rfl, by omega, fun i c1 => ?_, up⟩
        have q2 : zaz ky (arrOf t') ((l + r) / 2) < zaz ky (arrOf t') g := by omega
        rcases Nat.eq_or_lt_of_le (Nat.le_of_lt_succ c1) with e | e
        · rw [e]; exact q2
        · exact Int.lt_trans (v _ _ e (by omega)) q2
    · rintro c t' ⟨rfl, l, r, rfl, bd, lo, up⟩
      have : l = r := by omega
      subst this
      exact ⟨rfl, l, l, rfl, by omega, lo, up⟩
    · rintro c t' ⟨rfl, l, r, rfl, hl, lo, up⟩
      show wpS _ _ _ _ (moveDown' g l >>= _) _ _
      rw [moveDown'_eq]
      refine wpS_bind (wpS_modify (wpS_pure ⟨rfl, C.put (bubble_perm _ _ _), fun i j ij hj => ?_⟩))
      show zaz ky (bubble (arrOf t') g (g - l)) i < zaz ky (bubble (arrOf t') g (g - l)) j
      rw [zpt ky hgt hl, zpt ky hgt hl]
      by_cases ei : i = l
      · rw [if_pos ei, if_neg (by omega), if_pos (by omega)]
        exact up _ (by omega) (by omega)
      · rw [if_neg ei]
        by_cases ej : j = l
        · rw [if_pos ej, if_neg (by omega)]
          exact lo _ (by omega)
        · rw [if_neg ej]
          by_cases ci : l < i /\ i <= g
          · rw [if_pos ci, if_pos (by omega)]
            exact v _ _ (by omega) (by omega)
          · rw [if_neg ci]
            by_cases cj : l < j /\ j <= g
            · rw [if_pos cj]
              rcases Nat.lt_or_ge i (j - 1) with d | d
              · exact v _ _ d (by omega)
              · omega
            · rw [if_neg cj]
              exact v _ _ ij (by omega)
  · rintro c t ⟨rfl, C, v⟩
    rw [Nat.max_eq_right (by omega)] at v
    exact ⟨rfl, C, v⟩
  · rw [Nat.max_eq_left h1]
    exact u
  · rintro c t ⟨rfl, C, v⟩
    exact wpS_pure (k t C v)
theorem zx4 {ky : Value -> Int} {z : Array Keyed} {st : SortSt} {Q : Unit -> SortSt -> Prop} (T : ST s.heap ky z) (B : SB z st) (h2 : 2 <= z.size) (h64 : z.size < 64)
    (k : ∀ t, (arrOf t).Perm z -> failedOf t = none -> Up ky (arrOf t) z.size -> Q () t) : wpS (model prog w) A E s sortRuns' Q st := by
  rw [sortRuns'_eq]
  refine wpS_bind (wpS_get ?_)
  have mr : minRun' z.size z.size 0 = z.size := by
    have : ∀ f n, n < 64 -> minRun' (f + 1) n 0 = n := fun f n h => by rw [minRun'_succ, if_pos h]; rfl
    have h3 := this (z.size - 1) z.size h64
    rwa [Nat.sub_add_cancel (by omega)] at h3
  dsimp only
  simp only [B.sz, mr]
  refine wpS_bind (wpS_mono (Q := fun c t => c = (none, z.size) /\ ((arrOf t).Perm z /\ failedOf t = none /\ Up ky (arrOf t) z.size /\ (pendingOf t).size = 1)) (wpS_forRange (fun x c t => (x = 0 /\ c = (none, 0) /\ SB z t) \/ (0 < x /\ c = (none, z.size) /\ ((arrOf t).Perm z /\ failedOf t = none /\ Up ky (arrOf t) z.size /\ (pendingOf t).size = 1))) ?_ ?_ (.inl ⟨rfl, rfl, B⟩)) ?_)
  · rintro x c t _ hx (⟨rfl, rfl, C⟩ | ⟨_, rfl, D⟩)
    · dsimp only
      rw [if_neg (by omega)]
      simp only [Nat.sub_zero, Nat.min_self, Nat.zero_add]
      have fin : ∀ t, SB z t -> Up ky (arrOf t) z.size -> ((arrOf (setPending t ((pendingOf t).push (0, z.size, 0)))).Perm z /\ failedOf (setPending t ((pendingOf t).push (0, z.size, 0))) = none /\ Up ky (arrOf (setPending t ((pendingOf t).push (0, z.size, 0)))) z.size /\ (pendingOf (setPending t ((pendingOf t).push (0, z.size, 0)))).size = 1) := fun t C u => ⟨C.pm, C.fl, u, by show ((pendingOf t).push _).size = 1; rw [C.pd]; rfl⟩
      refine wpS_bind (zxj T C (Nat.le_refl _) (by omega) fun m t2 C2 a b v => ?_)
      dsimp only
      rcases Nat.lt_or_ge m z.size with c | c
      · rw [if_pos c]
        refine wpS_bind (wpS_lift (wpAny_rule ⟨rfl, ?_⟩))
        refine wpS_bind (zzl T C2 (Nat.le_refl _) a b v fun t3 C3 v3 => ?_)
        simp only [Bool.not_true, Bool.false_eq_true, if_false]
        refine wpS_bind (wpS_get ?_)
        rw [show (pendingOf t3).back? = none by rw [C3.pd]; rfl]
        exact wpS_bind (wpS_modify (wpS_pure (.inr ⟨by omega, rfl, fin t3 C3 v3⟩)))
      · rw [if_neg (by omega)]
        have : m = z.size := by omega
        subst this
        refine wpS_bind (wpS_get ?_)
        rw [show (pendingOf t2).back? = none by rw [C2.pd]; rfl]
        exact wpS_bind (wpS_modify (wpS_pure (.inr ⟨by omega, rfl, fin t2 C2 v⟩)))
    · dsimp only
      rw [if_pos (Nat.le_refl _)]
      exact wpS_pure ⟨rfl, D⟩
  · rintro c t (⟨e, _, _⟩ | ⟨_, e, D⟩)
    · omega
    · exact ⟨e, D⟩
  · rintro c t ⟨rfl, d1, d2, d3, d4⟩
    dsimp only
    refine wpS_bind (wpS_mono (Q := fun c t' => t' = t /\ c = (none, ())) (wpS_forRange (fun _ c t' => t' = t /\ c = (none, ())) ?_ (fun _ _ q => q) ⟨rfl, rfl⟩) ?_)
    · rintro x c t' _ _ ⟨rfl, rfl⟩
      refine wpS_bind (wpS_get ?_)
      rw [if_pos (by rw [d4]; exact Nat.le_refl 1)]
      exact wpS_pure ⟨rfl, rfl⟩
    · rintro c t' ⟨rfl, rfl⟩
      exact wpS_pure (k _ d1 d2 d3)
theorem z0e {v : Value} {n : Int} {Q : Option Value -> Shared -> Prop} (hb : Beg s.heap v n) (k : ∀ t, Q (some (.int n t)) s) : wpAny (model prog w) A (firstOfTuple' v) Q E s := by
  obtain ⟨a, t, us, rfl, o, ea, ca, _, da⟩ := hb
  show wpAny _ _ (typeOf (.ref a) >>= fun c => if (c != .type "tuple") = true then pure none else Builtin.List.listItems (.ref a) >>= fun its => pure its[0]?) _ _ _
  refine wpAny_bind (wpAny_typeOf_ref ea ?_)
  rw [ca, if_neg (by rw [bne_self_eq_false]; exact Bool.false_ne_true)]
  exact wpAny_bind (listItems_at ea da (wpAny_pure (k t)))
theorem zpa : ∀ (vs : List Value) {Q : List (Option Value) -> Shared -> Prop}, (∀ v ∈ vs, ∃ n, Beg s.heap v n) -> (∀ us ns, IntsAre us ns -> us.length = vs.length -> Q (us.map some) s) -> wpAny (model prog w) A (vs.mapM firstOfTuple') Q E s
  | [], Q, _, k => by
    rw [List.mapM_nil]
    exact wpAny_pure (k [] [] .nil rfl)
  | v :: vs, Q, h, k => by
    obtain ⟨n, hn⟩ := h v List.mem_cons_self
    rw [List.mapM_cons]
    exact wpAny_bind (z0e hn fun t => wpAny_bind (zpa vs (fun u hu => h u (List.mem_cons_of_mem _ hu)) fun us ns hi hl => wpAny_pure (k (.int n t :: us) (n :: ns) (.cons n t hi) (congrArg (· + 1) hl))))
theorem z4v {vs : List Value} {Q : SortKind -> Shared -> Prop} (h : ∀ v ∈ vs, ∃ n, Beg s.heap v n) (ne : vs ≠ []) (k : Q (tuples' true) s) : wpAny (model prog w) A (keyKind' vs.toArray) Q E s := by
  rw [keyKind'_eq, List.mapM_toArray]
  refine wpAny_bind (wpAny_map (zpa vs h fun us ns hi hl => ?_))
  rw [if_pos (by simp)]
  refine wpAny_bind (wpAny_rule ?_)
  have ef : (us.map some).toArray.filterMap id = us.toArray := by simp
  rw [ef, oneTypeOnly'_eq, List.mapM_toArray, mapM_typeOf_ints hi]
  cases us with
  | nil => exact absurd (List.eq_nil_of_length_eq_zero hl.symm) ne
  | cons u us =>
    simp only [map_pure, pure_bind, List.map_cons]
    refine wpAny_pure ?_
    have ea : ((Value.type "int" :: us.map fun _ => Value.type "int").toArray.all fun x => x == Value.type "int") = true := by
      rw [List.all_toArray, List.all_eq_true]
      intro x hx
      rcases List.mem_cons.mp hx with e | e
      · rw [e]; rfl
      · obtain ⟨_, _, e2⟩ := List.mem_map.mp e
        rw [<- e2]; rfl
    have fin : ∀ b : Bool, b = true -> Q (tuples' (Option.any (fun x => x != Value.type "tuple") (if b = true then some (Value.type "int") else none))) s := fun b e => by subst e; exact k
    exact fin _ ea
noncomputable def mid (h : Heap) (a : Addr) (vs : List Value) : Heap := ((h.update a (Obj.mapSeq fun _ => #[])).push (seqObj "tuple" vs.toArray 0)).push (seqObj "list" #[] 0)
theorem zse {h : Heap} {a b : Addr} {vs : List Value} (hb : b < h.objs.size) : (mid h a vs).get? b = (h.update a (Obj.mapSeq fun _ => #[])).get? b := by
  unfold mid
  have h1 : b < (h.update a (Obj.mapSeq fun _ => #[])).objs.size := by rw [Heap.size_update]; exact hb
  rw [Heap.get?_push_ne, Heap.get?_push_ne]
  · exact Nat.ne_of_lt h1
  · rw [size_push']; exact Nat.ne_of_lt (Nat.lt_succ_of_lt h1)
theorem zxy {h : Heap} {a b : Addr} {vs : List Value} {o : Obj} (hb : b ≠ a) (e : h.get? b = some o) : (mid h a vs).get? b = some o := by
  rw [zse (Heap.lt_size e), Heap.get?_update_ne _ _ _ _ hb]
  exact e
theorem zuw {h : Heap} {a : Addr} {vs xs : List Value} {n : Nat} {v : Value} {i : Int} (ho : h.get? a = some (seqObj "list" xs.toArray n)) (hb : Beg h v i) : Beg (mid h a vs) v i := by
  obtain ⟨b, t, us, rfl, o, ea, ca, d⟩ := hb
  refine ⟨b, t, us, rfl, o, zxy (fun z => ?_) ea, ca, d⟩
  rw [z, ho] at ea
  cases ea
  exact absurd (Value.type.inj (show Value.type "list" = Value.type "tuple" from ca)) (by decide)
theorem zr9 (ky : Value -> Int) : ∀ vs : List Value, (vs.zip vs).map (fun p => ky p.1) = vs.map ky
  | [] => rfl
  | v :: vs => by rw [List.zip_cons_cons, List.map_cons, List.map_cons, zr9 ky vs]
theorem z3t {ky : Value -> Int} {vs : List Value} {t : SortSt} (pm : (arrOf t).Perm (pairsOf vs)) (u : Up ky (arrOf t) (pairsOf vs).size) : ((arrOf t).map (·.2)).toList.Perm vs /\ (((arrOf t).map (·.2)).toList.map ky).Pairwise (· < ·) := by
  have pl : (arrOf t).toList.Perm (vs.zip vs) := by rw [<- pairsOf_toList]; exact Array.perm_iff_toList_perm.mp pm
  have e2 : ∀ p ∈ (arrOf t).toList, p.2 = p.1 := fun p hp => (mem_zip_self (pl.mem_iff.mp hp)).1.symm
  have em : ((arrOf t).map (·.2)).toList = (arrOf t).toList.map (·.1) := by
    rw [Array.toList_map]
    exact List.map_congr_left e2
  rw [em]
  constructor
  · have := pl.map Prod.fst
    rwa [List.map_fst_zip (Nat.le_refl _)] at this
  · rw [List.map_map, List.pairwise_iff_getElem]
    intro i j hi hj ij
    have li : i < (arrOf t).size := by simpa using hi
    have lj : j < (arrOf t).size := by simpa using hj
    have := u i j ij (by rw [<- pm.size_eq]; exact lj)
    unfold zaz at this
    rw [Array.getElem?_eq_getElem li, Array.getElem?_eq_getElem lj] at this
    simpa using this
theorem z1j {a : Addr} {vs : List Value} {n : Nat} {ky : Value -> Int} {P : Fin -> Shared -> Prop} (ho : s.heap.get? a = some (seqObj "list" vs.toArray n)) (hb : ∀ v ∈ vs, Beg s.heap v (ky v)) (nd : (vs.map ky).Nodup) (h64 : vs.length < 64)
    (k : ∀ out : Array Value, out.toList.Perm vs -> (out.toList.map ky).Pairwise (· < ·) -> P (.done (.ret .none)) { s with heap := sortedHeap s.heap a vs out }) : wpAny (model prog w) A (Builtin.«list.sort» ⟨[.ref a], []⟩) P E s := by
  have ha := Heap.lt_size ho
  obtain ⟨e1, o1⟩ : ∃ e1, (s.heap.update a (Obj.mapSeq fun _ => #[])).get? a = some (seqObj "list" #[] e1) := ⟨_, get?_update_seq ho (fun _ => #[])⟩
  have o6 : (mid s.heap a vs).get? a = some (seqObj "list" #[] e1) := (zse ha).trans o1
  rw [list_sort_plain]
  refine wpAny_bind (listItems_at ho rfl (wpAny_bind (listUpdate_at ho rfl (wpAny_bind (seqEpoch_at o1 rfl (wpAny_bind (wpAny_newTuple (wpAny_bind (wpAny_newList (wpAny_holding ?_))))))))))
  show wpAny (model prog w) A _ P E { s with heap := mid s.heap a vs }
  dsimp only
  have zl : vs.toArray.size = vs.length := List.size_toArray ..
  rcases Nat.lt_or_ge vs.toArray.size 2 with c | c
  · rw [if_pos c, if_pos c]
    refine wpAny_bind (wpAny_pure ?_)
    rw [StateT.run_pure]
    refine wpAny_bind (wpAny_pure (wpAny_bind (seqEpoch_at o6 rfl (wpAny_bind (listUpdate_at o6 rfl ?_ (hsz2 := ?_))))))
    · simp only [bne_self_eq_false, Bool.false_eq_true, if_false]
      have pz : ((vs.toArray.zip vs.toArray).map fun x : Keyed => x.2).toList = vs := by
        rw [Array.toList_map]
        show (pairsOf vs).toList.map Prod.snd = vs
        rw [pairsOf_toList, List.map_snd_zip (Nat.le_refl _)]
      refine wpAny_pure (k ((vs.toArray.zip vs.toArray).map fun x : Keyed => x.2) ?_ ?_)
      · rw [pz]
      · rw [pz]
        match vs, zl, c with
        | [], _, _ => exact .nil
        | [v], _, _ => exact List.pairwise_singleton _ _
        | _ :: _ :: _, z, c => exfalso; simp at c; omega
    · show ((pairsOf vs).map (·.2)).size <= _
      rw [Array.size_map, pairsOf_size, sizeLine_eq]
      omega
  · rw [if_neg (by omega), if_neg (by omega)]
    have hm : ∀ v ∈ vs, Beg (mid s.heap a vs) v (ky v) := fun v hv => zuw ho (hb v hv)
    have ne : vs ≠ [] := fun z => by subst z; simp at c
    have T : ST (mid s.heap a vs) ky (pairsOf vs) := ⟨fun p hp => by
      rw [pairsOf_toList] at hp
      exact hm _ (mem_zip_self hp).2, by rw [pairsOf_toList, zr9]; exact nd⟩
    refine wpAny_bind (z4v (fun v hv => ⟨_, hm v hv⟩) ne ?_)
    refine wpAny_bind (wpAny_mono (zx4 (s := { s with heap := mid s.heap a vs }) (Q := fun _ t => (arrOf t).Perm (pairsOf vs) /\ failedOf t = none /\ Up ky (arrOf t) (pairsOf vs).size) T ⟨Array.Perm.refl _, rfl, rfl, rfl⟩ (by rw [pairsOf_size]; omega) (by rw [pairsOf_size]; exact h64) fun t a1 a2 a3 => ⟨a1, a2, a3⟩) ?_ fun _ _ e => e)
    rintro ⟨⟨⟩, t⟩ s' ⟨rfl, pm, fl, u⟩
    obtain ⟨q1, q2⟩ := z3t pm u
    dsimp only
    refine wpAny_bind (seqEpoch_at o6 rfl (wpAny_bind (listUpdate_at o6 rfl ?_ (hsz2 := ?_))))
    · rw [fl]
      simp only [bne_self_eq_false, Bool.false_eq_true, if_false]
      exact wpAny_pure (k _ q1 q2)
    · show ((arrOf t).map (·.2)).size <= _
      rw [Array.size_map, pm.size_eq, pairsOf_size, sizeLine_eq]
      omega
theorem zyy {l : Addr} {vs : List Value} {ky : Value -> Int} {Q : Value -> Shared -> Prop} (hl : s.heap.IsList l vs.toArray) (hb : ∀ v ∈ vs, Beg s.heap v (ky v)) (nd : (vs.map ky).Nodup) (h64 : vs.length < 64)
    (k : ∀ out : Array Value, out.toList.Perm vs -> (out.toList.map ky).Pairwise (· < ·) -> Q (.ref (s.heap.objs.size + 1)) { s with heap := sortedAll s.heap vs out }) : wpAny (model prog w) A (call (.builtin "sorted") [.ref l]) Q E s := by
  have z1 : ((s.heap.push (seqObj "list" #[] 0)).update s.heap.objs.size (Obj.mapSeq (· ++ vs.toArray))).objs.size = s.heap.objs.size + 1 := by rw [Heap.size_update, size_push']
  have keep : ∀ b o, s.heap.get? b = some o -> (((s.heap.push (seqObj "list" #[] 0)).update s.heap.objs.size (Obj.mapSeq (· ++ vs.toArray))).push (seqObj "list" vs.toArray 0)).get? b = some o := fun b o e => by
    have hlt := Heap.lt_size e
    rw [Heap.get?_push_ne _ _ _ (by rw [z1]; exact Nat.ne_of_lt (Nat.lt_succ_of_lt hlt)), Heap.get?_update_ne _ _ _ _ (Nat.ne_of_lt hlt)]
    exact Heap.get?_push_of_some _ e
  refine Calls.call_function_entry kind_sorted plain_sorted entry_sorted (args_sorted1 _) ?_
  unfold Builtin.«sorted»
  refine wpAny_bind (m := checkCount "sorted" 1 1 _) (wpAny_pure (wpAny_bind (collect_list hl (wpAny_bind (wpAny_newList ?_)))))
  show wpAny _ _ _ _ _ { s with heap := ((s.heap.push (seqObj "list" #[] 0)).update s.heap.objs.size (Obj.mapSeq (· ++ vs.toArray))).push (seqObj "list" vs.toArray 0) }
  have oL : (((s.heap.push (seqObj "list" #[] 0)).update s.heap.objs.size (Obj.mapSeq (· ++ vs.toArray))).push (seqObj "list" vs.toArray 0)).get? (s.heap.objs.size + 1) = some (seqObj "list" vs.toArray 0) := by
    rw [<- z1]
    exact Heap.get?_push_size _ rfl
  rw [z1]
  refine wpAny_bind (wpAny_holding (wpAny_call_entry slot_list_sort ⟨_, oL, rfl⟩ entry_list_sort (z1j oL (fun v hv => ?_) nd h64 fun out a1 a2 => ⟨_, rfl, ?_⟩) (args_list_sort _)))
  · obtain ⟨b, t, us, e, o, ea, ca, d⟩ := hb v hv
    exact ⟨b, t, us, e, o, keep b o ea, ca, d⟩
  · exact wpAny_pure ⟨_, rfl, k out a1 a2⟩
end
end L2
namespace L2
open PySem PySem.Spec PyProof.Rows
noncomputable def zcs {α : Type} (zs : List (Int × α)) : List (Int × α) := (zay (zs.map (·.1))).filterMap fun n => zs.find? fun z => z.1 == n
theorem zl5 {α β : Type} (f : α -> β) (zs : List (Int × α)) : zcs (zs.map fun z => (z.1, f z.2)) = (zcs zs).map fun z => (z.1, f z.2) := by
  have e : ∀ n, (zs.map fun z => (z.1, f z.2)).find? (fun z => z.1 == n) = (zs.find? fun z => z.1 == n).map fun z => (z.1, f z.2) := fun n => by
    rw [List.find?_map]
    rfl
  unfold zcs
  simp only [e]
  rw [List.map_map, List.map_filterMap]
  rfl
theorem zt7 {α : Type} {zs : List (Int × α)} {z : Int × α} (h : z ∈ zcs zs) : z ∈ zs := by
  obtain ⟨n, _, e⟩ := List.mem_filterMap.mp h
  exact List.mem_of_find?_eq_some e
theorem zl6 {α : Type} : ∀ (zs : List (Int × α)), (zs.map (·.1)).Nodup -> ∀ z ∈ zs, zs.find? (fun y => y.1 == z.1) = some z
  | [], _, _, h => (List.not_mem_nil h).elim
  | y :: zs, nd, z, h => by
    rw [List.map_cons, List.nodup_cons] at nd
    rw [List.find?_cons]
    rcases List.mem_cons.mp h with e | e
    · rw [e, beq_self_eq_true]
    · have : (y.1 == z.1) = false := beq_eq_false_iff_ne.mpr fun q => nd.1 (List.mem_map.mpr ⟨z, e, q.symm⟩)
      rw [this]
      exact zl6 zs nd.2 z e
theorem zr5 {α : Type} {zs T : List (Int × α)} (nd : (zs.map (·.1)).Nodup) (hs : (T.map (·.1)).Pairwise (· < ·)) (hm : ∀ z, z ∈ T ↔ z ∈ zs) : zcs zs = T := by
  have e : zay (zs.map (·.1)) = T.map (·.1) := zit _ _ (zfi _) hs fun k => by
    rw [zdb, List.mem_map, List.mem_map]
    exact ⟨fun ⟨z, a, b⟩ => ⟨z, (hm z).mpr a, b⟩, fun ⟨z, a, b⟩ => ⟨z, (hm z).mp a, b⟩⟩
  unfold zcs
  rw [e]
  have go : ∀ U : List (Int × α), (∀ z ∈ U, z ∈ zs) -> (U.map (·.1)).filterMap (fun n => zs.find? fun z => z.1 == n) = U := by
    intro U
    induction U with
    | nil => intro _; rfl
    | cons u U ih =>
      intro h
      rw [List.map_cons, List.filterMap_cons_some (f := fun n => zs.find? fun z => z.1 == n) (zl6 zs nd u (h u List.mem_cons_self)), ih fun z hz => h z (List.mem_cons_of_mem _ hz)]
  exact go T fun z hz => (hm z).mp hz
noncomputable def kyH (h : Heap) : Value -> Int
  | .ref a => match h.get? a with
    | some o => match o.data with
      | .seq xs _ => match xs.toList with
        | Value.int n _ :: _ => n
        | _ => 0
      | _ => 0
    | none => 0
  | _ => 0
noncomputable def adr : Value -> Addr
  | .ref a => a
  | _ => 0
theorem zwz {h : Heap} {v : Value} {n : Int} (b : Beg h v n) : kyH h v = n := by
  obtain ⟨a, t, us, rfl, o, ea, _, m, da⟩ := b
  unfold kyH
  simp only [ea, da]
theorem zo8 : ∀ (zs : List (Int × Addr)) (its : List Value), zaj (zs.map fun z => V.ref z.2) its -> its = zs.map fun z => Value.ref z.2
  | [], _, r => by cases r; rfl
  | z :: zs, _, r => by
    cases r with
    | cons a b => rw [zo8 zs _ b, show _ = Value.ref z.2 from a]; rfl
theorem zov : ∀ zs : List (Int × Addr), zaj (zs.map fun z => V.ref z.2) (zs.map fun z => Value.ref z.2)
  | [] => .nil
  | z :: zs => .cons rfl (zov zs)
noncomputable def tSP (K : PySem.W.Frag) (te : TE) : TE := fun σ H Q => te σ H fun x H1 => ∃ l, ∃ zs : List (Int × Addr), x = .ref l /\ SqL K H1 l (zs.map fun z => V.ref z.2) /\ (∀ z ∈ zs, ∃ us, SqT K H1 z.2 (.int z.1 :: us)) /\ zs.length < 64 /\ (zs.map (·.1)).Nodup /\ ∀ p, H1 p = none -> Q (.ref p) (upd H1 p (.lst ((zcs zs).map fun z => V.ref z.2)))
section
variable {X : Cx} {e : Expr} {te : TE} {p pos : Pos}
theorem zum (hgs : Gl X "sorted") (hms : X.mg "sorted" = none) (he : PE X e te) (h1 : starEach [e] X.env = (false, eval e X.env) :: starEach [] X.env := by rfl) (hpl : (backTo pos (starEach [] X.env)).any (·.1) = false := by rfl) :
    PE X (.Call (.Name "sorted" p) [e] [] pos) (tSP X.K te) := by
  intro pins s σ H Q I h
  refine wpAny_Call_Name_kw (zfy I hgs hms boot_sorted ?_)
  refine PyProof.Rows.callWith_builtin1 ?_ h1 hpl
  rw [h1]
  show wpAny _ _ (spliced ((false, eval e X.env) :: backTo pos (starEach [] X.env))) _ _ s
  refine Calls.spliced_cons (thn (he pins s σ H _ I h) fun u s1 q_ => ?_)
  obtain ⟨x, H1, I1, r1, l, zs, e1, hq, ht, h64, nd, q⟩ := q_
  subst e1
  cases r1
  refine wpAny_pure ?_
  obtain ⟨its, rr, pl, hz⟩ := I1.list hq
  have ei := zo8 zs its rr
  subst ei
  have bg : ∀ z ∈ zs, Beg s1.heap (.ref z.2) z.1 := fun z hz => by
    obtain ⟨us, hu⟩ := ht z hz
    obtain ⟨its, r, tp, _⟩ := I1.tuple hu
    cases r with
    | cons a b =>
      obtain ⟨t, ea⟩ := a
      subst ea
      exact ⟨z.2, t, _, rfl, tp⟩
  have eky : ∀ z ∈ zs, kyH s1.heap (.ref z.2) = z.1 := fun z hz => zwz (bg z hz)
  have em : (zs.map fun z => Value.ref z.2).map (kyH s1.heap) = zs.map (·.1) := by
    rw [List.map_map]
    exact List.map_congr_left eky
  refine zyy (ky := kyH s1.heap) pl.isList (fun v hv => ?_) (by rw [em]; exact nd) (by rw [List.length_map]; exact h64) fun out a1 a2 => ?_
  · obtain ⟨z, hz, rfl⟩ := List.mem_map.mp hv
    rw [eky z hz]
    exact bg z hz
  obtain ⟨ep, ge⟩ := sortedAll_at s1.heap (zs.map fun z => Value.ref z.2) out
  have es : zcs zs = out.toList.map fun v => (kyH s1.heap v, adr v) := by
    refine zr5 nd (by rw [List.map_map]; exact a2) fun z => ?_
    rw [List.mem_map]
    constructor
    · rintro ⟨v, hv, rfl⟩
      obtain ⟨y, hy, rfl⟩ := List.mem_map.mp (a1.mem_iff.mp hv)
      rw [eky y hy]
      exact hy
    · intro hz
      exact ⟨.ref z.2, a1.mem_iff.mpr (List.mem_map.mpr ⟨z, hz, rfl⟩), by rw [eky z hz]; rfl⟩
  have eo : out.toList = (zcs zs).map fun z => Value.ref z.2 := by
    rw [es, List.map_map]
    have : ∀ v ∈ out.toList, v = Value.ref (adr v) := fun v hv => by
      obtain ⟨y, _, rfl⟩ := List.mem_map.mp (a1.mem_iff.mp hv)
      rfl
    calc out.toList = out.toList.map id := (List.map_id _).symm
      _ = _ := List.map_congr_left this
  have hl : (zcs zs).length = zs.length := by
    have := congrArg List.length eo
    rw [List.length_map, a1.length_eq, List.length_map] at this
    exact this.symm
  refine ⟨.ref (s1.heap.objs.size + 1), _, (I1.laid (t' := s1.toks) (a := s1.heap.objs.size + 1) (o := .lst ((zcs zs).map fun z => V.ref z.2)) (fun b u g => sortedAll_old g) (Nat.le_succ _) ?_), rfl, q _ (I1.hok.fresh (Nat.le_succ _))⟩
  exact ⟨by rw [List.length_map, sizeLine_eq]; omega, out.toList, ep, by rw [eo]; exact zov _, by simpa using ge⟩
end
noncomputable def zfj : List D -> Option (List (Int × D))
  | [] => some []
  | d :: ds => match d with
    | .tup (.int n :: ys) => (zfj ds).map fun r => (n, .tup (.int n :: ys)) :: r
    | _ => none
noncomputable def zjo (f : List Sl -> Option D) (ρ : List Sl) : Option (List D) := (f ρ).bind fun d => (lsD d).bind fun ds => (zfj ds).bind fun zs => if zs.length < 64 /\ (zs.map (·.1)).Nodup then some ((zcs zs).map (·.2)) else none
theorem zow {G : Gc} {H : Hp} : ∀ (ds : List D) (vs : List V) (zs : List (Int × D)), zfj ds = some zs -> zae G H ds vs -> ∃ ws : List (Int × Addr × D), ws.map (fun w => (w.1, w.2.2)) = zs /\ vs = ws.map (fun w => V.ref w.2.1) /\ ∀ w ∈ ws, Rep G H w.2.2 (.ref w.2.1) /\ ∃ us, H w.2.1 = some (.tup (.int w.1 :: us))
  | [], vs, zs, e, r => by
    cases e
    cases (show vs = [] from r)
    exact ⟨[], rfl, rfl, fun w hw => (List.not_mem_nil hw).elim⟩
  | d :: ds, vs, zs, e, r => by
    obtain ⟨v, rs, ev, h1, h2⟩ := r
    subst ev
    cases d with
    | tup xs =>
      cases xs with
      | nil => cases e
      | cons x ys =>
        cases x with
        | int n =>
          have e : (zfj ds).map (fun r => (n, D.tup (.int n :: ys)) :: r) = some zs := e
          cases ez : zfj ds with
          | none => rw [ez] at e; cases e
          | some z2 =>
            rw [ez] at e
            cases e
            obtain ⟨ws, w1, w2, w3⟩ := zow ds rs z2 ez h2
            have hr := h1
            obtain ⟨a, us, ea, q, u, r, eu, hu, _⟩ := h1
            subst ea eu
            cases (show u = V.int n from hu)
            exact ⟨(n, a, .tup (.int n :: ys)) :: ws, by rw [List.map_cons, w1], by rw [List.map_cons, w2], fun w hw => by
              rcases List.mem_cons.mp hw with e | e
              · subst e
                exact ⟨hr, r, q⟩
              · exact w3 w e⟩
        | _ => cases e
    | _ => cases e
theorem zqy {G : Gc} {H : Hp} {α : Type} (f : α -> D) (g : α -> V) : ∀ ws : List α, (∀ w ∈ ws, Rep G H (f w) (g w)) -> zae G H (ws.map f) (ws.map g)
  | [], _ => zae.nil
  | w :: ws, h => .cons (h w List.mem_cons_self) (zqy f g ws fun y hy => h y (List.mem_cons_of_mem _ hy))
section
variable {c : Str -> Addr} {X : Cx} {e a b : Expr} {p pos : Pos}
theorem z4q {f : List Sl -> Option D} (_hc : X.calm = true) (hgs : Gl X "sorted") (hms : X.mg "sorted" = none) (ha : DE c X e f)
    (h1 : starEach [e] X.env = (false, eval e X.env) :: starEach [] X.env := by rfl) (hpl : (backTo pos (starEach [] X.env)).any (·.1) = false := by rfl) : DO c X (.Call (.Name "sorted" p) [e] [] pos) (zjo f) :=
  PE.imp (zum hgs hms ha h1 hpl) fun σ H Q q_ => by
    obtain ⟨Hf0, H0, Hf, ρ, ds, st, ef, k⟩ := q_
    unfold zjo at ef
    cases e1 : f ρ with
    | none => rw [e1] at ef; cases ef
    | some d =>
      rw [e1] at ef
      cases e2 : lsD d with
      | none => rw [Option.bind_some, e2] at ef; cases ef
      | some xs =>
        rw [Option.bind_some, e2] at ef
        cases e3 : zfj xs with
        | none => rw [Option.bind_some, e3] at ef; cases ef
        | some zs =>
          rw [Option.bind_some, e3, Option.bind_some] at ef
          split at ef
          · rename_i hl
            cases ef
            refine ⟨Hf0, H0, Hf, ρ, d, st, e1, fun v Hf' H' x r => ?_⟩
            obtain ⟨l, vs, el, q, rs⟩ := zgb e2 r
            obtain ⟨ws, w1, w2, w3⟩ := zow xs vs zs e3 rs
            subst el w2
            have wa : (ws.map fun w => (w.1, w.2.1)).map (fun z : Int × Addr => V.ref z.2) = ws.map fun w => V.ref w.2.1 := by rw [List.map_map]; rfl
            have wn : (ws.map fun w => (w.1, w.2.1)).map (·.1) = zs.map (·.1) := by rw [<- w1, List.map_map, List.map_map]; rfl
            have wl : ws.length = zs.length := by rw [<- w1, List.length_map]
            have b1 : zcs zs = (zcs ws).map fun w => (w.1, w.2.2) := by rw [<- w1]; exact zl5 (fun y : Addr × D => y.2) ws
            have b2 : zcs (ws.map fun w => (w.1, w.2.1)) = (zcs ws).map fun w => (w.1, w.2.1) := zl5 (fun y : Addr × D => y.1) ws
            refine ⟨l, ws.map fun w => (w.1, w.2.1), rfl, by rw [wa]; exact x.s.seq q, fun z hz => ?_, by rw [List.length_map, wl]; exact hl.1, by rw [wn]; exact hl.2, fun pp hp => ?_⟩
            · obtain ⟨w, hw, rfl⟩ := List.mem_map.mp hz
              obtain ⟨us, hu⟩ := (w3 w hw).2
              exact ⟨us, x.s.tup (.of hu)⟩
            · refine k pp _ Hf' _ (x.trans (Ext.tmp x.s hp)) (x.h.free hp) (x.s.free hp) zbe ?_
              rw [b1, b2, List.map_map, List.map_map]
              exact zqy _ _ (zcs ws) fun w hw => (w3 w (zt7 hw)).1
          · cases ef
end
theorem zq4 {α : Type} {f : List Sl -> Option D} {ρ : List Sl} (g : Int × α -> D) (hg : ∀ z, ∃ ys, g z = .tup (.int z.1 :: ys)) {zs T : List (Int × α)} (h : f ρ = some (.lst (zs.map g))) (h1 : zs.length < 64) (nd : (zs.map (·.1)).Nodup) (hs : (T.map (·.1)).Pairwise (· < ·)) (hm : ∀ z, z ∈ T ↔ z ∈ zs) : zjo f ρ = some (T.map g) := by
  have ef : ∀ zs : List (Int × α), zfj (zs.map g) = some (zs.map fun z => (z.1, g z)) := by
    intro zs
    induction zs with
    | nil => rfl
    | cons z zs ih =>
      obtain ⟨ys, ey⟩ := hg z
      rw [List.map_cons, List.map_cons, ey]
      show (zfj (zs.map g)).map _ = _
      rw [ih]
      rfl
  have hp : ∀ zs : List (Int × α), zs.map (fun z => (z.1, g z)) = (zs.map fun z => (z.1, z)).map fun z => (z.1, g z.2) := fun zs => by rw [List.map_map]; rfl
  have e1 : zcs (zs.map fun z => (z.1, z)) = T.map fun z => (z.1, z) := by
    refine zr5 (by rw [List.map_map]; exact nd) (by rw [List.map_map]; exact hs) fun z => ?_
    rw [List.mem_map, List.mem_map]
    exact ⟨fun ⟨y, a, b⟩ => ⟨y, (hm y).mp a, b⟩, fun ⟨y, a, b⟩ => ⟨y, (hm y).mpr a, b⟩⟩
  unfold zjo
  rw [h, Option.bind_some]
  show (zfj (zs.map g)).bind _ = _
  rw [ef, Option.bind_some, if_pos ⟨by rw [List.length_map]; exact h1, by rw [List.map_map]; exact nd⟩, hp, zl5, e1, List.map_map, List.map_map]
  rfl
end L2
namespace L2
open PySem PySem.Spec PyProof.Rows
section
variable {c : Str -> Addr} {X : Cx} {a b : Expr} {zbs : List Expr} {pos : Pos} {ta tb : TE}
theorem zv0 (ha : PE X a ta) (hb : PE X (.BoolOp .Or (b :: zbs) pos) tb) : PE X (.BoolOp .Or (a :: b :: zbs) pos) (fun σ H Q => ta σ H fun x H1 => ∃ k, zle X.K x H1 k /\ if k = true then Q x H1 else tb σ H1 Q) := by
  intro pins s σ H Q I h
  refine BoolOp_or (thn (ha pins s σ H _ I h) fun v s1 ⟨x, H1, I1, r1, k, tv, q1⟩ => ?_)
  refine thn (ztm pins s1 σ H1 x v (fun g H' => g = k /\ H' = H1) I1 r1 ⟨k, tv, rfl, rfl⟩) fun g s2 ⟨H2, I2, e1, e2⟩ => ?_
  subst e1 e2
  cases g with
  | true => exact ⟨x, H2, I2, r1, q1⟩
  | false => exact hb pins s2 σ H2 Q I2 q1
noncomputable def zil (f g : List Sl -> Option D) (ρ : List Sl) : Option D := (f ρ).bind fun d => (zgx d).bind fun k => if k then some d else g ρ
theorem z1i {f g : List Sl -> Option D} (h : DE c X a f) (h' : DE c X (.BoolOp .Or (b :: zbs) pos) g) : DE c X (.BoolOp .Or (a :: b :: zbs) pos) (zil f g) := PE.imp (zv0 h h') fun σ H Q q_ => by
  obtain ⟨Hf0, H0, Hf, ρ, d, st, ef, k⟩ := q_
  unfold zil at ef
  cases e1 : f ρ with
  | none => rw [e1] at ef; cases ef
  | some x =>
    rw [e1, Option.bind_some] at ef
    cases e2 : zgx x with
    | none => rw [e2] at ef; cases ef
    | some t =>
      rw [e2, Option.bind_some] at ef
      refine ⟨Hf0, H0, Hf, ρ, x, st, e1, fun v Hf1 H1 x1 r1 => ⟨t, zrj e2 (r1.up x1.s), ?_⟩⟩
      cases t with
      | false => rw [if_neg Bool.false_ne_true]; exact ⟨Hf0, H0, Hf1, ρ, d, st.step x1, ef, fun v Hf2 H2 x2 r2 => k v Hf2 H2 (x1.trans x2) r2⟩
      | true => cases ef; rw [if_pos rfl]; exact k _ Hf1 H1 x1 r1
end
end L2
namespace N_k31
open PySem PySem.Spec PyProof.Rows L2
noncomputable def top (i : Nat) : Stmt := PySem.Challenge.pw_standstill_k31_pressed.main.body.getD i (.Pass ⟨0, 0, 0, 0⟩)
noncomputable abbrev zh7 : Stmt := top 7
noncomputable abbrev zh9 : Stmt := top 8
noncomputable abbrev zhs : Stmt := top 9
noncomputable abbrev s_8 : Stmt := top 11
noncomputable abbrev zhb : Stmt := top 12
noncomputable abbrev zg5 : Stmt := top 14
noncomputable abbrev zhw : Stmt := top 15
noncomputable abbrev s_9 : Stmt := top 17
noncomputable abbrev zik : Stmt := top 19
noncomputable abbrev s_2 : Stmt := top 21
noncomputable abbrev s_0 : Stmt := top 22
noncomputable abbrev s_4 : Stmt := top 23
noncomputable abbrev zhf : Stmt := top 24
noncomputable abbrev zie : Stmt := top 25
noncomputable abbrev zg2 : Stmt := top 26
noncomputable abbrev s_5 : Stmt := top 27
noncomputable abbrev s_3 : Stmt := top 28
noncomputable abbrev zh8 : Stmt := top 29
noncomputable abbrev zgu : Stmt := top 30
noncomputable abbrev zg7 : Stmt := top 31
noncomputable abbrev zhe : Stmt := top 32
noncomputable abbrev zhc : Stmt := top 33
noncomputable abbrev s_1 : Stmt := top 34
noncomputable abbrev zg1 : Stmt := zdx (top 3) 0
noncomputable abbrev zhg : Stmt := zdx (top 3) 5
noncomputable abbrev zg6 : Stmt := zdx (top 3) 7
noncomputable abbrev zg0 : Stmt := zdx (top 4) 0
noncomputable abbrev zg8 : Stmt := zdx (top 4) 5
noncomputable abbrev zh1 : Stmt := zdx (top 4) 7
noncomputable abbrev zhi : Stmt := zdx (top 5) 0
noncomputable abbrev zgw : Stmt := zdx (top 5) 5
noncomputable abbrev s_6 : Stmt := zdx (top 5) 7
noncomputable abbrev zgz : Stmt := zdx (top 6) 0
noncomputable abbrev zh0 : Stmt := zdx (top 6) 5
noncomputable abbrev s_7 : Stmt := zdx (top 6) 7
theorem zso : za7 ["told", "word"] ["told"] (zak zh7) := ⟨rfl, rfl, rfl, by decide +kernel, rfl, by decide +kernel, by decide +kernel⟩
theorem z2k : za7 ["items", "entries"] ["items", "entries"] (zak zh9) := ⟨rfl, rfl, rfl, by decide +kernel, rfl, by decide +kernel, by decide +kernel⟩
theorem z4x : za7 ["items", "sheet"] ["items", "sheet"] (zak zhs) := ⟨rfl, rfl, rfl, by decide +kernel, rfl, by decide +kernel, by decide +kernel⟩
theorem zqn : za7 ["items", "sheet", "lack", "weights"] ["items", "sheet", "lack"] (zak s_8) := ⟨rfl, rfl, rfl, by decide +kernel, rfl, by decide +kernel, by decide +kernel⟩
theorem zjy : za7 ["items", "weights", "thing", "worth"] ["items"] (zak zhb) := ⟨rfl, rfl, rfl, by decide +kernel, rfl, by decide +kernel, by decide +kernel⟩
theorem z30 : za7 ["rule"] ["rule"] (zak zg5) := ⟨rfl, rfl, rfl, by decide +kernel, rfl, by decide +kernel, by decide +kernel⟩
theorem zq2 : za7 ["rule", "guard"] ["rule"] (zak zhw) := ⟨rfl, rfl, rfl, by decide +kernel, rfl, by decide +kernel, by decide +kernel⟩
theorem ziv : za7 ["guard", "sheet", "pairs", "part", "tips"] ["guard", "sheet"] (zak s_9) := ⟨rfl, rfl, rfl, by decide +kernel, rfl, by decide +kernel, by decide +kernel⟩
theorem zxo : za7 ["rule", "sheet"] ["rule", "sheet"] (zak zik) := ⟨rfl, rfl, rfl, by decide +kernel, rfl, by decide +kernel, by decide +kernel⟩
theorem z00 : za7 ["_law_script", "_law_k"] ["_law_script", "_law_k"] (zak s_2) := ⟨rfl, rfl, rfl, by decide +kernel, rfl, by decide +kernel, by decide +kernel⟩
theorem zim : za7 ["_law_cell", "_law_many", "_law_found", "_law_number", "_law_k"] ["_law_cell", "_law_many"] (zak s_0) := ⟨rfl, rfl, rfl, by decide +kernel, rfl, by decide +kernel, by decide +kernel⟩
theorem zys : za7 ["_law_x"] ["_law_x"] (zak s_4) := ⟨rfl, rfl, rfl, by decide +kernel, rfl, by decide +kernel, by decide +kernel⟩
theorem zlg : za7 ["_law_xs", "_law_many", "_law_word", "_law_items", "_law_near_here"] ["_law_xs", "_law_many"] (zak zhf) := ⟨rfl, rfl, rfl, by decide +kernel, rfl, by decide +kernel, by decide +kernel⟩
theorem zml : za7 ["_law_cell", "_law_many", "_law_xs", "_law_parts"] ["_law_cell", "_law_many"] (zak zie) := ⟨rfl, rfl, rfl, by decide +kernel, rfl, by decide +kernel, by decide +kernel⟩
theorem zjr : za7 ["_law_rule_here", "_law_cell", "_law_many", "_law_xs", "_law_items", "_law_near_here", "_law_part_here"] ["_law_rule_here", "_law_cell", "_law_many"] (zak zg2) := ⟨rfl, rfl, rfl, by decide +kernel, rfl, by decide +kernel, by decide +kernel⟩
theorem zlv : za7 ["_law_rule_here", "_law_things", "_law_part_here"] ["_law_rule_here"] (zak s_5) := ⟨rfl, rfl, rfl, by decide +kernel, rfl, by decide +kernel, by decide +kernel⟩
theorem ze5 : za7 ["_law_rule_here", "_law_base", "_law_cell", "_law_xs", "_law_named_here", "_law_sheet", "_law_part_here", "_law_things", "_law_thing", "_law_x"] ["_law_rule_here", "_law_base", "_law_cell"] (zak s_3) := ⟨rfl, rfl, rfl, by decide +kernel, rfl, by decide +kernel, by decide +kernel⟩
theorem z04 : za7 ["_law_part_here", "_law_sheet"] ["_law_part_here", "_law_sheet"] (zak zh8) := ⟨rfl, rfl, rfl, by decide +kernel, rfl, by decide +kernel, by decide +kernel⟩
theorem z5k : za7 ["_law_rule_here", "_law_sheet"] ["_law_rule_here", "_law_sheet"] (zak zgu) := ⟨rfl, rfl, rfl, by decide +kernel, rfl, by decide +kernel, by decide +kernel⟩
theorem zj0 : za7 ["_law_rule_here", "_law_sheet", "_law_due_here", "_law_thing", "_law_truth"] ["_law_rule_here", "_law_sheet"] (zak zg7) := ⟨rfl, rfl, rfl, by decide +kernel, rfl, by decide +kernel, by decide +kernel⟩
theorem zp5 : za7 ["_law_found", "_law_pair"] ["_law_found"] (zak zhe) := ⟨rfl, rfl, rfl, by decide +kernel, rfl, by decide +kernel, by decide +kernel⟩
theorem zke : za7 ["_law_rule_here", "_law_parts", "_law_part_here"] ["_law_rule_here"] (zak zhc) := ⟨rfl, rfl, rfl, by decide +kernel, rfl, by decide +kernel, by decide +kernel⟩
theorem zdy : za7 ["_law_script", "_law_hs", "_law_many", "_law_base", "_law_k", "_law_cell", "_law_rule_here", "_law_sheet", "_law_handed", "_law_found"] ["_law_script"] (zak s_1) := ⟨rfl, rfl, rfl, by decide +kernel, rfl, by decide +kernel, by decide +kernel⟩
theorem zz5 : za7 ["self", "thing"] ["self", "thing"] (zak zg1) := ⟨rfl, rfl, rfl, by decide +kernel, rfl, by decide +kernel, by decide +kernel⟩
theorem zws : za7 ["self", "sheet"] ["self", "sheet"] (zak zhg) := ⟨rfl, rfl, rfl, by decide +kernel, rfl, by decide +kernel, by decide +kernel⟩
theorem zyq : za7 ["self", "sheet"] ["self", "sheet"] (zak zg6) := ⟨rfl, rfl, rfl, by decide +kernel, rfl, by decide +kernel, by decide +kernel⟩
theorem z23 : za7 ["self", "thing"] ["self", "thing"] (zak zg0) := ⟨rfl, rfl, rfl, by decide +kernel, rfl, by decide +kernel, by decide +kernel⟩
theorem zyv : za7 ["self", "sheet"] ["self", "sheet"] (zak zg8) := ⟨rfl, rfl, rfl, by decide +kernel, rfl, by decide +kernel, by decide +kernel⟩
theorem zvi : za7 ["self", "sheet"] ["self", "sheet"] (zak zh1) := ⟨rfl, rfl, rfl, by decide +kernel, rfl, by decide +kernel, by decide +kernel⟩
theorem z2m : za7 ["self", "bound", "items"] ["self", "bound", "items"] (zak zhi) := ⟨rfl, rfl, rfl, by decide +kernel, rfl, by decide +kernel, by decide +kernel⟩
theorem ztw : za7 ["self", "sheet"] ["self", "sheet"] (zak zgw) := ⟨rfl, rfl, rfl, by decide +kernel, rfl, by decide +kernel, by decide +kernel⟩
theorem zo3 : za7 ["self", "sheet", "lack"] ["self", "sheet"] (zak s_6) := ⟨rfl, rfl, rfl, by decide +kernel, rfl, by decide +kernel, by decide +kernel⟩
theorem zxd : za7 ["self", "bound", "items"] ["self", "bound", "items"] (zak zgz) := ⟨rfl, rfl, rfl, by decide +kernel, rfl, by decide +kernel, by decide +kernel⟩
theorem z4d : za7 ["self", "sheet"] ["self", "sheet"] (zak zh0) := ⟨rfl, rfl, rfl, by decide +kernel, rfl, by decide +kernel, by decide +kernel⟩
theorem zq9 : za7 ["self", "sheet", "lack"] ["self", "sheet"] (zak s_7) := ⟨rfl, rfl, rfl, by decide +kernel, rfl, by decide +kernel, by decide +kernel⟩
set_option genInjectivity false
set_option genSizeOf false
structure Wa where
  f_27 : Addr
  fd_27 : FuncData
  f_16 : Addr
  fd_16 : FuncData
  f_17 : Addr
  fd_17 : FuncData
  f_8 : Addr
  fd_8 : FuncData
  f_21 : Addr
  fd_21 : FuncData
  f_30 : Addr
  fd_30 : FuncData
  f_24 : Addr
  fd_24 : FuncData
  f_9 : Addr
  fd_9 : FuncData
  f_28 : Addr
  fd_28 : FuncData
  f_2 : Addr
  fd_2 : FuncData
  f_0 : Addr
  fd_0 : FuncData
  f_4 : Addr
  fd_4 : FuncData
  f_18 : Addr
  fd_18 : FuncData
  f_25 : Addr
  fd_25 : FuncData
  f_19 : Addr
  fd_19 : FuncData
  f_5 : Addr
  fd_5 : FuncData
  f_3 : Addr
  fd_3 : FuncData
  f_29 : Addr
  fd_29 : FuncData
  f_20 : Addr
  fd_20 : FuncData
  f_22 : Addr
  fd_22 : FuncData
  f_26 : Addr
  fd_26 : FuncData
  f_23 : Addr
  fd_23 : FuncData
  f_1 : Addr
  fd_1 : FuncData
  f_33 : Addr
  fd_33 : FuncData
  f_10 : Addr
  fd_10 : FuncData
  f_11 : Addr
  fd_11 : FuncData
  f_31 : Addr
  fd_31 : FuncData
  f_12 : Addr
  fd_12 : FuncData
  f_13 : Addr
  fd_13 : FuncData
  f_32 : Addr
  fd_32 : FuncData
  f_14 : Addr
  fd_14 : FuncData
  f_6 : Addr
  fd_6 : FuncData
  f_34 : Addr
  fd_34 : FuncData
  f_15 : Addr
  fd_15 : FuncData
  f_7 : Addr
  fd_7 : FuncData
  C_In : Addr
  C_Out : Addr
  C_Least : Addr
  C_Most : Addr
structure Wd (K : PySem.W.Frag) (mg : Str -> Option Value) (a : Wa) : Prop where
  F_27 : Fun K "part_of" "part_of" zh7 a.f_27 a.fd_27
  b_27 : za2 K a.fd_27 ["told"] []
  g_27 : mg "part_of" = some (.ref a.f_27)
  F_16 : Fun K "worth_in" "worth_in" zh9 a.f_16 a.fd_16
  b_16 : za2 K a.fd_16 ["items", "entries"] []
  g_16 : mg "worth_in" = some (.ref a.f_16)
  F_17 : Fun K "worth_not_out" "worth_not_out" zhs a.f_17 a.fd_17
  b_17 : za2 K a.fd_17 ["items", "sheet"] []
  g_17 : mg "worth_not_out" = some (.ref a.f_17)
  F_8 : Fun K "heavy" "heavy" s_8 a.f_8 a.fd_8
  b_8 : za2 K a.fd_8 ["items", "sheet", "lack"] []
  g_8 : mg "heavy" = some (.ref a.f_8)
  F_21 : Fun K "weights_of" "weights_of" zhb a.f_21 a.fd_21
  b_21 : za2 K a.fd_21 ["items"] []
  g_21 : mg "weights_of" = some (.ref a.f_21)
  F_30 : Fun K "body_of" "body_of" zg5 a.f_30 a.fd_30
  b_30 : za2 K a.fd_30 ["rule"] []
  g_30 : mg "body_of" = some (.ref a.f_30)
  F_24 : Fun K "guard_of" "guard_of" zhw a.f_24 a.fd_24
  b_24 : za2 K a.fd_24 ["rule"] []
  g_24 : mg "guard_of" = some (.ref a.f_24)
  F_9 : Fun K "pressed_by" "pressed_by" s_9 a.f_9 a.fd_9
  b_9 : za2 K a.fd_9 ["guard", "sheet"] []
  g_9 : mg "pressed_by" = some (.ref a.f_9)
  F_28 : Fun K "pressed" "pressed" zik a.f_28 a.fd_28
  b_28 : za2 K a.fd_28 ["rule", "sheet"] []
  g_28 : mg "pressed" = some (.ref a.f_28)
  F_2 : Fun K "_law_cell_at" "_law_cell_at" s_2 a.f_2 a.fd_2
  b_2 : za2 K a.fd_2 ["_law_script", "_law_k"] []
  g_2 : mg "_law_cell_at" = some (.ref a.f_2)
  F_0 : Fun K "_law_mixed" "_law_mixed" s_0 a.f_0 a.fd_0
  b_0 : za2 K a.fd_0 ["_law_cell", "_law_many"] []
  g_0 : mg "_law_mixed" = some (.ref a.f_0)
  F_4 : Fun K "_law_worth" "_law_worth" s_4 a.f_4 a.fd_4
  b_4 : za2 K a.fd_4 ["_law_x"] []
  g_4 : mg "_law_worth" = some (.ref a.f_4)
  F_18 : Fun K "_law_part" "_law_part" zhf a.f_18 a.fd_18
  b_18 : za2 K a.fd_18 ["_law_xs", "_law_many"] []
  g_18 : mg "_law_part" = some (.ref a.f_18)
  F_25 : Fun K "_law_rule" "_law_rule" zie a.f_25 a.fd_25
  b_25 : za2 K a.fd_25 ["_law_cell", "_law_many"] []
  g_25 : mg "_law_rule" = some (.ref a.f_25)
  F_19 : Fun K "_law_longer" "_law_longer" zg2 a.f_19 a.fd_19
  b_19 : za2 K a.fd_19 ["_law_rule_here", "_law_cell", "_law_many"] []
  g_19 : mg "_law_longer" = some (.ref a.f_19)
  F_5 : Fun K "_law_named" "_law_named" s_5 a.f_5 a.fd_5
  b_5 : za2 K a.fd_5 ["_law_rule_here"] []
  g_5 : mg "_law_named" = some (.ref a.f_5)
  F_3 : Fun K "_law_near" "_law_near" s_3 a.f_3 a.fd_3
  b_3 : za2 K a.fd_3 ["_law_rule_here", "_law_base", "_law_cell"] []
  g_3 : mg "_law_near" = some (.ref a.f_3)
  F_29 : Fun K "_law_part_sure" "_law_part_sure" zh8 a.f_29 a.fd_29
  b_29 : za2 K a.fd_29 ["_law_part_here", "_law_sheet"] []
  g_29 : mg "_law_part_sure" = some (.ref a.f_29)
  F_20 : Fun K "_law_broken" "_law_broken" zgu a.f_20 a.fd_20
  b_20 : za2 K a.fd_20 ["_law_rule_here", "_law_sheet"] []
  g_20 : mg "_law_broken" = some (.ref a.f_20)
  F_22 : Fun K "_law_due" "_law_due" zg7 a.f_22 a.fd_22
  b_22 : za2 K a.fd_22 ["_law_rule_here", "_law_sheet"] []
  g_22 : mg "_law_due" = some (.ref a.f_22)
  F_26 : Fun K "_law_pairs" "_law_pairs" zhe a.f_26 a.fd_26
  b_26 : za2 K a.fd_26 ["_law_found"] []
  g_26 : mg "_law_pairs" = some (.ref a.f_26)
  F_23 : Fun K "_law_copy" "_law_copy" zhc a.f_23 a.fd_23
  b_23 : za2 K a.fd_23 ["_law_rule_here"] []
  g_23 : mg "_law_copy" = some (.ref a.f_23)
  F_1 : Fun K "law" "law" s_1 a.f_1 a.fd_1
  b_1 : za2 K a.fd_1 ["_law_script"] []
  g_1 : mg "law" = some (.ref a.f_1)
  F_33 : Fun K "__init__" "In.__init__" zg1 a.f_33 a.fd_33
  b_33 : za2 K a.fd_33 ["self", "thing"] []
  F_10 : Fun K "sure" "In.sure" zhg a.f_10 a.fd_10
  b_10 : za2 K a.fd_10 ["self", "sheet"] []
  F_11 : Fun K "tips" "In.tips" zg6 a.f_11 a.fd_11
  b_11 : za2 K a.fd_11 ["self", "sheet"] []
  F_31 : Fun K "__init__" "Out.__init__" zg0 a.f_31 a.fd_31
  b_31 : za2 K a.fd_31 ["self", "thing"] []
  F_12 : Fun K "sure" "Out.sure" zg8 a.f_12 a.fd_12
  b_12 : za2 K a.fd_12 ["self", "sheet"] []
  F_13 : Fun K "tips" "Out.tips" zh1 a.f_13 a.fd_13
  b_13 : za2 K a.fd_13 ["self", "sheet"] []
  F_32 : Fun K "__init__" "Least.__init__" zhi a.f_32 a.fd_32
  b_32 : za2 K a.fd_32 ["self", "bound", "items"] []
  F_14 : Fun K "sure" "Least.sure" zgw a.f_14 a.fd_14
  b_14 : za2 K a.fd_14 ["self", "sheet"] []
  F_6 : Fun K "tips" "Least.tips" s_6 a.f_6 a.fd_6
  b_6 : za2 K a.fd_6 ["self", "sheet"] []
  F_34 : Fun K "__init__" "Most.__init__" zgz a.f_34 a.fd_34
  b_34 : za2 K a.fd_34 ["self", "bound", "items"] []
  F_15 : Fun K "sure" "Most.sure" zh0 a.f_15 a.fd_15
  b_15 : za2 K a.fd_15 ["self", "sheet"] []
  F_7 : Fun K "tips" "Most.tips" s_7 a.f_7 a.fd_7
  b_7 : za2 K a.fd_7 ["self", "sheet"] []
  g_In : mg "In" = some (.ref a.C_In)
  cl_In : Cls K a.C_In
  mk_In : Mk K a.C_In a.f_33
  na_In_thing : zcj K a.C_In "thing"
  m_10 : zcm K a.C_In "sure" a.f_10
  m_11 : zcm K a.C_In "tips" a.f_11
  g_Out : mg "Out" = some (.ref a.C_Out)
  cl_Out : Cls K a.C_Out
  mk_Out : Mk K a.C_Out a.f_31
  na_Out_thing : zcj K a.C_Out "thing"
  m_12 : zcm K a.C_Out "sure" a.f_12
  m_13 : zcm K a.C_Out "tips" a.f_13
  g_Least : mg "Least" = some (.ref a.C_Least)
  cl_Least : Cls K a.C_Least
  mk_Least : Mk K a.C_Least a.f_32
  na_Least_bound : zcj K a.C_Least "bound"
  na_Least_pieces : zcj K a.C_Least "pieces"
  m_14 : zcm K a.C_Least "sure" a.f_14
  m_6 : zcm K a.C_Least "tips" a.f_6
  g_Most : mg "Most" = some (.ref a.C_Most)
  cl_Most : Cls K a.C_Most
  mk_Most : Mk K a.C_Most a.f_34
  na_Most_bound : zcj K a.C_Most "bound"
  na_Most_pieces : zcj K a.C_Most "pieces"
  m_15 : zcm K a.C_Most "sure" a.f_15
  m_7 : zcm K a.C_Most "tips" a.f_7
  kt_NoneType_bool : PySem.W.kitOne K (.type "NoneType") (.type "bool") = some false
  kt_bool_bool : PySem.W.kitOne K (.type "bool") (.type "bool") = some true
  kt_int_bool : PySem.W.kitOne K (.type "int") (.type "bool") = some false
  kt_str_bool : PySem.W.kitOne K (.type "str") (.type "bool") = some false
  kt_list_bool : PySem.W.kitOne K (.type "list") (.type "bool") = some false
  kt_tuple_bool : PySem.W.kitOne K (.type "tuple") (.type "bool") = some false
  kt_dict_bool : PySem.W.kitOne K (.type "dict") (.type "bool") = some false
  kt_NoneType_int : PySem.W.kitOne K (.type "NoneType") (.type "int") = some false
  kt_bool_int : PySem.W.kitOne K (.type "bool") (.type "int") = some true
  kt_int_int : PySem.W.kitOne K (.type "int") (.type "int") = some true
  kt_str_int : PySem.W.kitOne K (.type "str") (.type "int") = some false
  kt_list_int : PySem.W.kitOne K (.type "list") (.type "int") = some false
  kt_tuple_int : PySem.W.kitOne K (.type "tuple") (.type "int") = some false
  kt_dict_int : PySem.W.kitOne K (.type "dict") (.type "int") = some false
  kt_NoneType_list : PySem.W.kitOne K (.type "NoneType") (.type "list") = some false
  kt_bool_list : PySem.W.kitOne K (.type "bool") (.type "list") = some false
  kt_int_list : PySem.W.kitOne K (.type "int") (.type "list") = some false
  kt_str_list : PySem.W.kitOne K (.type "str") (.type "list") = some false
  kt_list_list : PySem.W.kitOne K (.type "list") (.type "list") = some true
  kt_tuple_list : PySem.W.kitOne K (.type "tuple") (.type "list") = some false
  kt_dict_list : PySem.W.kitOne K (.type "dict") (.type "list") = some false
  kt_NoneType_tuple : PySem.W.kitOne K (.type "NoneType") (.type "tuple") = some false
  kt_bool_tuple : PySem.W.kitOne K (.type "bool") (.type "tuple") = some false
  kt_int_tuple : PySem.W.kitOne K (.type "int") (.type "tuple") = some false
  kt_str_tuple : PySem.W.kitOne K (.type "str") (.type "tuple") = some false
  kt_list_tuple : PySem.W.kitOne K (.type "list") (.type "tuple") = some false
  kt_tuple_tuple : PySem.W.kitOne K (.type "tuple") (.type "tuple") = some true
  kt_dict_tuple : PySem.W.kitOne K (.type "dict") (.type "tuple") = some false
  z_all : mg "all" = none
  z_bool : mg "bool" = none
  z_enumerate : mg "enumerate" = none
  z_int : mg "int" = none
  z_isinstance : mg "isinstance" = none
  z_len : mg "len" = none
  z_list : mg "list" = none
  z_range : mg "range" = none
  z_set : mg "set" = none
  z_sorted : mg "sorted" = none
  z_sum : mg "sum" = none
  z_tuple : mg "tuple" = none
set_option genInjectivity true
set_option genSizeOf true
section
variable {P : Program} {w : World} {K : PySem.W.Frag} {mg : Str -> Option Value} {base : Heap}
noncomputable def cl (a : Wa) : Str -> Addr := fun s => if s = "In" then a.C_In else if s = "Out" then a.C_Out else if s = "Least" then a.C_Least else if s = "Most" then a.C_Most else 0
theorem zhv {a : Wa} : cl a "In" = a.C_In := by unfold cl; rw [if_pos rfl]
theorem zhh {a : Wa} (W : Wd K mg a) : Cls K (cl a "In") := by rw [zhv]; exact W.cl_In
theorem zw8 {a : Wa} (W : Wd K mg a) : Mk K (cl a "In") a.f_33 := by rw [zhv]; exact W.mk_In
theorem zuy {a : Wa} (W : Wd K mg a) : mg "In" = some (.ref (cl a "In")) := by rw [zhv]; exact W.g_In
theorem zkg {a : Wa} (W : Wd K mg a) : zcj K (cl a "In") "thing" := by rw [zhv]; exact W.na_In_thing
theorem z0t {a : Wa} (W : Wd K mg a) : zcm K (cl a "In") "sure" a.f_10 := by rw [zhv]; exact W.m_10
theorem zy5 {a : Wa} (W : Wd K mg a) : zcm K (cl a "In") "tips" a.f_11 := by rw [zhv]; exact W.m_11
theorem zgv {a : Wa} : cl a "Out" = a.C_Out := by unfold cl; rw [if_neg (by decide +kernel)]; rw [if_pos rfl]
theorem zii {a : Wa} (W : Wd K mg a) : Cls K (cl a "Out") := by rw [zgv]; exact W.cl_Out
theorem zpg {a : Wa} (W : Wd K mg a) : Mk K (cl a "Out") a.f_31 := by rw [zgv]; exact W.mk_Out
theorem zrk {a : Wa} (W : Wd K mg a) : mg "Out" = some (.ref (cl a "Out")) := by rw [zgv]; exact W.g_Out
theorem zkv {a : Wa} (W : Wd K mg a) : zcj K (cl a "Out") "thing" := by rw [zgv]; exact W.na_Out_thing
theorem z1d {a : Wa} (W : Wd K mg a) : zcm K (cl a "Out") "sure" a.f_12 := by rw [zgv]; exact W.m_12
theorem z0c {a : Wa} (W : Wd K mg a) : zcm K (cl a "Out") "tips" a.f_13 := by rw [zgv]; exact W.m_13
theorem zgs {a : Wa} : cl a "Least" = a.C_Least := by unfold cl; rw [if_neg (by decide +kernel)]; rw [if_neg (by decide +kernel)]; rw [if_pos rfl]
theorem ze7 {a : Wa} (W : Wd K mg a) : Cls K (cl a "Least") := by rw [zgs]; exact W.cl_Least
theorem zru {a : Wa} (W : Wd K mg a) : Mk K (cl a "Least") a.f_32 := by rw [zgs]; exact W.mk_Least
theorem zok {a : Wa} (W : Wd K mg a) : mg "Least" = some (.ref (cl a "Least")) := by rw [zgs]; exact W.g_Least
theorem zlq {a : Wa} (W : Wd K mg a) : zcj K (cl a "Least") "bound" := by rw [zgs]; exact W.na_Least_bound
theorem zkn {a : Wa} (W : Wd K mg a) : zcj K (cl a "Least") "pieces" := by rw [zgs]; exact W.na_Least_pieces
theorem z3h {a : Wa} (W : Wd K mg a) : zcm K (cl a "Least") "sure" a.f_14 := by rw [zgs]; exact W.m_14
theorem zxw {a : Wa} (W : Wd K mg a) : zcm K (cl a "Least") "tips" a.f_6 := by rw [zgs]; exact W.m_6
theorem zgg {a : Wa} : cl a "Most" = a.C_Most := by unfold cl; rw [if_neg (by decide +kernel)]; rw [if_neg (by decide +kernel)]; rw [if_neg (by decide +kernel)]; rw [if_pos rfl]
theorem zfc {a : Wa} (W : Wd K mg a) : Cls K (cl a "Most") := by rw [zgg]; exact W.cl_Most
theorem zwp {a : Wa} (W : Wd K mg a) : Mk K (cl a "Most") a.f_34 := by rw [zgg]; exact W.mk_Most
theorem zwh {a : Wa} (W : Wd K mg a) : mg "Most" = some (.ref (cl a "Most")) := by rw [zgg]; exact W.g_Most
theorem zmg {a : Wa} (W : Wd K mg a) : zcj K (cl a "Most") "bound" := by rw [zgg]; exact W.na_Most_bound
theorem zkz {a : Wa} (W : Wd K mg a) : zcj K (cl a "Most") "pieces" := by rw [zgg]; exact W.na_Most_pieces
theorem z2q {a : Wa} (W : Wd K mg a) : zcm K (cl a "Most") "sure" a.f_15 := by rw [zgg]; exact W.m_15
theorem z03 {a : Wa} (W : Wd K mg a) : zcm K (cl a "Most") "tips" a.f_7 := by rw [zgg]; exact W.m_7
theorem zs9 {a : Wa} (W : Wd K mg a) : zjm K "bool" := fun t ht => by
  simp only [List.mem_cons, List.not_mem_nil, or_false] at ht
  rcases ht with rfl | rfl | rfl | rfl | rfl | rfl | rfl
  · exact W.kt_NoneType_bool
  · exact W.kt_bool_bool
  · exact W.kt_int_bool
  · exact W.kt_str_bool
  · exact W.kt_list_bool
  · exact W.kt_tuple_bool
  · exact W.kt_dict_bool
theorem zt4 {a : Wa} (W : Wd K mg a) : zjm K "int" := fun t ht => by
  simp only [List.mem_cons, List.not_mem_nil, or_false] at ht
  rcases ht with rfl | rfl | rfl | rfl | rfl | rfl | rfl
  · exact W.kt_NoneType_int
  · exact W.kt_bool_int
  · exact W.kt_int_int
  · exact W.kt_str_int
  · exact W.kt_list_int
  · exact W.kt_tuple_int
  · exact W.kt_dict_int
theorem zun {a : Wa} (W : Wd K mg a) : zjm K "list" := fun t ht => by
  simp only [List.mem_cons, List.not_mem_nil, or_false] at ht
  rcases ht with rfl | rfl | rfl | rfl | rfl | rfl | rfl
  · exact W.kt_NoneType_list
  · exact W.kt_bool_list
  · exact W.kt_int_list
  · exact W.kt_str_list
  · exact W.kt_list_list
  · exact W.kt_tuple_list
  · exact W.kt_dict_list
theorem zw3 {a : Wa} (W : Wd K mg a) : zjm K "tuple" := fun t ht => by
  simp only [List.mem_cons, List.not_mem_nil, or_false] at ht
  rcases ht with rfl | rfl | rfl | rfl | rfl | rfl | rfl
  · exact W.kt_NoneType_tuple
  · exact W.kt_bool_tuple
  · exact W.kt_int_tuple
  · exact W.kt_str_tuple
  · exact W.kt_list_tuple
  · exact W.kt_tuple_tuple
  · exact W.kt_dict_tuple
end
noncomputable def b_2 : List Sl -> Option Fl :=
  (zal (za9 (mB (m2 dLt (zaa 1) (zat zd4 (zab (zaa 0) (fun _ => some []))))) (za6 (mIx (zaf 0) (zaa 1))) zbn)
    (za6 (fun _ => some (.int 0))))
noncomputable def m_2 (as : List D) : Option D := zbf 2 b_2 as
noncomputable def b_23 : List Sl -> Option Fl :=
  (zal (zdw 1 (fun _ => some []))
    (zal (zcv (zbc (mIx (zaf 0) (fun _ => some (.int 2)))) (zav 2) (zal (za9 (mB (m2 dEq (zat zd4 (zab (zaa 2) (fun _ => some []))) (fun _ => some (.int 3)))) (zbb 2 (zb8 (zab (mIx (zaf 2) (fun _ => some (.int 0))) (zab (mIx (zaf 2) (fun _ => some (.int 1))) (zab (zas (zbc (mIx (zaf 2) (fun _ => some (.int 2))))) (fun _ => some [])))))) zbn)
    (zec 1 (zaa 2))))
    (zhq 1 (za6 (zb8 (zab (mIx (zaf 0) (fun _ => some (.int 0))) (zab (mIx (zaf 0) (fun _ => some (.int 1))) (zab (zaa 1) (fun _ => some [])))))))))
noncomputable def zl8 (as : List D) : Option D := zbf 3 b_23 as
noncomputable def b_29 : List Sl -> Option Fl :=
  (zal (za9 (mB (m2 dEq (mIx (zaf 0) (fun _ => some (.int 0))) (fun _ => some (.str "in")))) (za6 (m2 dIs (mIx (zaf 1) (mIx (zaf 0) (fun _ => some (.int 1)))) (fun _ => some (.bl true)))) zbn)
    (zal (za9 (mB (m2 dEq (mIx (zaf 0) (fun _ => some (.int 0))) (fun _ => some (.str "out")))) (za6 (m2 dIs (mIx (zaf 1) (mIx (zaf 0) (fun _ => some (.int 1)))) (fun _ => some (.bl false)))) zbn)
    (zal (za9 (mB (m2 dEq (mIx (zaf 0) (fun _ => some (.int 0))) (fun _ => some (.str "least")))) (za6 (m2 dGe (zat zdg (zab (zas (zbj 2 [1] (zbc (mIx (zaf 0) (fun _ => some (.int 2)))) (zc3 (zby (zav 0) (zby (zav 1) zdh))) (mB (m2 dIs (mIx (zaf 2) (zaa 0)) (fun _ => some (.bl true)))) (zaa 1))) (fun _ => some []))) (mIx (zaf 0) (fun _ => some (.int 1))))) zbn)
    (za6 (m2 dLe (zat zdg (zab (zas (zbj 2 [1] (zbc (mIx (zaf 0) (fun _ => some (.int 2)))) (zc3 (zby (zav 0) (zby (zav 1) zdh))) (mB (m2 zew (mIx (zaf 2) (zaa 0)) (fun _ => some (.bl false)))) (zaa 1))) (fun _ => some []))) (mIx (zaf 0) (fun _ => some (.int 1))))))))
noncomputable def zkc (as : List D) : Option D := zbf 2 b_29 as
noncomputable def b_20 : List Sl -> Option Fl :=
  (zal (za9 (mOr (mB (m2 dEq (mIx (zaf 0) (fun _ => some (.int 0))) (fun _ => some (.str "may")))) (zf1 (mB (m2 dEq (mIx (zaf 0) (fun _ => some (.int 0))) (fun _ => some (.str "make")))) (mB (m2 zew (mIx (zaf 1) (mIx (zaf 0) (fun _ => some (.int 1)))) (fun _ => some (.bl false)))))) (za6 (fun _ => some (.bl false))) zbn)
    (za6 (zat zhu (zab (zas (zbj 1 [1] (zbc (mIx (zaf 0) (fun _ => some (.int 2)))) (zav 0) (fun _ => some true) (zat zkc (zab (zaa 0) (zab (zaa 1) (fun _ => some [])))))) (fun _ => some [])))))
noncomputable def zju (as : List D) : Option D := zbf 2 b_20 as
noncomputable def b_5 : List Sl -> Option Fl :=
  (zal (zdw 1 (fun _ => some []))
    (zal (za9 (mB (m2 zew (mIx (zaf 0) (fun _ => some (.int 1))) (fun _ => some .non))) (zec 1 (mIx (zaf 0) (fun _ => some (.int 1)))) zbn)
    (zal (zcv (zbc (mIx (zaf 0) (fun _ => some (.int 2)))) (zav 2) (za9 (mB (m2 dEq (zat zd4 (zab (zaa 2) (fun _ => some []))) (fun _ => some (.int 2)))) (zec 1 (mIx (zaf 2) (fun _ => some (.int 1)))) (zje 1 (zjc (zas (zbj 2 [] (zbc (mIx (zaf 2) (fun _ => some (.int 2)))) (zc3 (zby (zav 0) (zby (zav 1) zdh))) (fun _ => some true) (zaa 0)))))))
    (zhq 1 (zdr (zi9 (zaa 1)))))))
noncomputable def m_5 (as : List D) : Option D := zbf 3 b_5 as
noncomputable def b_22 : List Sl -> Option Fl :=
  (zal (zdw 2 (fun _ => some []))
    (zal (za9 (zc8 (zat zju (zab (zaa 0) (zab (zaa 1) (fun _ => some []))))) (zdj 2) zbn)
    (zal (zcv (zbc (zat m_5 (zab (zaa 0) (fun _ => some [])))) (zav 3) (za9 (mB (m2 dIs (mIx (zaf 1) (zaa 3)) (fun _ => some .non))) (zcv (zbc (zb8 (zab (fun _ => some (.bl true)) (zab (fun _ => some (.bl false)) (fun _ => some []))))) (zav 4) (za9 (zc8 (zat zju (zab (zaa 0) (zab (zas (zef (zas (zef (zas (mSl (zaa 1) (fun _ => some none) (mPt (zaa 3)))) (zas (zab (zf3 (zaa 4)) (fun _ => some []))))) (zas (mSl (zaa 1) (mPt (m2 zbt (zaa 3) (fun _ => some (.int 1)))) (fun _ => some none))))) (fun _ => some []))))) (zec 2 (zb8 (zab (zaa 3) (zab (zaa 4) (fun _ => some []))))) zbn)) zbn))
    (zdj 2))))
noncomputable def zog (as : List D) : Option D := zbf 5 b_22 as
noncomputable def b_0 : List Sl -> Option Fl :=
  (zal (zdw 2 (fun _ => some []))
    (zal (zbb 3 (m2 zbt (m2 zcc (m2 za3 (zaa 0) (fun _ => some (.int 2305843009213693951))) (fun _ => some (.int 1315423911))) (fun _ => some (.int 48271))))
    (zal (zcv (zeh (zab (zaa 1) (fun _ => some []))) (zav 4) (zal (zbb 3 (m2 za3 (m2 zbt (m2 zbt (m2 zcc (zaa 3) (m2 zbt (zaa 3) (fun _ => some (.int 69621)))) (m2 zcc (fun _ => some (.int 7)) (zaa 4))) (fun _ => some (.int 1))) (fun _ => some (.int 2305843009213693951))))
    (zec 2 (zaa 3))))
    (zdj 2))))
noncomputable def m_0 (as : List D) : Option D := zbf 5 b_0 as
noncomputable def b_4 : List Sl -> Option Fl :=
  (zal (za9 (mB (m2 dEq (m2 za3 (zaa 0) (fun _ => some (.int 8))) (fun _ => some (.int 5)))) (za6 (m2 za3 (m2 zcc (m2 zcc (m2 zcc (zaa 0) (zaa 0)) (zaa 0)) (zaa 0)) (m2 zob (fun _ => some (.int 10)) (fun _ => some (.int 60))))) zbn)
    (za6 (mIx (zab (fun _ => some (.int 1)) (zab (fun _ => some (.int 1)) (zab (fun _ => some (.int 2)) (zab (fun _ => some (.int 0)) (zab (fun _ => some (.int 3)) (zab (fun _ => some (.int 1)) (zab (fun _ => some (.int 1)) (zab (fun _ => some (.int 2)) (fun _ => some []))))))))) (m2 za3 (m2 zfb (zaa 0) (fun _ => some (.int 8))) (fun _ => some (.int 8))))))
noncomputable def m_4 (as : List D) : Option D := zbf 1 b_4 as
noncomputable def b_19 : List Sl -> Option Fl :=
  (zal (za9 (mOr (mB (m2 dEq (zaa 2) (fun _ => some (.int 0)))) (mB (m2 dEq (m2 za3 (zaa 1) (fun _ => some (.int 2))) (fun _ => some (.int 0))))) (zdj 0) zbn)
    (zal (zbb 3 (zat m_0 (zab (m2 zfb (zaa 1) (fun _ => some (.int 2))) (zab (fun _ => some (.int 124)) (fun _ => some [])))))
    (zal (zbb 4 (zas (zbj 1 [2, 3] (zeh (zab (m2 za3 (mIx (zaf 3) (fun _ => some (.int 0))) (fun _ => some (.int 61))) (fun _ => some []))) (zav 0) (fun _ => some true) (zb8 (zab (m2 za3 (mIx (zaf 2) (m2 zbt (fun _ => some (.int 4)) (m2 zcc (fun _ => some (.int 2)) (zaa 0)))) (zaa 1)) (zab (zat m_4 (zab (mIx (zaf 2) (m2 zbt (fun _ => some (.int 5)) (m2 zcc (fun _ => some (.int 2)) (zaa 0)))) (fun _ => some []))) (fun _ => some [])))))))
    (zal (zbb 5 (zat zdg (zab (zas (zbj 2 [] (zbc (zas (mSl (zaa 4) (fun _ => some none) (mPt (m2 za3 (mIx (zaf 3) (fun _ => some (.int 1))) (fun _ => some (.int 64))))))) (zc3 (zby (zav 0) (zby (zav 1) zdh))) (fun _ => some true) (zaa 1))) (fun _ => some []))))
    (zal (zbb 6 (zb8 (zab (mIx (zab (fun _ => some (.str "least")) (zab (fun _ => some (.str "most")) (fun _ => some []))) (m2 za3 (mIx (zaf 3) (fun _ => some (.int 2))) (fun _ => some (.int 2)))) (zab (m2 zf2 (m2 zbt (zaa 5) (m2 za3 (mIx (zaf 3) (fun _ => some (.int 3))) (fun _ => some (.int 3)))) (fun _ => some (.int 1))) (zab (zaa 4) (fun _ => some []))))))
    (za6 (zb8 (zab (mIx (zaf 0) (fun _ => some (.int 0))) (zab (mIx (zaf 0) (fun _ => some (.int 1))) (zab (zas (zef (mIx (zaf 0) (fun _ => some (.int 2))) (zas (zab (zaa 6) (fun _ => some []))))) (fun _ => some [])))))))))))
noncomputable def zly (as : List D) : Option D := zbf 7 b_19 as
noncomputable def b_3 : List Sl -> Option Fl :=
  (zal (zbb 3 (zat m_0 (zab (m2 zfb (zaa 2) (fun _ => some (.int 3))) (zab (fun _ => some (.int 4)) (fun _ => some [])))))
    (zal (zbb 4 (zat m_5 (zab (zaa 0) (fun _ => some []))))
    (zal (zdw 5 (zaf 1))
    (zal (za9 (mOr (mB (m2 dEq (m2 za3 (zaa 2) (fun _ => some (.int 3))) (fun _ => some (.int 0)))) (mB (m2 dEq (zaa 4) (zas (fun _ => some []))))) (zdj 5) zbn)
    (zal (zcv (zbc (mIx (zaf 0) (fun _ => some (.int 2)))) (zav 6) (zal (zbb 7 (zas (zab (mIx (zaf 6) (fun _ => some (.int 1))) (fun _ => some []))))
    (zal (za9 (mB (m2 dEq (zat zd4 (zab (zaa 6) (fun _ => some []))) (fun _ => some (.int 3)))) (zbb 7 (zas (zbj 2 [] (zbc (mIx (zaf 6) (fun _ => some (.int 2)))) (zc3 (zby (zav 0) (zby (zav 1) zdh))) (fun _ => some true) (zaa 0)))) zbn)
    (zcv (zbc (zaa 7)) (zav 8) (ze2 5 (zaa 8) (vOr (m2 dEq (mIx (zaf 6) (fun _ => some (.int 0))) (fun _ => some (.str "in"))) (m2 dEq (mIx (zaf 6) (fun _ => some (.int 0))) (fun _ => some (.str "least")))))))))
    (zal (za9 (mB (m2 zew (mIx (zaf 0) (fun _ => some (.int 1))) (fun _ => some .non))) (ze2 5 (mIx (zaf 0) (fun _ => some (.int 1))) (fun _ => some (.bl false))) zbn)
    (zal (zcv (zbc (zas (mSl (zaa 3) (fun _ => some none) (mPt (m2 za3 (mIx (zaf 3) (fun _ => some (.int 3))) (fun _ => some (.int 3))))))) (zav 9) (ze2 5 (mIx (zaf 4) (m2 za3 (zaa 9) (zat zd4 (zab (zaa 4) (fun _ => some []))))) (fun _ => some .non)))
    (zdj 5))))))))
noncomputable def m_3 (as : List D) : Option D := zbf 10 b_3 as
noncomputable def b_26 : List Sl -> Option Fl :=
  (zal (za9 (zej (zc8 (zgh "list" (zaa 0)))) (za6 (fun _ => some (.bl false))) zbn)
    (zal (zcv (zbc (zaa 0)) (zav 1) (zal (za9 (mOr (zej (zc8 (zgh "tuple" (zaa 1)))) (mB (m2 dNe (zat zd4 (zab (zaa 1) (fun _ => some []))) (fun _ => some (.int 2))))) (za6 (fun _ => some (.bl false))) zbn)
    (za9 (mOr (zej (zc8 (zgh "int" (mIx (zaf 1) (fun _ => some (.int 0)))))) (mOr (zc8 (zgh "bool" (mIx (zaf 1) (fun _ => some (.int 0))))) (zej (zc8 (zgh "bool" (mIx (zaf 1) (fun _ => some (.int 1)))))))) (za6 (fun _ => some (.bl false))) zbn)))
    (za6 (fun _ => some (.bl true)))))
noncomputable def zm4 (as : List D) : Option D := zbf 2 b_26 as
noncomputable def b_18 : List Sl -> Option Fl :=
  (zal (zbb 2 (mIx (zab (fun _ => some (.str "in")) (zab (fun _ => some (.str "out")) (zab (fun _ => some (.str "in")) (zab (fun _ => some (.str "least")) (zab (fun _ => some (.str "most")) (fun _ => some [])))))) (m2 za3 (mIx (zaf 0) (fun _ => some (.int 0))) (fun _ => some (.int 5)))))
    (zal (za9 (mOr (mB (m2 dEq (zaa 2) (fun _ => some (.str "in")))) (mB (m2 dEq (zaa 2) (fun _ => some (.str "out"))))) (za6 (zb8 (zab (zaa 2) (zab (m2 za3 (mIx (zaf 0) (fun _ => some (.int 1))) (zaa 1)) (fun _ => some []))))) zbn)
    (zal (zbb 3 (zas (zbj 1 [1, 0] (zeh (zab (m2 za3 (mIx (zaf 0) (fun _ => some (.int 2))) (fun _ => some (.int 4))) (fun _ => some []))) (zav 0) (fun _ => some true) (zb8 (zab (m2 za3 (mIx (zaf 2) (m2 zbt (fun _ => some (.int 4)) (m2 zcc (fun _ => some (.int 2)) (zaa 0)))) (zaa 1)) (zab (zat m_4 (zab (mIx (zaf 2) (m2 zbt (fun _ => some (.int 5)) (m2 zcc (fun _ => some (.int 2)) (zaa 0)))) (fun _ => some []))) (fun _ => some [])))))))
    (zal (zbb 4 (zat zdg (zab (zas (zbj 2 [] (zbc (zas (mSl (zaa 3) (fun _ => some none) (mPt (m2 za3 (mIx (zaf 0) (fun _ => some (.int 3))) (fun _ => some (.int 5))))))) (zc3 (zby (zav 0) (zby (zav 1) zdh))) (fun _ => some true) (zaa 1))) (fun _ => some []))))
    (za6 (zb8 (zab (zaa 2) (zab (m2 zf2 (m2 zbt (zaa 4) (m2 za3 (m2 zfb (mIx (zaf 0) (fun _ => some (.int 3))) (fun _ => some (.int 5))) (fun _ => some (.int 3)))) (fun _ => some (.int 1))) (zab (zaa 3) (fun _ => some []))))))))))
noncomputable def zj5 (as : List D) : Option D := zbf 5 b_18 as
noncomputable def b_25 : List Sl -> Option Fl :=
  (zal (zbb 2 (zat m_0 (zab (zaa 0) (zab (fun _ => some (.int 33)) (fun _ => some [])))))
    (zal (za9 (mB (m2 dEq (zaa 1) (fun _ => some (.int 0)))) (za6 (zb8 (zab (fun _ => some (.str "never")) (zab (fun _ => some .non) (zab (zas (mSl (zas (zab (zb8 (zab (mIx (zab (fun _ => some (.str "least")) (zab (fun _ => some (.str "most")) (fun _ => some []))) (m2 za3 (mIx (zaf 2) (fun _ => some (.int 0))) (fun _ => some (.int 2)))) (zab (m2 zf2 (m2 za3 (mIx (zaf 2) (fun _ => some (.int 1))) (fun _ => some (.int 3))) (fun _ => some (.int 1))) (zab (zas (fun _ => some [])) (fun _ => some []))))) (fun _ => some []))) (fun _ => some none) (mPt (m2 za3 (mIx (zaf 2) (fun _ => some (.int 2))) (fun _ => some (.int 6)))))) (fun _ => some [])))))) zbn)
    (zal (zbb 3 (zas (zbj 1 [1, 2] (zeh (zab (mIx (zab (fun _ => some (.int 1)) (zab (fun _ => some (.int 1)) (zab (fun _ => some (.int 2)) (zab (fun _ => some (.int 2)) (zab (fun _ => some (.int 3)) (zab (fun _ => some (.int 0)) (fun _ => some []))))))) (m2 za3 (mIx (zaf 2) (fun _ => some (.int 0))) (fun _ => some (.int 6)))) (fun _ => some []))) (zav 0) (fun _ => some true) (zat zj5 (zab (zas (mSl (zaa 2) (mPt (m2 zbt (fun _ => some (.int 3)) (m2 zcc (fun _ => some (.int 10)) (zaa 0)))) (mPt (m2 zbt (fun _ => some (.int 13)) (m2 zcc (fun _ => some (.int 10)) (zaa 0)))))) (zab (zaa 1) (fun _ => some [])))))))
    (zal (za9 (mB (m2 dEq (m2 za3 (mIx (zaf 2) (fun _ => some (.int 1))) (fun _ => some (.int 3))) (fun _ => some (.int 0)))) (za6 (zb8 (zab (fun _ => some (.str "never")) (zab (fun _ => some .non) (zab (zaa 3) (fun _ => some [])))))) zbn)
    (za6 (zb8 (zab (mIx (zab (fun _ => some (.str "make")) (zab (fun _ => some (.str "make")) (zab (fun _ => some (.str "make")) (zab (fun _ => some (.str "may")) (fun _ => some []))))) (m2 za3 (m2 zfb (mIx (zaf 2) (fun _ => some (.int 1))) (fun _ => some (.int 3))) (fun _ => some (.int 4)))) (zab (m2 za3 (mIx (zaf 2) (fun _ => some (.int 2))) (zaa 1)) (zab (zaa 3) (fun _ => some []))))))))))
noncomputable def zlz (as : List D) : Option D := zbf 4 b_25 as
noncomputable def zm6 (as : List D) : Option (List Str × List D) := zjg 3 [("bound", (zaa 1)), ("pieces", (zas (zaf 2)))] as
noncomputable def znk (as : List D) : Option (List Str × List D) := zjg 2 [("thing", (zaa 1))] as
noncomputable def zpb (as : List D) : Option (List Str × List D) := zjg 2 [("thing", (zaa 1))] as
noncomputable def zos (as : List D) : Option (List Str × List D) := zjg 3 [("bound", (zaa 1)), ("pieces", (zas (zaf 2)))] as
noncomputable def b_27 : List Sl -> Option Fl :=
  (zal (zbb 1 (mIx (zaf 0) (fun _ => some (.int 0))))
    (zal (za9 (mB (m2 dEq (zaa 1) (fun _ => some (.str "in")))) (za6 (zfx "In" zpb (zab (mIx (zaf 0) (fun _ => some (.int 1))) (fun _ => some [])))) zbn)
    (zal (za9 (mB (m2 dEq (zaa 1) (fun _ => some (.str "out")))) (za6 (zfx "Out" znk (zab (mIx (zaf 0) (fun _ => some (.int 1))) (fun _ => some [])))) zbn)
    (zal (za9 (mB (m2 dEq (zaa 1) (fun _ => some (.str "least")))) (za6 (zfx "Least" zm6 (zab (mIx (zaf 0) (fun _ => some (.int 1))) (zab (mIx (zaf 0) (fun _ => some (.int 2))) (fun _ => some []))))) zbn)
    (za6 (zfx "Most" zos (zab (mIx (zaf 0) (fun _ => some (.int 1))) (zab (mIx (zaf 0) (fun _ => some (.int 2))) (fun _ => some [])))))))))
noncomputable def zmf (as : List D) : Option D := zbf 2 b_27 as
noncomputable def b_30 : List Sl -> Option Fl :=
  (zdr (zbj 1 [] (zbc (mIx (zaf 0) (fun _ => some (.int 2)))) (zav 0) (fun _ => some true) (zat zmf (zab (zaa 0) (fun _ => some [])))))
noncomputable def zls (as : List D) : Option (List D) := ziq 1 b_30 as
noncomputable def b_24 : List Sl -> Option Fl :=
  (zal (za9 (mB (m2 dEq (mIx (zaf 0) (fun _ => some (.int 0))) (fun _ => some (.str "may")))) (zdr (zab (zfx "Least" zm6 (zab (fun _ => some (.int 1)) (zab (zas (fun _ => some [])) (fun _ => some [])))) (fun _ => some []))) zbn)
    (zal (zdw 1 (zjn zls (zab (zaa 0) (fun _ => some []))))
    (zal (za9 (mB (m2 dEq (mIx (zaf 0) (fun _ => some (.int 0))) (fun _ => some (.str "make")))) (zec 1 (zfx "Out" znk (zab (mIx (zaf 0) (fun _ => some (.int 1))) (fun _ => some [])))) zbn)
    (zdj 1))))
noncomputable def zkj (as : List D) : Option D := zbf 2 b_24 as
noncomputable def b_10 : List Sl -> Option Fl :=
  (za6 (m2 dIs (mIx (zaf 1) (zcq "In" "thing" (zaa 0))) (fun _ => some (.bl true))))
noncomputable def m_10 (as : List D) : Option D := zbf 2 b_10 as
noncomputable def b_11 : List Sl -> Option Fl :=
  (za6 (vIf (mB (m2 dIs (mIx (zaf 1) (zcq "In" "thing" (zaa 0))) (fun _ => some .non))) (zas (zab (zb8 (zab (zcq "In" "thing" (zaa 0)) (zab (fun _ => some (.bl true)) (fun _ => some [])))) (fun _ => some []))) (zas (fun _ => some []))))
noncomputable def m_11 (as : List D) : Option D := zbf 2 b_11 as
noncomputable def b_16 : List Sl -> Option Fl :=
  (za6 (zat zdg (zab (zas (zbj 2 [1] (zbc (zaa 0)) (zc3 (zby (zav 0) (zby (zav 1) zdh))) (mB (m2 dIs (mIx (zaf 2) (zaa 0)) (fun _ => some (.bl true)))) (zaa 1))) (fun _ => some []))))
noncomputable def zlb (as : List D) : Option D := zbf 2 b_16 as
noncomputable def b_14 : List Sl -> Option Fl :=
  (za6 (m2 dGe (zat zlb (zab (zcq "Least" "pieces" (zaa 0)) (zab (zaa 1) (fun _ => some [])))) (zcq "Least" "bound" (zaa 0))))
noncomputable def m_14 (as : List D) : Option D := zbf 2 b_14 as
noncomputable def b_21 : List Sl -> Option Fl :=
  (zal (zlj 1)
    (zal (zcv (zbc (zaa 0)) (zc3 (zby (zav 2) (zby (zav 3) zdh))) (zio 1 (zaa 2) (m2 zbt (zj7 1 (zaa 2) (fun _ => some (.int 0))) (zaa 3))))
    (zhz 1 (za6 (zaa 1)))))
noncomputable def zmv (as : List D) : Option D := zbf 4 b_21 as
noncomputable def b_8 : List Sl -> Option Fl :=
  (zal (zbb 3 (zat zmv (zab (zas (zbj 1 [1] (zbc (zaa 0)) (zav 0) (mB (m2 dIs (mIx (zaf 1) (mIx (zaf 0) (fun _ => some (.int 0)))) (fun _ => some .non))) (zaa 0))) (fun _ => some []))))
    (zdr (zbj 1 [2, 3] (zoi (zaa 3)) (zav 0) (mB (m2 dGe (m2 zm0 (zaa 2) (zaa 0)) (zaa 1))) (zaa 0))))
noncomputable def m_8 (as : List D) : Option D := zbf 4 b_8 as
noncomputable def b_6 : List Sl -> Option Fl :=
  (zal (zbb 2 (m2 zf2 (zcq "Least" "bound" (zaa 0)) (zat zlb (zab (zcq "Least" "pieces" (zaa 0)) (zab (zaa 1) (fun _ => some []))))))
    (zdr (zbj 1 [] (zbc (zat m_8 (zab (zcq "Least" "pieces" (zaa 0)) (zab (zaa 1) (zab (zaa 2) (fun _ => some [])))))) (zav 0) (fun _ => some true) (zb8 (zab (zaa 0) (zab (fun _ => some (.bl true)) (fun _ => some [])))))))
noncomputable def m_6 (as : List D) : Option D := zbf 3 b_6 as
noncomputable def b_17 : List Sl -> Option Fl :=
  (za6 (zat zdg (zab (zas (zbj 2 [1] (zbc (zaa 0)) (zc3 (zby (zav 0) (zby (zav 1) zdh))) (mB (m2 zew (mIx (zaf 2) (zaa 0)) (fun _ => some (.bl false)))) (zaa 1))) (fun _ => some []))))
noncomputable def zk4 (as : List D) : Option D := zbf 2 b_17 as
noncomputable def b_15 : List Sl -> Option Fl :=
  (za6 (m2 dLe (zat zk4 (zab (zcq "Most" "pieces" (zaa 0)) (zab (zaa 1) (fun _ => some [])))) (zcq "Most" "bound" (zaa 0))))
noncomputable def m_15 (as : List D) : Option D := zbf 2 b_15 as
noncomputable def b_7 : List Sl -> Option Fl :=
  (zal (zbb 2 (m2 zf2 (zat zk4 (zab (zcq "Most" "pieces" (zaa 0)) (zab (zaa 1) (fun _ => some [])))) (zcq "Most" "bound" (zaa 0))))
    (zdr (zbj 1 [] (zbc (zat m_8 (zab (zcq "Most" "pieces" (zaa 0)) (zab (zaa 1) (zab (zaa 2) (fun _ => some [])))))) (zav 0) (fun _ => some true) (zb8 (zab (zaa 0) (zab (fun _ => some (.bl false)) (fun _ => some [])))))))
noncomputable def m_7 (as : List D) : Option D := zbf 3 b_7 as
noncomputable def b_12 : List Sl -> Option Fl :=
  (za6 (m2 dIs (mIx (zaf 1) (zcq "Out" "thing" (zaa 0))) (fun _ => some (.bl false))))
noncomputable def m_12 (as : List D) : Option D := zbf 2 b_12 as
noncomputable def b_13 : List Sl -> Option Fl :=
  (za6 (vIf (mB (m2 dIs (mIx (zaf 1) (zcq "Out" "thing" (zaa 0))) (fun _ => some .non))) (zas (zab (zb8 (zab (zcq "Out" "thing" (zaa 0)) (zab (fun _ => some (.bl false)) (fun _ => some [])))) (fun _ => some []))) (zas (fun _ => some []))))
noncomputable def m_13 (as : List D) : Option D := zbf 2 b_13 as
noncomputable def b_9 : List Sl -> Option Fl :=
  (zal (zbb 2 (fun _ => some .non))
    (zal (zcv (zbc (zaa 0)) (zav 3) (za9 (zej (zc8 (zcr (zce "In" "sure" m_10 (zaa 3) (zab (zaa 1) (fun _ => some []))) (zcr (zce "Out" "sure" m_12 (zaa 3) (zab (zaa 1) (fun _ => some []))) (zcr (zce "Least" "sure" m_14 (zaa 3) (zab (zaa 1) (fun _ => some []))) (zce "Most" "sure" m_15 (zaa 3) (zab (zaa 1) (fun _ => some [])))))))) (zal (zbb 4 (zcr (zce "In" "tips" m_11 (zaa 3) (zab (zaa 1) (fun _ => some []))) (zcr (zce "Out" "tips" m_13 (zaa 3) (zab (zaa 1) (fun _ => some []))) (zcr (zce "Least" "tips" m_6 (zaa 3) (zab (zaa 1) (fun _ => some []))) (zce "Most" "tips" m_7 (zaa 3) (zab (zaa 1) (fun _ => some [])))))))
    (zal (zbb 2 (vIf (mB (m2 dIs (zaa 2) (fun _ => some .non))) (zaa 4) (zas (zbj 1 [4] (zbc (zaa 2)) (zav 0) (mB (m2 zhj (zaa 0) (zaa 1))) (zaa 0)))))
    (za9 (zej (zc8 (zaa 2))) (zdr (fun _ => some [])) zbn))) zbn))
    (zal (za9 (mB (m2 dIs (zaa 2) (fun _ => some .non))) (za6 (fun _ => some .non)) zbn)
    (zdr (zbj 2 [] (zbc (zaa 2)) (zc3 (zby (zav 0) (zby (zav 1) zdh))) (fun _ => some true) (zb8 (zab (zaa 0) (zab (zf3 (zaa 1)) (fun _ => some [])))))))))
noncomputable def m_9 (as : List D) : Option D := zbf 5 b_9 as
noncomputable def b_28 : List Sl -> Option Fl :=
  (zdr (zjo (zil (zat m_9 (zab (zat zkj (zab (zaa 0) (fun _ => some []))) (zab (zaa 1) (fun _ => some [])))) (zas (fun _ => some [])))))
noncomputable def zlu (as : List D) : Option D := zbf 2 b_28 as
noncomputable def b_1 : List Sl -> Option Fl :=
  (zal (zbb 1 (zat m_0 (zab (zat m_2 (zab (zaa 0) (zab (fun _ => some (.int 0)) (fun _ => some [])))) (zab (fun _ => some (.int 2)) (fun _ => some [])))))
    (zal (zbb 2 (m2 zfb (m2 zbt (m2 za3 (mIx (zaf 1) (fun _ => some (.int 0))) (fun _ => some (.int 20))) (fun _ => some (.int 2))) (fun _ => some (.int 3))))
    (zal (za9 (mB (m2 dEq (m2 za3 (mIx (zaf 1) (fun _ => some (.int 1))) (fun _ => some (.int 4))) (fun _ => some (.int 1)))) (zbb 2 (m2 zbt (fun _ => some (.int 1)) (m2 za3 (m2 zfb (mIx (zaf 1) (fun _ => some (.int 1))) (fun _ => some (.int 4))) (fun _ => some (.int 60))))) zbn)
    (zal (zbb 3 (zas (zbj 1 [] (zbc (zat m_0 (zab (zat m_2 (zab (zaa 0) (zab (fun _ => some (.int 1)) (fun _ => some [])))) (zab (zaa 2) (fun _ => some []))))) (zav 0) (fun _ => some true) (mIx (zab (fun _ => some (.bl true)) (zab (fun _ => some (.bl false)) (zab (fun _ => some .non) (zab (fun _ => some .non) (fun _ => some []))))) (m2 za3 (zaa 0) (fun _ => some (.int 4)))))))
    (zal (zcv (ziw (zab (zas (zef (zas (zab (zat m_2 (zab (zaa 0) (zab (fun _ => some (.int 0)) (fun _ => some [])))) (fun _ => some []))) (zas (mSl (zaa 0) (mPt (fun _ => some (.int 2))) (mPt (fun _ => some (.int 62))))))) (fun _ => some []))) (zc3 (zby (zav 4) (zby (zav 5) zdh))) (zal (zbb 6 (zat zlz (zab (zaa 5) (zab (zaa 2) (fun _ => some [])))))
    (zal (za9 (mB (m2 dEq (zaa 4) (fun _ => some (.int 0)))) (zbb 6 (zat zly (zab (zaa 6) (zab (zaa 5) (zab (zaa 2) (fun _ => some [])))))) zbn)
    (zal (zbb 7 (zat m_3 (zab (zaa 6) (zab (zaa 3) (zab (zaa 5) (fun _ => some []))))))
    (zal (zbb 8 (zas (zab (zat zl8 (zab (zaa 6) (fun _ => some []))) (zab (zas (zaf 7)) (fun _ => some [])))))
    (zal (zbb 9 (zat zlu (zab (mIx (zaf 8) (fun _ => some (.int 0))) (zab (mIx (zaf 8) (fun _ => some (.int 1))) (fun _ => some [])))))
    (za9 (mOr (zej (zc8 (zat zm4 (zab (zaa 9) (fun _ => some []))))) (mOr (mB (m2 dNe (zaa 9) (zat zog (zab (zaa 6) (zab (zaa 7) (fun _ => some [])))))) (mB (m2 dNe (zaa 8) (zas (zab (zaa 6) (zab (zaa 7) (fun _ => some [])))))))) (za6 (fun _ => some (.bl false))) zbn)))))))
    (za6 (fun _ => some (.bl true))))))))
noncomputable def m_1 (as : List D) : Option D := zbf 10 b_1 as
section
variable {P : Program} {w : World} {K : PySem.W.Frag} {mg : Str -> Option Value} {base : Heap}
theorem zoc {a : Wa} (W : Wd K mg a) : zau P w K mg base CX0 1 a.f_2 a.fd_2 ["_law_script", "_law_k"] (spD ⟨K, cl a⟩ ["_law_script", "_law_k"].length m_2) :=
  zbv (k := 0) (N := ["_law_script", "_law_k"]) (F := b_2) W.F_2 z00 fun cdv A outer s H E hr => by
    unfold b_2
    exact (zaq (zbo (za5 zt0 z09 (DE.db (dv 1)) (DE.db (zdv zg3 zg4 rfl W.z_len PySem.boot_len (zdt (DE.db (dv 0)) zdu)))) (zao (zbd (zah (dvC 0) (dv 1)))) zbq)
    (zao (zbd zad)))
theorem z0x {a : Wa} (W : Wd K mg a) : zau P w K mg base CX0 1 a.f_23 a.fd_23 ["_law_rule_here"] (spD ⟨K, cl a⟩ ["_law_rule_here"].length zl8) :=
  zbv (k := 0) (N := ["_law_rule_here", "_law_parts", "_law_part_here"]) (F := b_23) W.F_23 zke fun cdv A outer s H E hr => have hu := hr.units; by
    unfold b_23
    exact (zaq (zhp 1 zke.nd (zbz zag))
    (zaq (zd1 PassesOwn.never rfl (zb9 (zah (dvC 0) zad)) (zdm 2 3 zke.nd) (zaq (zbo (za5 (zb6 hu) zb7 (DE.db (zdv zg3 zg4 rfl W.z_len PySem.boot_len (zdt (DE.db (dv 2)) zdu))) (DE.db zad)) (zao (zb4 2 zke.nd (zcl (zac (zah (dvC 2) zad) (zac (zah (dvC 2) zad) (zac (DO.de (zjl boot_list rfl W.z_list (DE.dc (zah (dvC 2) zad)))) zag)))))) zbq)
    (zao (zhx (zgd (zgk PySem.F.plainAttrs_list PySem.F.slot_list_append PySem.F.type_list_append zij (pv 1) (zd0 (dv 2) zei)))))))
    (zao (zq7 1 (zbd (zcl (zac (zah (dvC 0) zad) (zac (zah (dvC 0) zad) (zac (dv 1) zag)))))))))
theorem z44 {a : Wa} (W : Wd K mg a) : zau P w K mg base CX0 1 a.f_29 a.fd_29 ["_law_part_here", "_law_sheet"] (spD ⟨K, cl a⟩ ["_law_part_here", "_law_sheet"].length zkc) :=
  zbv (k := 0) (N := ["_law_part_here", "_law_sheet"]) (F := b_29) W.F_29 z04 fun cdv A outer s H E hr => have hu := hr.units; by
    unfold b_29
    exact (zaq (zbo (za5 (zb6 hu) zb7 (DE.db (zah (dvC 0) zad)) (DE.db zbw)) (zao (zbd (ze0 zd8 zd5 (DE.db (zah (dvC 1) (zah (dvC 0) zad))) (DE.db zca)))) zbq)
    (zaq (zbo (za5 (zb6 hu) zb7 (DE.db (zah (dvC 0) zad)) (DE.db zbw)) (zao (zbd (ze0 zd8 zd5 (DE.db (zah (dvC 1) (zah (dvC 0) zad))) (DE.db zca)))) zbq)
    (zaq (zbo (za5 (zb6 hu) zb7 (DE.db (zah (dvC 0) zad)) (DE.db zbw)) (zao (zbd (ze0 zma zm2 (DE.db (zdv (zih rfl) zhl rfl W.z_sum boot_sum (zdt (DE.db (DO.de (zc6 2 [1] ["_law_thing", "_law_worth_here", "_law_sheet"] rfl (DI.de (zb9 (zah (dvC 0) zad))) (fun _ _ _ _ _ => (zep rfl (zcf (dgc 0 2) (zcf (dgc 1 2) zeb)))) (fun _ _ _ _ _ => (zgq (za5 zd8 zd5 (DE.db (zah (zes 2) (dvc 0))) (DE.db zca)))) (fun _ _ _ _ _ => (dvc 1))))) zdu))) (DE.db (zah (dvC 0) zad))))) zbq)
    (zao (zbd (ze0 zoy zsj (DE.db (zdv (zih rfl) zhl rfl W.z_sum boot_sum (zdt (DE.db (DO.de (zc6 2 [1] ["_law_thing", "_law_worth_here", "_law_sheet"] rfl (DI.de (zb9 (zah (dvC 0) zad))) (fun _ _ _ _ _ => (zep rfl (zcf (dgc 0 2) (zcf (dgc 1 2) zeb)))) (fun _ _ _ _ _ => (zgq (za5 zi1 zi6 (DE.db (zah (zes 2) (dvc 0))) (DE.db zca)))) (fun _ _ _ _ _ => (dvc 1))))) zdu))) (DE.db (zah (dvC 0) zad))))))))
theorem zsz {a : Wa} (W : Wd K mg a) : zau P w K mg base CX0 2 a.f_20 a.fd_20 ["_law_rule_here", "_law_sheet"] (spD ⟨K, cl a⟩ ["_law_rule_here", "_law_sheet"].length zju) :=
  zbv (k := 1) (N := ["_law_rule_here", "_law_sheet"]) (F := b_20) W.F_20 z5k fun cdv A outer s H E hr => have hu := hr.units; by
    unfold b_20
    exact (zaq (zbo (DW.dt (zfk (za5 (zb6 hu) zb7 (DE.db (zah (dvC 0) zad)) (DE.db zbw)) (zf8 (DW.dt (z4a (za5 (zb6 hu) zb7 (DE.db (zah (dvC 0) zad)) (DE.db zbw)) (z08 (za5 zi1 zi6 (DE.db (zah (dvC 1) (zah (dvC 0) zad))) (DE.db zca)))))))) (zao (zbd zca)) zbq)
    (zao (zbd (zdv (zuj rfl) z12 rfl W.z_all boot_all (zdt (DE.db (DO.de (zc6 1 [1] ["_law_part_here", "_law_sheet"] rfl (DI.de (zb9 (zah (dvC 0) zad))) (fun _ _ _ _ _ => (dgc 0 1)) (fun _ _ _ _ _ => zdo) (fun _ _ _ _ _ => (zbp (z44 W) (hr.mono (by decide)) (glc rfl) W.g_29 W.F_29.kp W.b_29 (zac (dvc 0) (zac (dvc 1) zag))))))) zdu)))))
theorem zot {a : Wa} (W : Wd K mg a) : zau P w K mg base CX0 1 a.f_5 a.fd_5 ["_law_rule_here"] (spD ⟨K, cl a⟩ ["_law_rule_here"].length m_5) :=
  zbv (k := 0) (N := ["_law_rule_here", "_law_things", "_law_part_here"]) (F := b_5) W.F_5 zlv fun cdv A outer s H E hr => have hu := hr.units; by
    unfold b_5
    exact (zaq (zhp 1 zlv.nd (zbz zag))
    (zaq (zbo (za5 zi1 zi6 (DE.db (zah (dvC 0) zad)) (DE.db zc5)) (zao (zhx (zgd (zgk PySem.F.plainAttrs_list PySem.F.slot_list_append PySem.F.type_list_append zij (pv 1) (zd0 (zah (dvC 0) zad) zei))))) zbq)
    (zaq (zd1 PassesOwn.never rfl (zb9 (zah (dvC 0) zad)) (zdm 2 3 zlv.nd) (zao (zbo (za5 (zb6 hu) zb7 (DE.db (zdv zg3 zg4 rfl W.z_len PySem.boot_len (zdt (DE.db (dv 2)) zdu))) (DE.db zad)) (zao (zhx (zgd (zgk PySem.F.plainAttrs_list PySem.F.slot_list_append PySem.F.type_list_append zij (pv 1) (zd0 (zah (dvC 2) zad) zei))))) (zao (zwq (zgd (zgk PySem.F.plainAttrs_list PySem.F.slot_list_extend PySem.F.type_list_extend zt6 (pv 1) (zd0 (DO.de (zc6 2 [] ["_law_thing", "_law_worth_here"] rfl (DI.de (zb9 (zah (dvC 2) zad))) (fun _ _ _ _ _ => (zep rfl (zcf (dgc 0 2) (zcf (dgc 1 2) zeb)))) (fun _ _ _ _ _ => zdo) (fun _ _ _ _ _ => (dvc 0)))) zei))))))))
    (zao (zq7 1 (ze6 (z4o rfl rfl W.z_sorted rfl W.z_set (dv 1))))))))
theorem zzc {a : Wa} (W : Wd K mg a) : zau P w K mg base CX0 3 a.f_22 a.fd_22 ["_law_rule_here", "_law_sheet"] (spD ⟨K, cl a⟩ ["_law_rule_here", "_law_sheet"].length zog) :=
  zbv (k := 2) (N := ["_law_rule_here", "_law_sheet", "_law_due_here", "_law_thing", "_law_truth"]) (F := b_22) W.F_22 zj0 fun cdv A outer s H E hr => by
    unfold b_22
    exact (zaq (zhp 2 zj0.nd (zbz zag))
    (zaq (zbo (ze1 (DE.db (zbp (zsz W) (hr.mono (by decide)) rfl W.g_20 W.F_20.kp W.b_20 (zac (dv 0) (zac (dv 1) zag))))) (zao (zgl 2)) zbq)
    (zaq (zd1 PassesOwn.never rfl (zb9 (zbp (zot W) (hr.mono (by decide)) rfl W.g_5 W.F_5.kp W.b_5 (zac (dv 0) zag))) (zdm 3 5 zj0.nd) (zao (zbo (za5 zd8 zd5 (DE.db (zah (dvC 1) (dv 3))) (DE.db zc5)) (zao (zd1 PassesOwn.never rfl (zb9 (zcl (zac zca (zac zca zag)))) (zdm 4 5 zj0.nd) (zao (zbo (ze1 (DE.db (zbp (zsz W) (hr.mono (by decide)) rfl W.g_20 W.F_20.kp W.b_20 (zac (dv 0) (zac (DO.de (zk2 (DO.de (zk2 (DO.de (by refine zf0 ?a ?b ?c; (case a => exact (dv 1)); (case b => exact zia); (case c => exact (zez (dv 3))))) (DO.de (zbz (zac (zp6 (dv 4)) zag))))) (DO.de (by refine zf0 ?a ?b ?c; (case a => exact (dv 1)); (case b => exact (zez (zap zcy (dv 3) zad))); (case c => exact zia))))) zag))))) (zao (zhx (zgd (zgk PySem.F.plainAttrs_list PySem.F.slot_list_append PySem.F.type_list_append zij (pv 2) (zd0 (zcl (zac (dv 3) (zac (dv 4) zag))) zei))))) zbq)))) zbq)))
    (zao (zgl 2)))))
theorem ziz {a : Wa} (W : Wd K mg a) : zau P w K mg base CX0 1 a.f_0 a.fd_0 ["_law_cell", "_law_many"] (spD ⟨K, cl a⟩ ["_law_cell", "_law_many"].length m_0) :=
  zbv (k := 0) (N := ["_law_cell", "_law_many", "_law_found", "_law_number", "_law_k"]) (F := b_0) W.F_0 zim fun cdv A outer s H E hr => by
    unfold b_0
    exact (zaq (zhp 2 zim.nd (zbz zag))
    (zaq (zb4 3 zim.nd (zap zcy (zap zdz (zap zbu (dv 0) zad) zad) zad))
    (zaq (zd1 PassesOwn.never rfl (zj4 rfl W.z_range (zac (dv 1) zag)) (zdm 4 5 zim.nd) (zaq (zb4 3 zim.nd (zap zbu (zap zcy (zap zcy (zap zdz (dv 3) (zap zcy (dv 3) zad)) (zap zdz zad (dv 4))) zad) zad))
    (zao (zhx (zgd (zgk PySem.F.plainAttrs_list PySem.F.slot_list_append PySem.F.type_list_append zij (pv 2) (zd0 (dv 3) zei)))))))
    (zao (zgl 2)))))
theorem zqj {a : Wa} (W : Wd K mg a) : zau P w K mg base CX0 1 a.f_4 a.fd_4 ["_law_x"] (spD ⟨K, cl a⟩ ["_law_x"].length m_4) :=
  zbv (k := 0) (N := ["_law_x"]) (F := b_4) W.F_4 zys fun cdv A outer s H E hr => have hu := hr.units; by
    unfold b_4
    exact (zaq (zbo (za5 (zb6 hu) zb7 (DE.db (zap zbu (dv 0) zad)) (DE.db zad)) (zao (zbd (zap zbu (zap zdz (zap zdz (zap zdz (dv 0) (dv 0)) (dv 0)) (dv 0)) (zap z4k zad zad)))) zbq)
    (zao (zbd (zah (DO.dc (zbz (zac zad (zac zad (zac zad (zac zad (zac zad (zac zad (zac zad (zac zad zag)))))))))) (zap zbu (zap zgo (dv 0) zad) zad)))))
theorem zvm {a : Wa} (W : Wd K mg a) : zau P w K mg base CX0 2 a.f_19 a.fd_19 ["_law_rule_here", "_law_cell", "_law_many"] (spD ⟨K, cl a⟩ ["_law_rule_here", "_law_cell", "_law_many"].length zly) :=
  zbv (k := 1) (N := ["_law_rule_here", "_law_cell", "_law_many", "_law_xs", "_law_items", "_law_near_here", "_law_part_here"]) (F := b_19) W.F_19 zjr fun cdv A outer s H E hr => have hu := hr.units; by
    unfold b_19
    exact (zaq (zbo (DW.dt (zfk (za5 (zb6 hu) zb7 (DE.db (dv 2)) (DE.db zad)) (zf8 (za5 (zb6 hu) zb7 (DE.db (zap zbu (dv 1) zad)) (DE.db zad))))) (zao (zgl 0)) zbq)
    (zaq (zb4 3 zjr.nd (zbp (ziz W) (hr.mono (by decide)) rfl W.g_0 W.F_0.kp W.b_0 (zac (zap zgo (dv 1) zad) (zac zad zag))))
    (zaq (zi8 4 1 [2, 3] ["_law_k", "_law_many", "_law_xs"] zjr.nd rfl (DI.de (zj4 rfl W.z_range (zac (zap zbu (zah (dvC 3) zad) zad) zag))) (fun _ _ _ _ _ => (dgc 0 1)) (fun _ _ _ _ _ => zdo) (fun _ _ _ _ _ => (zcl (zac (zap zbu (zah (zes 2) (zap zcy zad (zap zdz zad (dvc 0)))) (dvc 1)) (zac (zbp (zqj W) (hr.mono (by decide)) (glc rfl) W.g_4 W.F_4.kp W.b_4 (zac (zah (zes 2) (zap zcy zad (zap zdz zad (dvc 0)))) zag)) zag)))))
    (zaq (zb4 5 zjr.nd (zdv (zih rfl) zhl rfl W.z_sum boot_sum (zdt (DE.db (DO.de (zc6 2 [] ["_law_thing", "_law_worth_here"] rfl (DI.de (zb9 (DO.de (by refine zf0 ?a ?b ?c; (case a => exact (dv 4)); (case b => exact zia); (case c => exact (zez (zap zbu (zah (dvC 3) zad) zad))))))) (fun _ _ _ _ _ => (zep rfl (zcf (dgc 0 2) (zcf (dgc 1 2) zeb)))) (fun _ _ _ _ _ => zdo) (fun _ _ _ _ _ => (dvc 1))))) zdu)))
    (zaq (zb4 6 zjr.nd (zcl (zac (zah (DO.dc (zbz (zac zbw (zac zbw zag)))) (zap zbu (zah (dvC 3) zad) zad)) (zac (zap ziy (zap zcy (dv 5) (zap zbu (zah (dvC 3) zad) zad)) zad) (zac (dv 4) zag)))))
    (zao (zbd (zcl (zac (zah (dvC 0) zad) (zac (zah (dvC 0) zad) (zac (DO.de (zk2 (zah (dvC 0) zad) (DO.de (zbz (zac (dv 6) zag))))) zag)))))))))))
theorem zv5 {a : Wa} (W : Wd K mg a) : zau P w K mg base CX0 2 a.f_3 a.fd_3 ["_law_rule_here", "_law_base", "_law_cell"] (spD ⟨K, cl a⟩ ["_law_rule_here", "_law_base", "_law_cell"].length m_3) :=
  zbv (k := 1) (N := ["_law_rule_here", "_law_base", "_law_cell", "_law_xs", "_law_named_here", "_law_sheet", "_law_part_here", "_law_things", "_law_thing", "_law_x"]) (F := b_3) W.F_3 ze5 fun cdv A outer s H E hr => have hu := hr.units; by
    unfold b_3
    exact (zaq (zb4 3 ze5.nd (zbp (ziz W) (hr.mono (by decide)) rfl W.g_0 W.F_0.kp W.b_0 (zac (zap zgo (dv 2) zad) (zac zad zag))))
    (zaq (zb4 4 ze5.nd (zbp (zot W) (hr.mono (by decide)) rfl W.g_5 W.F_5.kp W.b_5 (zac (dv 0) zag)))
    (zaq (zhp 5 ze5.nd (zjl boot_list rfl W.z_list (dvC 1)))
    (zaq (zbo (DW.dt (zfk (za5 (zb6 hu) zb7 (DE.db (zap zbu (dv 2) zad)) (DE.db zad)) (zf8 (za5 (zb6 hu) zb7 (DE.db (dv 4)) (DE.db (DO.de (zbz zag))))))) (zao (zgl 5)) zbq)
    (zaq (zd1 PassesOwn.never rfl (zb9 (zah (dvC 0) zad)) (zdm 6 10 ze5.nd) (zaq (zb4 7 ze5.nd (DO.de (zbz (zac (zah (dvC 6) zad) zag))))
    (zaq (zbo (za5 (zb6 hu) zb7 (DE.db (zdv zg3 zg4 rfl W.z_len PySem.boot_len (zdt (DE.db (dv 6)) zdu))) (DE.db zad)) (zao (zi8 7 2 [] ["_law_thing", "_law_worth_here"] ze5.nd rfl (DI.de (zb9 (zah (dvC 6) zad))) (fun _ _ _ _ _ => (zep rfl (zcf (dgc 0 2) (zcf (dgc 1 2) zeb)))) (fun _ _ _ _ _ => zdo) (fun _ _ _ _ _ => (dvc 0)))) zbq)
    (zao (zd1 PassesOwn.never rfl (zb9 (dv 7)) (zdm 8 10 ze5.nd) (zao (zoa (pv 5) (dv 8) (zz1 (ze0 (zb6 hu) zb7 (DE.db (zah (dvC 6) zad)) (DE.db zbw)) (ztn (ze0 (zb6 hu) zb7 (DE.db (zah (dvC 6) zad)) (DE.db zbw)))))))))))
    (zaq (zbo (za5 zi1 zi6 (DE.db (zah (dvC 0) zad)) (DE.db zc5)) (zao (zoa (pv 5) (zah (dvC 0) zad) zca)) zbq)
    (zaq (zd1 PassesOwn.never rfl (zb9 (DO.de (by refine zf0 ?a ?b ?c; (case a => exact (dv 3)); (case b => exact zia); (case c => exact (zez (zap zbu (zah (dvC 3) zad) zad)))))) (zdm 9 10 ze5.nd) (zao (zoa (pv 5) (zah (dvC 4) (zap zbu (dv 9) (zdv zg3 zg4 rfl W.z_len PySem.boot_len (zdt (DE.db (dv 4)) zdu)))) zc5)))
    (zao (zgl 5)))))))))
theorem z5m {a : Wa} (W : Wd K mg a) : zau P w K mg base CX0 1 a.f_26 a.fd_26 ["_law_found"] (spD ⟨K, cl a⟩ ["_law_found"].length zm4) :=
  zbv (k := 0) (N := ["_law_found", "_law_pair"]) (F := b_26) W.F_26 zp5 fun cdv A outer s H E hr => have hu := hr.units; by
    unfold b_26
    exact (zaq (zbo (zgn (ze1 (DE.db (zi5 (T := "list") (zun W) rfl W.z_isinstance boot_list rfl W.z_list (DE.db (dv 0)))))) (zao (zbd zca)) zbq)
    (zaq (zd1 PassesOwn.never rfl (zb9 (dv 0)) (zdm 1 2 zp5.nd) (zaq (zbo (DW.dt (zfk (zgn (ze1 (DE.db (zi5 (T := "tuple") (zw3 W) rfl W.z_isinstance boot_tuple rfl W.z_tuple (DE.db (dv 1)))))) (zf8 (za5 (zlx hu) zmm (DE.db (zdv zg3 zg4 rfl W.z_len PySem.boot_len (zdt (DE.db (dv 1)) zdu))) (DE.db zad))))) (zao (zbd zca)) zbq)
    (zao (zbo (DW.dt (zfk (zgn (ze1 (DE.db (zi5 (T := "int") (zt4 W) rfl W.z_isinstance boot_int rfl W.z_int (DE.db (zah (dvC 1) zad)))))) (zfk (ze1 (DE.db (zi5 (T := "bool") (zs9 W) rfl W.z_isinstance boot_bool rfl W.z_bool (DE.db (zah (dvC 1) zad))))) (zf8 (zgn (ze1 (DE.db (zi5 (T := "bool") (zs9 W) rfl W.z_isinstance boot_bool rfl W.z_bool (DE.db (zah (dvC 1) zad)))))))))) (zao (zbd zca)) zbq))))
    (zao (zbd zca))))
theorem z43 {a : Wa} (W : Wd K mg a) : zau P w K mg base CX0 2 a.f_18 a.fd_18 ["_law_xs", "_law_many"] (spD ⟨K, cl a⟩ ["_law_xs", "_law_many"].length zj5) :=
  zbv (k := 1) (N := ["_law_xs", "_law_many", "_law_word", "_law_items", "_law_near_here"]) (F := b_18) W.F_18 zlg fun cdv A outer s H E hr => have hu := hr.units; by
    unfold b_18
    exact (zaq (zb4 2 zlg.nd (zah (DO.dc (zbz (zac zbw (zac zbw (zac zbw (zac zbw (zac zbw zag))))))) (zap zbu (zah (dvC 0) zad) zad)))
    (zaq (zbo (DW.dt (zfk (za5 (zb6 hu) zb7 (DE.db (dv 2)) (DE.db zbw)) (zf8 (za5 (zb6 hu) zb7 (DE.db (dv 2)) (DE.db zbw))))) (zao (zbd (zcl (zac (dv 2) (zac (zap zbu (zah (dvC 0) zad) (dv 1)) zag))))) zbq)
    (zaq (zi8 3 1 [1, 0] ["_law_k", "_law_many", "_law_xs"] zlg.nd rfl (DI.de (zj4 rfl W.z_range (zac (zap zbu (zah (dvC 0) zad) zad) zag))) (fun _ _ _ _ _ => (dgc 0 1)) (fun _ _ _ _ _ => zdo) (fun _ _ _ _ _ => (zcl (zac (zap zbu (zah (zes 2) (zap zcy zad (zap zdz zad (dvc 0)))) (dvc 1)) (zac (zbp (zqj W) (hr.mono (by decide)) (glc rfl) W.g_4 W.F_4.kp W.b_4 (zac (zah (zes 2) (zap zcy zad (zap zdz zad (dvc 0)))) zag)) zag)))))
    (zaq (zb4 4 zlg.nd (zdv (zih rfl) zhl rfl W.z_sum boot_sum (zdt (DE.db (DO.de (zc6 2 [] ["_law_thing", "_law_worth_here"] rfl (DI.de (zb9 (DO.de (by refine zf0 ?a ?b ?c; (case a => exact (dv 3)); (case b => exact zia); (case c => exact (zez (zap zbu (zah (dvC 0) zad) zad))))))) (fun _ _ _ _ _ => (zep rfl (zcf (dgc 0 2) (zcf (dgc 1 2) zeb)))) (fun _ _ _ _ _ => zdo) (fun _ _ _ _ _ => (dvc 1))))) zdu)))
    (zao (zbd (zcl (zac (dv 2) (zac (zap ziy (zap zcy (dv 4) (zap zbu (zap zgo (zah (dvC 0) zad) zad) zad)) zad) (zac (dv 3) zag))))))))))
theorem zu6 {a : Wa} (W : Wd K mg a) : zau P w K mg base CX0 3 a.f_25 a.fd_25 ["_law_cell", "_law_many"] (spD ⟨K, cl a⟩ ["_law_cell", "_law_many"].length zlz) :=
  zbv (k := 2) (N := ["_law_cell", "_law_many", "_law_xs", "_law_parts"]) (F := b_25) W.F_25 zml fun cdv A outer s H E hr => have hu := hr.units; by
    unfold b_25
    refine (zaq (zb4 2 zml.nd (zbp (ziz W) (hr.mono (by decide)) rfl W.g_0 W.F_0.kp W.b_0 (zac (dv 0) (zac zad zag))))
    (zaq (zbo (za5 (zb6 hu) zb7 (DE.db (dv 1)) (DE.db zad)) ?hole0 zbq)
    (zaq (zi8 3 1 [1, 2] ["_law_k", "_law_many", "_law_xs"] zml.nd rfl (DI.de (zj4 rfl W.z_range (zac (zah (DO.dc (zbz (zac zad (zac zad (zac zad (zac zad (zac zad (zac zad zag)))))))) (zap zbu (zah (dvC 2) zad) zad)) zag))) (fun _ _ _ _ _ => (dgc 0 1)) (fun _ _ _ _ _ => zdo) (fun _ _ _ _ _ => (zbp (z43 W) (hr.mono (by decide)) (glc rfl) W.g_18 W.F_18.kp W.b_18 (zac (DO.de (by refine zf0 ?a ?b ?c; (case a => exact (dvc 2)); (case b => exact (zez (zap zcy zad (zap zdz zad (dvc 0))))); (case c => exact (zez (zap zcy zad (zap zdz zad (dvc 0))))))) (zac (dvc 1) zag)))))
    (zaq (zbo (za5 (zb6 hu) zb7 (DE.db (zap zbu (zah (dvC 2) zad) zad)) (DE.db zad)) (zao (zbd (zcl (zac zbw (zac zc5 (zac (dv 3) zag)))))) zbq)
    (zao (zbd (zcl (zac (zah (DO.dc (zbz (zac zbw (zac zbw (zac zbw (zac zbw zag)))))) (zap zbu (zap zgo (zah (dvC 2) zad) zad) zad)) (zac (zap zbu (zah (dvC 2) zad) (dv 1)) (zac (dv 3) zag))))))))))
    (case hole0 => refine zao ?_; refine zbd ?_; refine zcl ?_; refine zac ?_ ?_; (focus exact zbw); refine zac ?_ ?_; (focus exact zc5); refine zac ?_ ?_; (focus (refine DO.de ?_; exact (by refine zf0 ?a ?b ?c; (case a => exact (DO.de (zbz (zac (zcl (zac (zah (DO.dc (zbz (zac zbw (zac zbw zag)))) (zap zbu (zah (dvC 2) zad) zad)) (zac (zap ziy (zap zbu (zah (dvC 2) zad) zad) zad) (zac (DO.de (zbz zag)) zag)))) zag)))); (case b => exact zia); (case c => exact (zez (zap zbu (zah (dvC 2) zad) zad)))))); exact zag)
theorem zrv {a : Wa} (W : Wd K mg a) : zau P w K mg base CX0 1 a.f_32 a.fd_32 ["self", "bound", "items"] (spI ⟨K, cl a⟩ "Least" ["self", "bound", "items"].length zm6) :=
  zk6 (k := 0) (N := ["self", "bound", "items"]) (cn := "Least") W.F_32 z2m fun cdv A outer s H E hr => (zh4 (ze7 W) (zlq W) (pv 0) (dv 1) (zh4 (ze7 W) (zkn W) (pv 0) (DO.de (zjl boot_list rfl W.z_list (dvC 2))) zjz))
theorem zth {a : Wa} (W : Wd K mg a) : zau P w K mg base CX0 1 a.f_31 a.fd_31 ["self", "thing"] (spI ⟨K, cl a⟩ "Out" ["self", "thing"].length znk) :=
  zk6 (k := 0) (N := ["self", "thing"]) (cn := "Out") W.F_31 z23 fun cdv A outer s H E hr => (zh4 (zii W) (zkv W) (pv 0) (dv 1) zjz)
theorem zzo {a : Wa} (W : Wd K mg a) : zau P w K mg base CX0 1 a.f_33 a.fd_33 ["self", "thing"] (spI ⟨K, cl a⟩ "In" ["self", "thing"].length zpb) :=
  zk6 (k := 0) (N := ["self", "thing"]) (cn := "In") W.F_33 zz5 fun cdv A outer s H E hr => (zh4 (zhh W) (zkg W) (pv 0) (dv 1) zjz)
theorem zuz {a : Wa} (W : Wd K mg a) : zau P w K mg base CX0 1 a.f_34 a.fd_34 ["self", "bound", "items"] (spI ⟨K, cl a⟩ "Most" ["self", "bound", "items"].length zos) :=
  zk6 (k := 0) (N := ["self", "bound", "items"]) (cn := "Most") W.F_34 zxd fun cdv A outer s H E hr => (zh4 (zfc W) (zmg W) (pv 0) (dv 1) (zh4 (zfc W) (zkz W) (pv 0) (DO.de (zjl boot_list rfl W.z_list (dvC 2))) zjz))
theorem z3v {a : Wa} (W : Wd K mg a) : zau P w K mg base CX0 3 a.f_27 a.fd_27 ["told"] (spD ⟨K, cl a⟩ ["told"].length zmf) :=
  zbv (k := 2) (N := ["told", "word"]) (F := b_27) W.F_27 zso fun cdv A outer s H E hr => have hu := hr.units; by
    unfold b_27
    exact (zaq (zb4 1 zso.nd (zah (dvC 0) zad))
    (zaq (zbo (za5 (zb6 hu) zb7 (DE.db (dv 1)) (DE.db zbw)) (zao (zbd (zho "In" (zw8 W) (zzo W) (hr.mono (by decide)) rfl (zuy W) W.b_33 (zac (zah (dvC 0) zad) zag)))) zbq)
    (zaq (zbo (za5 (zb6 hu) zb7 (DE.db (dv 1)) (DE.db zbw)) (zao (zbd (zho "Out" (zpg W) (zth W) (hr.mono (by decide)) rfl (zrk W) W.b_31 (zac (zah (dvC 0) zad) zag)))) zbq)
    (zaq (zbo (za5 (zb6 hu) zb7 (DE.db (dv 1)) (DE.db zbw)) (zao (zbd (zho "Least" (zru W) (zrv W) (hr.mono (by decide)) rfl (zok W) W.b_32 (zac (zah (dvC 0) zad) (zac (zah (dvC 0) zad) zag))))) zbq)
    (zao (zbd (zho "Most" (zwp W) (zuz W) (hr.mono (by decide)) rfl (zwh W) W.b_34 (zac (zah (dvC 0) zad) (zac (zah (dvC 0) zad) zag)))))))))
theorem zyz {a : Wa} (W : Wd K mg a) : zau P w K mg base CX0 4 a.f_30 a.fd_30 ["rule"] (spO ⟨K, cl a⟩ ["rule"].length zls) :=
  z2a (k := 3) (N := ["rule"]) (F := b_30) W.F_30 z30 fun cdv A outer s H E hr => by
    unfold b_30
    exact (zao (ze6 (zc6 1 [] ["told"] rfl (DI.de (zb9 (zah (dvC 0) zad))) (fun _ _ _ _ _ => (dgc 0 1)) (fun _ _ _ _ _ => zdo) (fun _ _ _ _ _ => (zbp (z3v W) (hr.mono (by decide)) (glc rfl) W.g_27 W.F_27.kp W.b_27 (zac (dvc 0) zag))))))
theorem z2c {a : Wa} (W : Wd K mg a) : zau P w K mg base CX0 5 a.f_24 a.fd_24 ["rule"] (spD ⟨K, cl a⟩ ["rule"].length zkj) :=
  zbv (k := 4) (N := ["rule", "guard"]) (F := b_24) W.F_24 zq2 fun cdv A outer s H E hr => have hu := hr.units; by
    unfold b_24
    exact (zaq (zbo (za5 (zb6 hu) zb7 (DE.db (zah (dvC 0) zad)) (DE.db zbw)) (zao (ze6 (zbz (zac (zho "Least" (zru W) (zrv W) (hr.mono (by decide)) rfl (zok W) W.b_32 (zac zad (zac (DO.de (zbz zag)) zag))) zag)))) zbq)
    (zaq (zhp 1 zq2.nd (zxg (zyz W) (hr.mono (by decide)) rfl W.g_30 W.F_30.kp W.b_30 (zac (dv 0) zag)))
    (zaq (zbo (za5 (zb6 hu) zb7 (DE.db (zah (dvC 0) zad)) (DE.db zbw)) (zao (zhx (zgd (zgk PySem.F.plainAttrs_list PySem.F.slot_list_append PySem.F.type_list_append zij (pv 1) (zd0 (zho "Out" (zpg W) (zth W) (hr.mono (by decide)) rfl (zrk W) W.b_31 (zac (zah (dvC 0) zad) zag)) zei))))) zbq)
    (zao (zgl 1)))))
theorem z1m {a : Wa} (W : Wd K mg a) : zau P w K mg base CX0 1 a.f_10 a.fd_10 ["self", "sheet"] (spD ⟨K, cl a⟩ ["self", "sheet"].length m_10) :=
  zbv (k := 0) (N := ["self", "sheet"]) (F := b_10) W.F_10 zws fun cdv A outer s H E hr => by
    unfold b_10
    exact (zao (zbd (ze0 zd8 zd5 (DE.db (zah (dvC 1) (zc0 "In" (zhh W) (zkg W) (dv 0)))) (DE.db zca))))
theorem z3i {a : Wa} (W : Wd K mg a) : zau P w K mg base CX0 1 a.f_11 a.fd_11 ["self", "sheet"] (spD ⟨K, cl a⟩ ["self", "sheet"].length m_11) :=
  zbv (k := 0) (N := ["self", "sheet"]) (F := b_11) W.F_11 zyq fun cdv A outer s H E hr => by
    unfold b_11
    exact (zao (zbd (zne (za5 zd8 zd5 (DE.db (zah (dvC 1) (zc0 "In" (zhh W) (zkg W) (dv 0)))) (DE.db zc5)) (DO.de (zbz (zac (zcl (zac (zc0 "In" (zhh W) (zkg W) (dv 0)) (zac zca zag))) zag))) (DO.de (zbz zag)))))
theorem zqr {a : Wa} (W : Wd K mg a) : zau P w K mg base CX0 1 a.f_16 a.fd_16 ["items", "entries"] (spD ⟨K, cl a⟩ ["items", "entries"].length zlb) :=
  zbv (k := 0) (N := ["items", "entries"]) (F := b_16) W.F_16 z2k fun cdv A outer s H E hr => by
    unfold b_16
    exact (zao (zbd (zdv (zih rfl) zhl rfl W.z_sum boot_sum (zdt (DE.db (DO.de (zc6 2 [1] ["thing", "worth", "entries"] rfl (DI.de (zb9 (dv 0))) (fun _ _ _ _ _ => (zep rfl (zcf (dgc 0 2) (zcf (dgc 1 2) zeb)))) (fun _ _ _ _ _ => (zgq (za5 zd8 zd5 (DE.db (zah (zes 2) (dvc 0))) (DE.db zca)))) (fun _ _ _ _ _ => (dvc 1))))) zdu))))
theorem z4b {a : Wa} (W : Wd K mg a) : zau P w K mg base CX0 2 a.f_14 a.fd_14 ["self", "sheet"] (spD ⟨K, cl a⟩ ["self", "sheet"].length m_14) :=
  zbv (k := 1) (N := ["self", "sheet"]) (F := b_14) W.F_14 ztw fun cdv A outer s H E hr => by
    unfold b_14
    exact (zao (zbd (ze0 zma zm2 (DE.db (zbp (zqr W) (hr.mono (by decide)) rfl W.g_16 W.F_16.kp W.b_16 (zac (zc0 "Least" (ze7 W) (zkn W) (dv 0)) (zac (dv 1) zag)))) (DE.db (zc0 "Least" (ze7 W) (zlq W) (dv 0))))))
theorem zxs {a : Wa} (W : Wd K mg a) : zau P w K mg base CX0 1 a.f_21 a.fd_21 ["items"] (spD ⟨K, cl a⟩ ["items"].length zmv) :=
  zbv (k := 0) (N := ["items", "weights", "thing", "worth"]) (F := b_21) W.F_21 zjy fun cdv A outer s H E hr => have hu := hr.units; by
    unfold b_21
    exact (zaq (z2u 1 zjy.nd)
    (zaq (zd1 PassesOwn.never rfl (zb9 (dv 0)) (zep rfl (zcf (zdm 2 4 zjy.nd) (zcf (zdm 3 4 zjy.nd) zeb))) (zao (zyp hu (pv 1) (dv 2) (zap zcy (zwg hu (pv 1) (dv 2) zad ⟨rfl, rfl, rfl, rfl⟩) (dv 3)))))
    (zao (zvb 1 (zbd (dv 1))))))
theorem zp8 {a : Wa} (W : Wd K mg a) : zau P w K mg base CX0 2 a.f_8 a.fd_8 ["items", "sheet", "lack"] (spD ⟨K, cl a⟩ ["items", "sheet", "lack"].length m_8) :=
  zbv (k := 1) (N := ["items", "sheet", "lack", "weights"]) (F := b_8) W.F_8 zqn fun cdv A outer s H E hr => have hu := hr.units; by
    unfold b_8
    exact (zaq (zb4 3 zqn.nd (zbp (zxs W) (hr.mono (by decide)) rfl W.g_21 W.F_21.kp W.b_21 (zac (DO.de (zc6 1 [1] ["item", "sheet"] rfl (DI.de (zb9 (dv 0))) (fun _ _ _ _ _ => (dgc 0 1)) (fun _ _ _ _ _ => (zgq (za5 zd8 zd5 (DE.db (zah (zes 1) (zah (zes 0) zad))) (DE.db zc5)))) (fun _ _ _ _ _ => (dvc 0)))) zag)))
    (zao (ze6 (zc6 1 [2, 3] ["thing", "lack", "weights"] rfl (DI.de (z1q (dv 3))) (fun _ _ _ _ _ => (dgc 0 1)) (fun _ _ _ _ _ => (zgq (za5 zma zm2 (DE.db (zx5 hu (dvc 2) (dvc 0))) (DE.db (dvc 1))))) (fun _ _ _ _ _ => (dvc 0))))))
theorem zw4 {a : Wa} (W : Wd K mg a) : zau P w K mg base CX0 3 a.f_6 a.fd_6 ["self", "sheet"] (spD ⟨K, cl a⟩ ["self", "sheet"].length m_6) :=
  zbv (k := 2) (N := ["self", "sheet", "lack"]) (F := b_6) W.F_6 zo3 fun cdv A outer s H E hr => by
    unfold b_6
    exact (zaq (zb4 2 zo3.nd (zap ziy (zc0 "Least" (ze7 W) (zlq W) (dv 0)) (zbp (zqr W) (hr.mono (by decide)) rfl W.g_16 W.F_16.kp W.b_16 (zac (zc0 "Least" (ze7 W) (zkn W) (dv 0)) (zac (dv 1) zag)))))
    (zao (ze6 (zc6 1 [] ["thing"] rfl (DI.de (zb9 (zbp (zp8 W) (hr.mono (by decide)) rfl W.g_8 W.F_8.kp W.b_8 (zac (zc0 "Least" (ze7 W) (zkn W) (dv 0)) (zac (dv 1) (zac (dv 2) zag)))))) (fun _ _ _ _ _ => (dgc 0 1)) (fun _ _ _ _ _ => zdo) (fun _ _ _ _ _ => (zcl (zac (dvc 0) (zac zca zag))))))))
theorem zr1 {a : Wa} (W : Wd K mg a) : zau P w K mg base CX0 1 a.f_17 a.fd_17 ["items", "sheet"] (spD ⟨K, cl a⟩ ["items", "sheet"].length zk4) :=
  zbv (k := 0) (N := ["items", "sheet"]) (F := b_17) W.F_17 z4x fun cdv A outer s H E hr => by
    unfold b_17
    exact (zao (zbd (zdv (zih rfl) zhl rfl W.z_sum boot_sum (zdt (DE.db (DO.de (zc6 2 [1] ["thing", "worth", "sheet"] rfl (DI.de (zb9 (dv 0))) (fun _ _ _ _ _ => (zep rfl (zcf (dgc 0 2) (zcf (dgc 1 2) zeb)))) (fun _ _ _ _ _ => (zgq (za5 zi1 zi6 (DE.db (zah (zes 2) (dvc 0))) (DE.db zca)))) (fun _ _ _ _ _ => (dvc 1))))) zdu))))
theorem zxv {a : Wa} (W : Wd K mg a) : zau P w K mg base CX0 2 a.f_15 a.fd_15 ["self", "sheet"] (spD ⟨K, cl a⟩ ["self", "sheet"].length m_15) :=
  zbv (k := 1) (N := ["self", "sheet"]) (F := b_15) W.F_15 z4d fun cdv A outer s H E hr => by
    unfold b_15
    exact (zao (zbd (ze0 zoy zsj (DE.db (zbp (zr1 W) (hr.mono (by decide)) rfl W.g_17 W.F_17.kp W.b_17 (zac (zc0 "Most" (zfc W) (zkz W) (dv 0)) (zac (dv 1) zag)))) (DE.db (zc0 "Most" (zfc W) (zmg W) (dv 0))))))
theorem z0a {a : Wa} (W : Wd K mg a) : zau P w K mg base CX0 3 a.f_7 a.fd_7 ["self", "sheet"] (spD ⟨K, cl a⟩ ["self", "sheet"].length m_7) :=
  zbv (k := 2) (N := ["self", "sheet", "lack"]) (F := b_7) W.F_7 zq9 fun cdv A outer s H E hr => by
    unfold b_7
    exact (zaq (zb4 2 zq9.nd (zap ziy (zbp (zr1 W) (hr.mono (by decide)) rfl W.g_17 W.F_17.kp W.b_17 (zac (zc0 "Most" (zfc W) (zkz W) (dv 0)) (zac (dv 1) zag))) (zc0 "Most" (zfc W) (zmg W) (dv 0))))
    (zao (ze6 (zc6 1 [] ["thing"] rfl (DI.de (zb9 (zbp (zp8 W) (hr.mono (by decide)) rfl W.g_8 W.F_8.kp W.b_8 (zac (zc0 "Most" (zfc W) (zkz W) (dv 0)) (zac (dv 1) (zac (dv 2) zag)))))) (fun _ _ _ _ _ => (dgc 0 1)) (fun _ _ _ _ _ => zdo) (fun _ _ _ _ _ => (zcl (zac (dvc 0) (zac zca zag))))))))
theorem zw1 {a : Wa} (W : Wd K mg a) : zau P w K mg base CX0 1 a.f_12 a.fd_12 ["self", "sheet"] (spD ⟨K, cl a⟩ ["self", "sheet"].length m_12) :=
  zbv (k := 0) (N := ["self", "sheet"]) (F := b_12) W.F_12 zyv fun cdv A outer s H E hr => by
    unfold b_12
    exact (zao (zbd (ze0 zd8 zd5 (DE.db (zah (dvC 1) (zc0 "Out" (zii W) (zkv W) (dv 0)))) (DE.db zca))))
theorem zza {a : Wa} (W : Wd K mg a) : zau P w K mg base CX0 1 a.f_13 a.fd_13 ["self", "sheet"] (spD ⟨K, cl a⟩ ["self", "sheet"].length m_13) :=
  zbv (k := 0) (N := ["self", "sheet"]) (F := b_13) W.F_13 zvi fun cdv A outer s H E hr => by
    unfold b_13
    exact (zao (zbd (zne (za5 zd8 zd5 (DE.db (zah (dvC 1) (zc0 "Out" (zii W) (zkv W) (dv 0)))) (DE.db zc5)) (DO.de (zbz (zac (zcl (zac (zc0 "Out" (zii W) (zkv W) (dv 0)) (zac zca zag))) zag))) (DO.de (zbz zag)))))
theorem zvk {a : Wa} (W : Wd K mg a) : zau P w K mg base CX0 4 a.f_9 a.fd_9 ["guard", "sheet"] (spD ⟨K, cl a⟩ ["guard", "sheet"].length m_9) :=
  zbv (k := 3) (N := ["guard", "sheet", "pairs", "part", "tips"]) (F := b_9) W.F_9 ziv fun cdv A outer s H E hr => have hu := hr.units; by
    unfold b_9
    exact (zaq (zb4 2 ziv.nd zc5)
    (zaq (zd1 PassesOwn.never rfl (zb9 (dv 0)) (zdm 3 5 ziv.nd) (zao (zbo (zgn (ze1 (DE.db (DE.orE (zfu "In" (dv 3) (zhh W) (z0t W) (z1m W) (hr.mono (by decide)) W.b_10 (zac (dv 1) zag)) (DE.orE (zfu "Out" (dv 3) (zii W) (z1d W) (zw1 W) (hr.mono (by decide)) W.b_12 (zac (dv 1) zag)) (DE.orE (zfu "Least" (dv 3) (ze7 W) (z3h W) (z4b W) (hr.mono (by decide)) W.b_14 (zac (dv 1) zag)) (zfu "Most" (dv 3) (zfc W) (z2q W) (zxv W) (hr.mono (by decide)) W.b_15 (zac (dv 1) zag)))))))) (zaq (zb4 4 ziv.nd (DE.orE (zfu "In" (dv 3) (zhh W) (zy5 W) (z3i W) (hr.mono (by decide)) W.b_11 (zac (dv 1) zag)) (DE.orE (zfu "Out" (dv 3) (zii W) (z0c W) (zza W) (hr.mono (by decide)) W.b_13 (zac (dv 1) zag)) (DE.orE (zfu "Least" (dv 3) (ze7 W) (zxw W) (zw4 W) (hr.mono (by decide)) W.b_6 (zac (dv 1) zag)) (zfu "Most" (dv 3) (zfc W) (z03 W) (z0a W) (hr.mono (by decide)) W.b_7 (zac (dv 1) zag))))))
    (zaq (zb4 2 ziv.nd (zne (za5 zd8 zd5 (DE.db (dv 2)) (DE.db zc5)) (dv 4) (DO.de (zc6 1 [4] ["pair", "tips"] rfl (DI.de (zb9 (dv 2))) (fun _ _ _ _ _ => (dgc 0 1)) (fun _ _ _ _ _ => (zgq (za5 (z42 hu) z2w (DE.db (dvc 0)) (DE.db (dvc 1))))) (fun _ _ _ _ _ => (dvc 0))))))
    (zao (zbo (zgn (ze1 (DE.db (dv 2)))) (zao (ze6 (zbz zag))) zbq)))) zbq)))
    (zaq (zbo (za5 zd8 zd5 (DE.db (dv 2)) (DE.db zc5)) (zao (zbd zc5)) zbq)
    (zao (ze6 (zc6 2 [] ["thing", "truth"] rfl (DI.de (zb9 (dv 2))) (fun _ _ _ _ _ => (zep rfl (zcf (dgc 0 2) (zcf (dgc 1 2) zeb)))) (fun _ _ _ _ _ => zdo) (fun _ _ _ _ _ => (zcl (zac (dvc 0) (zac (zp6 (dvc 1)) zag))))))))))
theorem z0z {a : Wa} (W : Wd K mg a) : zau P w K mg base CX0 6 a.f_28 a.fd_28 ["rule", "sheet"] (spD ⟨K, cl a⟩ ["rule", "sheet"].length zlu) :=
  zbv (k := 5) (N := ["rule", "sheet"]) (F := b_28) W.F_28 zxo fun cdv A outer s H E hr => by
    unfold b_28
    exact (zao (ze6 (z4q rfl rfl W.z_sorted (z1i (zbp (zvk W) (hr.mono (by decide)) rfl W.g_9 W.F_9.kp W.b_9 (zac (zbp (z2c W) (hr.mono (by decide)) rfl W.g_24 W.F_24.kp W.b_24 (zac (dv 0) zag)) (zac (dv 1) zag))) (ztn (DO.de (zbz zag)))))))
theorem z5l {a : Wa} (W : Wd K mg a) : zau P w K mg base CX0 7 a.f_1 a.fd_1 ["_law_script"] (spD ⟨K, cl a⟩ ["_law_script"].length m_1) :=
  zbv (k := 6) (N := ["_law_script", "_law_hs", "_law_many", "_law_base", "_law_k", "_law_cell", "_law_rule_here", "_law_sheet", "_law_handed", "_law_found"]) (F := b_1) W.F_1 zdy fun cdv A outer s H E hr => have hu := hr.units; by
    unfold b_1
    exact (zaq (zb4 1 zdy.nd (zbp (ziz W) (hr.mono (by decide)) rfl W.g_0 W.F_0.kp W.b_0 (zac (zbp (zoc W) (hr.mono (by decide)) rfl W.g_2 W.F_2.kp W.b_2 (zac (dv 0) (zac zad zag))) (zac zad zag))))
    (zaq (zb4 2 zdy.nd (zap zgo (zap zcy (zap zbu (zah (dvC 1) zad) zad) zad) zad))
    (zaq (zbo (za5 (zb6 hu) zb7 (DE.db (zap zbu (zah (dvC 1) zad) zad)) (DE.db zad)) (zao (zb4 2 zdy.nd (zap zcy zad (zap zbu (zap zgo (zah (dvC 1) zad) zad) zad)))) zbq)
    (zaq (zi8 3 1 [] ["_law_x"] zdy.nd rfl (DI.de (zb9 (zbp (ziz W) (hr.mono (by decide)) rfl W.g_0 W.F_0.kp W.b_0 (zac (zbp (zoc W) (hr.mono (by decide)) rfl W.g_2 W.F_2.kp W.b_2 (zac (dv 0) (zac zad zag))) (zac (dv 2) zag))))) (fun _ _ _ _ _ => (dgc 0 1)) (fun _ _ _ _ _ => zdo) (fun _ _ _ _ _ => (zah (DO.dc (zbz (zac zca (zac zca (zac zc5 (zac zc5 zag)))))) (zap zbu (dvc 0) zad))))
    (zaq (zd1 PassesOwn.never rfl (z0d rfl W.z_enumerate (zac (DO.de (zk2 (DO.de (zbz (zac (zbp (zoc W) (hr.mono (by decide)) rfl W.g_2 W.F_2.kp W.b_2 (zac (dv 0) (zac zad zag))) zag))) (DO.de (by refine zf0 ?a ?b ?c; (case a => exact (dv 0)); (case b => exact (zez zad)); (case c => exact (zez zad)))))) zag)) (zep rfl (zcf (zdm 4 10 zdy.nd) (zcf (zdm 5 10 zdy.nd) zeb))) (zaq (zb4 6 zdy.nd (zbp (zu6 W) (hr.mono (by decide)) rfl W.g_25 W.F_25.kp W.b_25 (zac (dv 5) (zac (dv 2) zag))))
    (zaq (zbo (za5 (zb6 hu) zb7 (DE.db (dv 4)) (DE.db zad)) (zao (zb4 6 zdy.nd (zbp (zvm W) (hr.mono (by decide)) rfl W.g_19 W.F_19.kp W.b_19 (zac (dv 6) (zac (dv 5) (zac (dv 2) zag)))))) zbq)
    (zaq (zb4 7 zdy.nd (zbp (zv5 W) (hr.mono (by decide)) rfl W.g_3 W.F_3.kp W.b_3 (zac (dv 6) (zac (dv 3) (zac (dv 5) zag)))))
    (zaq (zb4 8 zdy.nd (DO.de (zbz (zac (zbp (z0x W) (hr.mono (by decide)) rfl W.g_23 W.F_23.kp W.b_23 (zac (dv 6) zag)) (zac (DO.de (zjl boot_list rfl W.z_list (dvC 7))) zag)))))
    (zaq (zb4 9 zdy.nd (zbp (z0z W) (hr.mono (by decide)) rfl W.g_28 W.F_28.kp W.b_28 (zac (zah (dvC 8) zad) (zac (zah (dvC 8) zad) zag))))
    (zao (zbo (DW.dt (zfk (zgn (ze1 (DE.db (zbp (z5m W) (hr.mono (by decide)) rfl W.g_26 W.F_26.kp W.b_26 (zac (dv 9) zag))))) (zfk (za5 (zlx hu) zmm (DE.db (dv 9)) (DE.db (zbp (zzc W) (hr.mono (by decide)) rfl W.g_22 W.F_22.kp W.b_22 (zac (dv 6) (zac (dv 7) zag))))) (zf8 (za5 (zlx hu) zmm (DE.db (dv 8)) (DE.db (DO.de (zbz (zac (dv 6) (zac (dv 7) zag)))))))))) (zao (zbd zca)) zbq))))))))
    (zao (zbd zca)))))))
end
local macro_rules | `(tactic| walk_at "evS") => `(tactic| first | decide | omega | assumption | exact ⟨by decide, by decide⟩ | exact ⟨by omega, by omega⟩ | exact .inl ⟨by decide, by decide⟩ | exact .inr ⟨by decide, by decide⟩ | exact .inl ⟨by omega, by omega⟩ | exact .inr ⟨by omega, by omega⟩ | exact ⟨by decide, by decide, by decide⟩)
local macro_rules | `(tactic| walk_at "evO") => `(tactic| first | with_reducible exact zrm | with_reducible exact zlp | with_reducible exact zxm | with_reducible exact z07 | with_reducible exact z17 | with_reducible exact zrs | with_reducible exact zll _ _ | with_reducible exact zzj _ _ | ((with_reducible apply zjs); (focus walk_at "evS")) | ((with_reducible apply zu5); (focus walk_at "evS")) | ((with_reducible apply z3f); (focus walk_at "evS")) | ((with_reducible apply z0h); (focus first | assumption | exact .inl (by walk_at "evS") | exact .inr ⟨by omega, by omega⟩)) | ((with_reducible apply zts); (focus walk_at "evS")) | ((with_reducible apply zy4); (focus walk_at "evS")) | with_reducible exact zxz _ _ | with_reducible exact z19 _ _ | with_reducible exact zxk _ _ | with_reducible exact z2i | exact zp2 _ _ | exact z28 _ _ | assumption | rfl)
local macro_rules | `(tactic| walk_at "ev") => `(tactic| first
  | with_reducible assumption
  | ((with_reducible apply zbi); (focus walk_at "ev"); (focus walk_at "ev"); (focus walk_at "evO"))
  | ((with_reducible apply zcb); (focus walk_at "ev"))
  | ((with_reducible apply zjj); (focus walk_at "ev"); (focus first | assumption | rfl))
  | ((with_reducible apply zzk); (focus walk_at "ev"); (focus walk_at "ev"))
  | ((with_reducible apply zsh); (focus walk_at "ev"); (focus walk_at "ev"))
  | ((with_reducible apply znv); (focus walk_at "ev"))
  | ((with_reducible apply zw0); (focus walk_at "ev"); (focus walk_at "ev"))
  | ((with_reducible apply zz2); (focus walk_at "ev"); (focus walk_at "ev"))
  | ((with_reducible apply ztg); (focus walk_at "ev"))
  | ((with_reducible apply zax); (focus walk_at "ev"); (focus walk_at "ev"))
  | ((with_reducible apply zha); (focus walk_at "ev"))
  | ((with_reducible apply za8); (focus walk_at "ev"))
  | ((with_reducible apply zbr); (focus walk_at "ev"); (focus first | with_reducible assumption | with_reducible exact zl4 _ _ | assumption | exact zl4 _ _ | exact zw2 _ _ | rfl))
  | ((with_reducible apply zzg); (focus walk_at "ev"); (focus assumption); (focus rfl))
  | ((with_reducible apply zaw); (focus walk_at "ev"); (focus walk_at "ev"); (focus first | assumption | rfl))
  | ((with_reducible apply zs0); (focus walk_at "ev"); (focus rfl); (focus rfl))
  | ((with_reducible apply zft); (focus walk_at "ev"); (focus rfl); (focus rfl))
  | ((with_reducible apply zc2); (focus walk_at "ev"); (focus rfl))
  | rfl)
local macro_rules | `(tactic| walk_at "nrm") => `(tactic| simp only [zti, List.set_cons_succ, List.set_cons_zero])
local macro_rules | `(tactic| walk_at "set") => `(tactic| (apply za0; (first | with_reducible apply zbx | with_reducible apply zkh); (focus walk_at "ev"); walk_at "nrm"))
local macro_rules | `(tactic| walk_at "if0") => `(tactic| ((with_reducible first | apply zbg | apply zfo); (focus walk_at "ev")))
theorem zoj (ns : List Int) (i : Int) (h0 : 0 <= i) : ∃ v, m_2 [.kl (ns.map D.int), .int i] = some (.int v) := by
  by_cases h : i < ns.length
  · obtain ⟨x, _, e⟩ := zb5 (f := D.int) h0 h
    refine ⟨x, zcu (zhy (zh3 (congrArg some (decide_eq_true ?_)) (zcx e)))⟩
    rw [List.length_map]
    exact h
  · refine ⟨0, zcu (zfm (zfn (congrArg some (decide_eq_false ?_)) rfl) rfl)⟩
    rw [List.length_map]
    exact h
theorem p60 : (0 : Int) < 10 ^ (60 : Int).toNat := by decide
theorem zzd : zib 10 60 := ⟨by decide, by decide, by decide⟩
noncomputable def Nm (x : Int) : Prop := 0 <= x /\ x < 2305843009213693951
theorem zi4 (c n : Int) (n0 : 0 <= n) (n1 : n <= 124) : ∃ d, m_0 [.int c, .int n] = some d /\ ∃ xs : List Int, d = .lst (xs.map D.int) /\ (xs.length : Int) = n /\ ∀ x ∈ xs, Nm x := by
  apply zf4
  unfold b_0
  show wp _ [.im (.int c), .im (.int n), .no, .no, .no] _
  have a0 : 0 <= c % 2305843009213693951 := Int.emod_nonneg _ (by decide)
  have a1 : c % 2305843009213693951 < 2305843009213693951 := Int.emod_lt_of_pos _ (by decide)
  walk_at "set"
  walk_at "set"
  apply za0
  refine zd2 (List.range n.toNat) (fun (i : Nat) => D.int i) (fun pre ρ => ∃ (xs : List Int) (y : Int) (v : Sl), ρ = [.im (.int c), .im (.int n), .own (xs.map D.int), .im (.int y), v] /\ 0 <= y /\ y < 2 ^ 100 /\ xs.length = pre.length /\ ∀ x ∈ xs, Nm x)
    (zk5 (by walk_at "ev") n0 (by omega)) ⟨[], _, .no, rfl, by omega, by omega, rfl, fun x hx => nomatch hx⟩ ?_ ?_
  · rintro pre i post ρ ex ⟨xs, y, v, rfl, y0, y1, hl, hx⟩
    have hpl : pre.length < n.toNat := by
      have : pre.length < (List.range n.toNat).length := by rw [ex]; simp
      simpa using this
    refine ⟨_, rfl, ?_⟩
    walk_at "nrm"
    generalize hz : (y * (y + 69621) + 7 * (i : Int) + 1) % 2305843009213693951 = z
    have z0 : 0 <= z := by rw [<- hz]; exact Int.emod_nonneg _ (by decide)
    have z1 : z < 2305843009213693951 := by rw [<- hz]; exact Int.emod_lt_of_pos _ (by decide)
    apply za0
    refine zbx (by walk_at "ev") ?_
    rw [hz]
    walk_at "nrm"
    refine zgr rfl rfl (by rw [List.length_map]; omega) ?_
    refine ⟨xs ++ [z], z, .im (.int i), by rw [List.map_append]; rfl, z0, by omega, by rw [List.length_append, List.length_append, hl]; rfl, fun x hx' => ?_⟩
    rcases List.mem_append.mp hx' with h | h
    · exact hx x h
    · have : x = z := by simpa using h
      subst this
      exact ⟨z0, z1⟩
  · rintro ρ ⟨xs, y, v, rfl, y0, y1, hl, hx⟩
    rw [List.length_range] at hl
    exact zgi rfl (zc7 ⟨xs, rfl, by omega, hx⟩)
theorem worth (x : Int) (hx : Nm x) : ∃ d, m_4 [.int x] = some d /\ ∃ w : Int, d = .int w /\ 0 <= w := by
  obtain ⟨x0, x1⟩ := hx
  apply zf4
  unfold b_4
  show wp _ [.im (.int x)] _
  have pw := p60
  have hcp := zzd
  have m1 : zeq x x := .inl (.inl ⟨by omega, by omega⟩)
  have m2 : zeq (x * x) x := .inl (.inr ⟨by omega, by omega⟩)
  have m3 : zeq (x * x * x) x := .inl (.inr ⟨by omega, by omega⟩)
  apply za0
  walk_at "if0"
  · intro _
    walk_at "if0"
    exact zdl ⟨_, rfl, Int.emod_nonneg _ (Int.ne_of_gt pw)⟩
  · intro _
    apply zb3
    walk_at "nrm"
    obtain ⟨w, hw, ew⟩ := zb5 (f := D.int) (xs := [1, 1, 2, 0, 3, 1, 1, 2]) (i := x / 8 % 8) (Int.emod_nonneg _ (by decide)) (Int.emod_lt_of_pos _ (by decide))
    have w0 : ∀ x ∈ ([1, 1, 2, 0, 3, 1, 1, 2] : List Int), 0 <= x := by decide
    walk_at "if0"
    exact zdl ⟨w, rfl, w0 w (List.mem_of_getElem? hw)⟩
theorem zng {α β : Type} {k : Nat} {js : List Nat} {fi : List Sl -> Option (List D)} {g : D -> List Sl -> Option (List Sl)} {ft : List Sl -> Option Bool} {fe : List Sl -> Option D} {ρ : List Sl} (xs : List α) (f : α -> D) (q : β -> D) (P : β -> Prop)
    (hi : fi ρ = some (xs.map f)) (hz : xs.length <= 16777216) (hh : ∀ x ∈ xs, ∃ z, P z /\ zdq g ft fe (zct k js ρ) (f x) = some (some (q z))) : ∃ zs : List β, zbj k js fi g ft fe ρ = some (zs.map q) /\ zs.length = xs.length /\ ∀ z ∈ zs, P z := by
  have key : ∀ ys : List α, (∀ x ∈ ys, ∃ z, P z /\ zdq g ft fe (zct k js ρ) (f x) = some (some (q z))) -> ∃ zs : List β, zdi (zdq g ft fe (zct k js ρ)) (ys.map f) = some (zs.map q) /\ zs.length = ys.length /\ ∀ z ∈ zs, P z := by
    intro ys
    induction ys with
    | nil => intro _; exact ⟨[], rfl, rfl, fun z hz => nomatch hz⟩
    | cons y ys ih =>
      intro h
      obtain ⟨z, pz, ez⟩ := h y List.mem_cons_self
      obtain ⟨zs, e, l, p⟩ := ih fun x hx => h x (List.mem_cons_of_mem _ hx)
      refine ⟨z :: zs, ?_, by rw [List.length_cons, List.length_cons, l], fun w hw => ?_⟩
      · rw [List.map_cons]
        unfold zdi
        rw [ez, e]
        rfl
      · rcases List.mem_cons.mp hw with rfl | hw
        · exact pz
        · exact p w hw
  obtain ⟨zs, e, l, p⟩ := key xs hh
  refine ⟨zs, ?_, l, p⟩
  unfold zbj
  rw [hi]
  show (if (xs.map f).length <= 16777216 then _ else none) = _
  rw [List.length_map, if_pos hz]
  exact e
noncomputable def nmP : Prt -> List Int
  | .inn t => [t]
  | .out t => [t]
  | .least _ its => its.map (·.1)
  | .most _ its => its.map (·.1)
theorem zt2 {xs : List Int} {i : Nat} {x : Int} (h : ∀ x ∈ xs, Nm x) (e : xs[i]? = some x) : Nm x := h x (List.mem_of_getElem? e)
theorem zon {ys : List Int} {n : Int} (hy : ∀ y ∈ ys, Nm y) (n1 : 1 <= n) {t : Nat} (ht : 4 + 2 * t <= ys.length) (ht2 : t <= 100) {fi : List Sl -> Option (List D)} {ρ : List Sl} {js : List Nat} (hi : fi ρ = some ((List.range t).map fun (i : Nat) => D.int i)) (hj : zct 1 js ρ = [.no, .im (.int n), .im (.lst (ys.map D.int))]) :
    ∃ its : List (Int × Int), zbj 1 js fi (zav 0) (fun _ => some true) (zb8 (zab (m2 za3 (mIx (zaf 2) (m2 zbt (fun _ => some (.int 4)) (m2 zcc (fun _ => some (.int 2)) (zaa 0)))) (zaa 1)) (zab (zat m_4 (zab (mIx (zaf 2) (m2 zbt (fun _ => some (.int 5)) (m2 zcc (fun _ => some (.int 2)) (zaa 0)))) (fun _ => some []))) (fun _ => some [])))) ρ = some (its.map itD) /\ its.length = t /\ InN n.toNat its := by
  obtain ⟨its, e, l, p⟩ := zng (k := 1) (js := js) (fi := fi) (g := zav 0) (ft := fun _ => some true) (fe := (zb8 (zab (m2 za3 (mIx (zaf 2) (m2 zbt (fun _ => some (.int 4)) (m2 zcc (fun _ => some (.int 2)) (zaa 0)))) (zaa 1)) (zab (zat m_4 (zab (mIx (zaf 2) (m2 zbt (fun _ => some (.int 5)) (m2 zcc (fun _ => some (.int 2)) (zaa 0)))) (fun _ => some []))) (fun _ => some []))))) (ρ := ρ) (List.range t) (fun (i : Nat) => D.int i) itD (fun z => 0 <= z.1 /\ z.1 < (n.toNat : Int) /\ 0 <= z.2) hi (by rw [List.length_range]; omega) fun i hi' => by
    have hi' := List.mem_range.mp hi'
    obtain ⟨a, _, ea⟩ := zb5 (f := D.int) (xs := ys) (i := 4 + 2 * (i : Int)) (by omega) (by omega)
    obtain ⟨b, hb, eb⟩ := zb5 (f := D.int) (xs := ys) (i := 5 + 2 * (i : Int)) (by omega) (by omega)
    obtain ⟨d, ew, w, rfl, w0⟩ := worth b (zt2 hy hb)
    have q0 := Int.emod_nonneg a (show n ≠ 0 by omega)
    have q1 := Int.emod_lt_of_pos a (show 0 < n by omega)
    refine ⟨(a % n, w), ⟨q0, by show a % n < _; omega, w0⟩, ?_⟩
    rw [hj]
    exact zd6 (y := .tup [.int (a % n), .int w]) rfl rfl (by walk_at "ev")
  exact ⟨its, e, by rw [l, List.length_range], p⟩
theorem zpl {its : List (Int × Int)} {fi : List Sl -> Option (List D)} {ρ : List Sl} (hi : fi ρ = some (its.map itD)) (hz : its.length <= 1000) : zat zdg (zab (zas (zbj 2 [] fi (zc3 (zby (zav 0) (zby (zav 1) zdh))) (fun _ => some true) (zaa 1))) (fun _ => some [])) ρ = some (.int (its.map (·.2)).sum) := by
  refine zbr (zax (za8 (ze9 its itD (fun z => D.int z.2) hi (by omega) fun z _ => zd6 rfl rfl rfl)) rfl) ?_
  rw [zw7]
  exact ztk
theorem zzi (ys : List Int) (n : Int) (hl : 10 <= ys.length) (hy : ∀ y ∈ ys, Nm y) (n1 : 1 <= n) (n60 : n <= 60) : ∃ d, zj5 [.lst (ys.map D.int), .int n] = some d /\ ∃ p : Prt, d = p.toD /\ p.Ok n.toNat /\ (nmP p).length <= 3 := by
  apply zf4
  unfold b_18
  show wp _ [.im (.lst (ys.map D.int)), .im (.int n), .no, .no, .no] _
  obtain ⟨a0, h0, e0⟩ := zb5 (f := D.int) (xs := ys) (i := 0) (by decide) (by omega)
  obtain ⟨a1, h1, e1⟩ := zb5 (f := D.int) (xs := ys) (i := 1) (by decide) (by omega)
  obtain ⟨a2, h2, e2⟩ := zb5 (f := D.int) (xs := ys) (i := 2) (by decide) (by omega)
  obtain ⟨a3, h3, e3⟩ := zb5 (f := D.int) (xs := ys) (i := 3) (by decide) (by omega)
  obtain ⟨wd, hwd, ew⟩ := zb5 (f := D.str) (xs := ["in", "out", "in", "least", "most"]) (i := a0 % 5) (Int.emod_nonneg _ (by decide)) (Int.emod_lt_of_pos _ (by decide))
  have hw2 := List.mem_of_getElem? hwd
  simp only [List.mem_cons, List.not_mem_nil, or_false] at hw2
  walk_at "set"
  apply za0
  walk_at "if0"
  · intro hb
    have q0 := Int.emod_nonneg a1 (show n ≠ 0 by omega)
    have q1 := Int.emod_lt_of_pos a1 (show 0 < n by omega)
    walk_at "if0"
    apply zdl
    rcases hw2 with rfl | rfl | rfl | rfl | rfl
    · exact ⟨.inn (a1 % n), rfl, ⟨q0, by omega⟩, by show 1 <= 3; decide⟩
    · exact ⟨.out (a1 % n), rfl, ⟨q0, by omega⟩, by show 1 <= 3; decide⟩
    · exact ⟨.inn (a1 % n), rfl, ⟨q0, by omega⟩, by show 1 <= 3; decide⟩
    · exact Bool.noConfusion (show false = true from hb)
    · exact Bool.noConfusion (show false = true from hb)
  · intro hb
    apply zb3
    walk_at "nrm"
    have t0 : 0 <= a2 % 4 := Int.emod_nonneg _ (by decide)
    have t1 : a2 % 4 < 4 := Int.emod_lt_of_pos _ (by decide)
    obtain ⟨its, ei, li, hin⟩ := zon (ys := ys) (n := n) hy n1 (t := (a2 % 4).toNat) (by omega) (by omega) (fi := zeh (zab (m2 za3 (mIx (zaf 0) (fun _ => some (.int 2))) (fun _ => some (.int 4))) (fun _ => some []))) (ρ := [.im (.lst (ys.map D.int)), .im (.int n), .im (.str wd), .no, .no]) (js := [1, 0]) (zk5 (by walk_at "ev") t0 (by omega)) rfl
    apply za0
    refine zbx (za8 ei) ?_
    walk_at "nrm"
    apply za0
    refine zbx (zpl (zc2 (za8 (zft rfl rfl (hi := some (a3 % 5)) (by unfold mPt; rw [show (m2 za3 (mIx (zaf 0) (fun _ => some (.int 3))) (fun _ => some (.int 5))) [.im (.lst (ys.map D.int)), .im (.int n), .im (.str wd), .im (.lst (its.map itD)), .no] = some (.int (a3 % 5)) by walk_at "ev"]; rfl))) rfl) (by rw [List.length_take, List.length_drop]; omega)) ?_
    walk_at "nrm"
    walk_at "if0"
    apply zdl
    have h3' : (its.map (·.1)).length <= 3 := by rw [List.length_map]; omega
    rcases hw2 with rfl | rfl | rfl | rfl | rfl
    · exact Bool.noConfusion (show true = false from hb)
    · exact Bool.noConfusion (show true = false from hb)
    · exact Bool.noConfusion (show true = false from hb)
    · exact ⟨.least _ its, rfl, ⟨hin, by omega⟩, h3'⟩
    · exact ⟨.most _ its, rfl, ⟨hin, by omega⟩, h3'⟩
theorem zwr {f : List Sl -> Option D} {ρ : List Sl} {ns : List Int} (h : f ρ = some (.lst (ns.map D.int))) (h1 : ns.length < 4000) (h2 : (zay ns).length < 64) : zi9 f ρ = some ((zay ns).map D.int) := by
  unfold zi9
  rw [h, Option.bind_some]
  show (zsD (ns.map D.int)).bind _ = _
  rw [zsq, Option.bind_some, if_pos ⟨h1, h2⟩]
theorem zr0 {n : Nat} {ns : List Int} (h : ∀ x ∈ ns, 0 <= x /\ x < (n : Int)) : (zay ns).length <= n := by
  have nd : (zay ns).Nodup := (zfi ns).imp fun h => Int.ne_of_lt h
  by_cases hl : (zay ns).length <= n
  · exact hl
  · have hs : ∀ x ∈ zay ns, x ∈ (List.range n).map fun (i : Nat) => (i : Int) := fun x hx => by
      obtain ⟨a, b⟩ := h x ((zdb x ns).mp hx)
      exact List.mem_map.mpr ⟨x.toNat, List.mem_range.mpr (by omega), by omega⟩
    have p := zhn (zay ns) _ nd hs (by rw [List.length_map, List.length_range]; omega)
    have := p.length_eq
    rw [List.length_map, List.length_range] at this
    omega
theorem zpx {i : Nat} {f : List Sl -> Option D} {ρ : List Sl} {xs ds : List D} (h : f ρ = some (.lst ds)) (h' : ρ[i]? = some (.own xs)) (hl : xs.length + ds.length <= 16777216) : zje i (zjc f) ρ = some (.nx (ρ.set i (.own (xs ++ ds)))) := by
  unfold zje zjc
  rw [h]
  show (match ρ[i]? with | some (.own xs) => if xs.length + ds.length <= 16777216 then some (Fl.nx (ρ.set i (.own (xs ++ ds)))) else none | _ => none) = _
  rw [h']
  show (if xs.length + ds.length <= 16777216 then _ else none) = _
  rw [if_pos hl]
theorem zry {n : Nat} {p : Prt} (h : p.Ok n) : ∀ x ∈ nmP p, 0 <= x /\ x < (n : Int) := fun x hx => by
  cases p with
  | inn t => have : x = t := by simpa [nmP] using hx
             subst this; exact h
  | out t => have : x = t := by simpa [nmP] using hx
             subst this; exact h
  | least k its => obtain ⟨z, hz, rfl⟩ := List.mem_map.mp hx; exact ⟨(h.1 z hz).1, (h.1 z hz).2.1⟩
  | most k its => obtain ⟨z, hz, rfl⟩ := List.mem_map.mp hx; exact ⟨(h.1 z hz).1, (h.1 z hz).2.1⟩
noncomputable def nmR (r : Rul) (k : Int) : Prop := (r.w ≠ .never /\ k = r.hd) \/ ∃ p ∈ r.ps, k ∈ nmP p
theorem zht {n : Nat} {r : Rul} (h : r.Ok n) {k : Int} (q : nmR r k) : 0 <= k /\ k < (n : Int) := by
  rcases q with ⟨a, b⟩ | ⟨p, hp, hk⟩
  · subst b; exact h.hd a
  · exact zry (h.ps p hp) k hk
theorem z5a {L L' : List Int} {P : Int -> Prop} {pre : List Prt} {p : Prt} (h : ∀ k, k ∈ L ↔ P k \/ ∃ q ∈ pre, k ∈ nmP q) (h' : ∀ k, k ∈ L' ↔ k ∈ nmP p) (k : Int) : k ∈ L ++ L' ↔ P k \/ ∃ q ∈ pre ++ [p], k ∈ nmP q := by
  rw [List.mem_append, h k, h' k]
  constructor
  · rintro ((a | ⟨q, hq, b⟩) | b)
    · exact .inl a
    · exact .inr ⟨q, List.mem_append_left _ hq, b⟩
    · exact .inr ⟨p, by simp, b⟩
  · rintro (a | ⟨q, hq, b⟩)
    · exact .inl (.inl a)
    · rcases List.mem_append.mp hq with hq | hq
      · exact .inl (.inr ⟨q, hq, b⟩)
      · have : q = p := by simpa using hq
        subst this
        exact .inr b
noncomputable def put (es : List (Option Bool)) (k : Nat) (b : Bool) : List (Option Bool) := es.set k (some b)
theorem zm7 (es : List (Option Bool)) (k : Nat) (b : Bool) : (put es k b).length = es.length := List.length_set
theorem zfh (es : List (Option Bool)) {k j : Nat} (b : Bool) (h : j ≠ k) : (put es k b).getD j none = es.getD j none := by
  unfold put
  rw [List.getD_eq_getElem?_getD, List.getD_eq_getElem?_getD, List.getElem?_set_ne (Ne.symm h)]
theorem znt (es : List (Option Bool)) {k : Nat} (b : Bool) (h : k < es.length) : (put es k b).getD k none = some b := by
  unfold put
  rw [List.getD_eq_getElem?_getD, List.getElem?_set_self h]
  rfl
theorem zka {q : Option Bool -> Bool} {es es' : List (Option Bool)} {its : List (Int × Int)} (h : ∀ z ∈ its, q (es'.getD z.1.toNat none) = q (es.getD z.1.toNat none)) : za1 q es' its = za1 q es its := by
  unfold za1
  rw [List.filter_congr h]
theorem z1v {p : Prt} {es : List (Option Bool)} {k : Nat} {b : Bool} (hp : p.Ok es.length) (h : (k : Int) ∉ nmP p) : p.sure (put es k b) = p.sure es := by
  have ne : ∀ t : Int, 0 <= t -> t ∈ nmP p -> t.toNat ≠ k := fun t h0 ht e => by
    have : (k : Int) = t := by omega
    exact h (this ▸ ht)
  cases p with
  | inn t =>
    have := ne t hp.1 (by simp [nmP])
    show ((put es k b).getD t.toNat none == some true) = _
    rw [zfh es b this]
    rfl
  | out t =>
    have := ne t hp.1 (by simp [nmP])
    show ((put es k b).getD t.toNat none == some false) = _
    rw [zfh es b this]
    rfl
  | least c its =>
    show decide (c <= za1 _ (put es k b) its) = decide (c <= za1 _ es its)
    rw [zka (es := es) fun z hz => by rw [zfh es b (ne z.1 (hp.1 z hz).1 (List.mem_map.mpr ⟨z, hz, rfl⟩))]]
  | most c its =>
    show decide (za1 _ (put es k b) its <= c) = decide (za1 _ es its <= c)
    rw [zka (es := es) fun z hz => by rw [zfh es b (ne z.1 (hp.1 z hz).1 (List.mem_map.mpr ⟨z, hz, rfl⟩))]]
theorem zzx {p : Prt} {es : List (Option Bool)} {k : Nat} (hl : k < es.length) (hk : es.getD k none = none) (hu : p.sure es = false) : p.sure (put es k true) = false \/ p.sure (put es k false) = false := by
  have at_ : ∀ (b : Bool) (j : Nat), (put es k b).getD j none = es.getD j none \/ (es.getD j none = none /\ (put es k b).getD j none = some b) := fun b j => by
    by_cases e : j = k
    · subst e; exact .inr ⟨hk, znt es b hl⟩
    · exact .inl (zfh es b e)
  cases p with
  | inn t =>
    refine .inr ?_
    show ((put es k false).getD t.toNat none == some true) = false
    rcases at_ false t.toNat with e | ⟨_, e⟩
    · rw [e]; exact hu
    · rw [e]; rfl
  | out t =>
    refine .inl ?_
    show ((put es k true).getD t.toNat none == some false) = false
    rcases at_ true t.toNat with e | ⟨_, e⟩
    · rw [e]; exact hu
    · rw [e]; rfl
  | least c its =>
    refine .inr ?_
    show decide (c <= za1 (· == some true) (put es k false) its) = false
    rw [zka (es := es) fun z hz => by
      rcases at_ false z.1.toNat with e | ⟨e1, e⟩
      · rw [e]
      · rw [e, e1]; rfl]
    exact hu
  | most c its =>
    refine .inl ?_
    show decide (za1 (fun e => !(e == some false)) (put es k true) its <= c) = false
    rw [zka (es := es) fun z hz => by
      rcases at_ true z.1.toNat with e | ⟨e1, e⟩
      · rw [e]
      · rw [e, e1]; rfl]
    exact hu
noncomputable def opn (es : List (Option Bool)) (t : Int) : Bool := es.getD t.toNat none == none
noncomputable def duF (r : Rul) (es : List (Option Bool)) (t : Int) : List (Int × Bool) := if opn es t then (if r.surely (put es t.toNat false) then [(t, true)] else []) ++ (if r.surely (put es t.toNat true) then [(t, false)] else []) else []
noncomputable def prF (r : Rul) (es : List (Option Bool)) (t : Int) : List (Int × Bool) := if opn es t then (if r.surely (put es t.toNat false) then [(t, true)] else if r.surely (put es t.toNat true) then [(t, false)] else []) else []
noncomputable def zdc (ps : List Prt) (es : List (Option Bool)) : List Int := match ps.filter (fun p => !p.sure es) with
  | [] => []
  | p :: _ => zay (nmP p)
noncomputable def zcz (r : Rul) (es : List (Option Bool)) : List Int := match r.w with
  | .may => []
  | .make => if es.getD r.hd.toNat none == some false then zdc r.ps es else [r.hd]
  | .never => zdc r.ps es
theorem zmo {r : Rul} {es : List (Option Bool)} {p : Prt} (hp : p ∈ r.ps) (h : p.sure es = false) : r.bodySure es = false := by
  unfold Rul.bodySure
  rw [List.all_eq_false]
  exact ⟨p, hp, by rw [h]; exact Bool.false_ne_true⟩
theorem zny (ps : List Prt) (es : List (Option Bool)) : (zdc ps es = [] /\ ∀ p ∈ ps, p.sure es = true) \/ ∃ p ∈ ps, p.sure es = false /\ zdc ps es = zay (nmP p) := by
  unfold zdc
  cases h : ps.filter (fun p => !p.sure es) with
  | nil =>
    refine .inl ⟨rfl, fun p hp => ?_⟩
    have := List.filter_eq_nil_iff.mp h p hp
    simpa using this
  | cons p l =>
    have : p ∈ ps.filter (fun p => !p.sure es) := by rw [h]; exact List.mem_cons_self
    obtain ⟨a, b⟩ := List.mem_filter.mp this
    exact .inr ⟨p, a, by simpa using b, rfl⟩
theorem zsa {r : Rul} {es : List (Option Bool)} (h : r.surely es = true) : zcz r es = [] := by
  obtain ⟨w, hd, ps⟩ := r
  have key : (∀ p ∈ ps, p.sure es = true) -> zdc ps es = [] := fun q => by
    unfold zdc
    rw [List.filter_eq_nil_iff.mpr fun p hp => by rw [q p hp]; exact Bool.false_ne_true]
  cases w with
  | may => cases h
  | never =>
    have h : Rul.bodySure ⟨.never, hd, ps⟩ es = true := h
    exact key (List.all_eq_true.mp h)
  | make =>
    have h : ((es.getD hd.toNat none == some false) && Rul.bodySure ⟨.make, hd, ps⟩ es) = true := h
    obtain ⟨a, b⟩ := (Bool.and_eq_true _ _ ▸ h : _ /\ _)
    show (if es.getD hd.toNat none == some false then zdc ps es else [hd]) = []
    rw [if_pos a]
    exact key (List.all_eq_true.mp b)
theorem znw {n : Nat} {r : Rul} {es : List (Option Bool)} (hn : es.length = n) (hr : r.Ok n) (hs : r.surely es = false) {t : Int} (t0 : 0 <= t) (ht : t ∉ zcz r es) (b : Bool) (ho : opn es t = true) : r.surely (put es t.toNat b) = false := by
  subst hn
  have tt : ((t.toNat : Nat) : Int) = t := by omega
  have hh := hr.hd
  have hps := hr.ps
  obtain ⟨w, hd, ps⟩ := r
  have key : t ∉ zdc ps es -> (∀ p ∈ ps, p.sure es = true) \/ Rul.bodySure ⟨w, hd, ps⟩ (put es t.toNat b) = false := fun q => by
    rcases zny ps es with ⟨_, h⟩ | ⟨p, hp, hu, e⟩
    · exact .inl h
    · refine .inr (zmo (r := ⟨w, hd, ps⟩) hp ?_)
      rw [z1v (hps p hp) (by rw [tt]; intro z; exact q (by rw [e, zdb]; exact z))]
      exact hu
  cases w with
  | may => rfl
  | never =>
    rcases key ht with h | h
    · have : Rul.surely ⟨.never, hd, ps⟩ es = true := List.all_eq_true.mpr h
      rw [hs] at this; cases this
    · exact h
  | make =>
    show (((put es t.toNat b).getD hd.toNat none == some false) && _) = false
    have ht : t ∉ (if es.getD hd.toNat none == some false then zdc ps es else [hd]) := ht
    cases hc : (es.getD hd.toNat none == some false) with
    | true =>
      rw [if_pos hc] at ht
      rcases key ht with h | h
      · have : Rul.surely ⟨.make, hd, ps⟩ es = true := by
          show ((es.getD hd.toNat none == some false) && _) = true
          rw [hc]
          exact List.all_eq_true.mpr h
        rw [hs] at this; cases this
      · rw [h, Bool.and_false]
    | false =>
      rw [if_neg (by rw [hc]; exact Bool.false_ne_true)] at ht
      have hne : t ≠ hd := fun z => ht (by rw [z]; exact List.mem_cons_self)
      obtain ⟨h0, _⟩ := hh (fun z => by cases z)
      have h0 : 0 <= hd := h0
      rw [zfh es b (by omega), hc, Bool.false_and]
theorem z3w {n : Nat} {r : Rul} {es : List (Option Bool)} (hn : es.length = n) (hr : r.Ok n) (hs : r.surely es = false) {t : Int} (t0 : 0 <= t) (t1 : t < (n : Int)) (ho : opn es t = true) : r.surely (put es t.toNat false) = true -> r.surely (put es t.toNat true) = false := by
  subst hn
  have hk : es.getD t.toNat none = none := by simpa [opn] using ho
  obtain ⟨w, hd, ps⟩ := r
  have key : (∃ p ∈ ps, p.sure es = false) -> Rul.bodySure ⟨w, hd, ps⟩ (put es t.toNat false) = true -> Rul.bodySure ⟨w, hd, ps⟩ (put es t.toNat true) = false := fun ⟨p, hp, hu⟩ q => by
    rcases zzx (by omega) hk hu with h | h
    · exact zmo (r := ⟨w, hd, ps⟩) hp h
    · rw [zmo (r := ⟨w, hd, ps⟩) hp h] at q; cases q
  have ex : ∀ {w}, Rul.bodySure ⟨w, hd, ps⟩ es = false -> ∃ p ∈ ps, p.sure es = false := fun {w} h => by
    obtain ⟨p, hp, hu⟩ := List.all_eq_false.mp h
    exact ⟨p, hp, by simpa using hu⟩
  cases w with
  | may => exact fun h => rfl
  | never => exact fun h => key (ex hs) h
  | make =>
    intro h
    have h : (((put es t.toNat false).getD hd.toNat none == some false) && Rul.bodySure ⟨.make, hd, ps⟩ (put es t.toNat false)) = true := h
    obtain ⟨a, b⟩ := (Bool.and_eq_true _ _ ▸ h : _ /\ _)
    show (((put es t.toNat true).getD hd.toNat none == some false) && _) = false
    by_cases e : hd.toNat = t.toNat
    · rw [e, znt es true (by omega)]
      rfl
    · rw [zfh es true e]
      rw [zfh es false e] at a
      have hs : ((es.getD hd.toNat none == some false) && Rul.bodySure ⟨.make, hd, ps⟩ es) = false := hs
      rw [a, Bool.true_and] at hs
      rw [key (ex hs) b, Bool.and_false]
theorem z4m {α : Type} {f : Int -> List α} {N E : List Int} (hN : N.Pairwise (· < ·)) (hE : E.Pairwise (· < ·)) (hs : ∀ t ∈ E, t ∈ N) (h : ∀ t ∈ N, t ∉ E -> f t = []) : N.flatMap f = E.flatMap f := by
  have e : N.filter (fun t => decide (t ∈ E)) = E := zit _ _ (hN.filter _) hE fun k => by
    rw [List.mem_filter]
    constructor
    · intro q; simpa using q.2
    · intro q; exact ⟨hs k q, by simpa using q⟩
  have : ∀ M : List Int, (∀ t ∈ M, t ∉ E -> f t = []) -> M.flatMap f = (M.filter (fun t => decide (t ∈ E))).flatMap f := by
    intro M
    induction M with
    | nil => intro _; rfl
    | cons t M ih =>
      intro q
      have ih := ih fun u hu => q u (List.mem_cons_of_mem _ hu)
      by_cases ht : t ∈ E
      · rw [List.filter_cons, if_pos (by simpa using ht), List.flatMap_cons, List.flatMap_cons, ih]
      · rw [List.filter_cons, if_neg (by simpa using ht), List.flatMap_cons, q t List.mem_cons_self ht, ih]
        rfl
  rw [this N h, e]
theorem zpm (r : Rul) (es : List (Option Bool)) : (zcz r es).Pairwise (· < ·) := by
  have f : (zdc r.ps es).Pairwise (· < ·) := by
    rcases zny r.ps es with ⟨e, _⟩ | ⟨p, _, _, e⟩
    · rw [e]; exact .nil
    · rw [e]; exact zfi _
  unfold zcz
  cases r.w with
  | may => exact .nil
  | never => exact f
  | make =>
    show (if es.getD r.hd.toNat none == some false then zdc r.ps es else [r.hd]).Pairwise (· < ·)
    split
    · exact f
    · exact List.pairwise_singleton _ _
theorem znz {r : Rul} {es : List (Option Bool)} {t : Int} (h : t ∈ zcz r es) : nmR r t := by
  have f : t ∈ zdc r.ps es -> nmR r t := fun q => by
    rcases zny r.ps es with ⟨e, _⟩ | ⟨p, hp, _, e⟩
    · rw [e] at q; cases q
    · rw [e, zdb] at q; exact .inr ⟨p, hp, q⟩
  unfold zcz at h
  cases hw : r.w with
  | may => rw [hw] at h; cases h
  | never => rw [hw] at h; exact f h
  | make =>
    rw [hw] at h
    have h : t ∈ (if es.getD r.hd.toNat none == some false then zdc r.ps es else [r.hd]) := h
    split at h
    · exact f h
    · have : t = r.hd := by simpa using h
      exact .inl ⟨(by rw [hw]; exact fun z => by cases z), this⟩
theorem zsr {r : Rul} {es : List (Option Bool)} {L : List Int} (hr : r.Ok es.length) (hs : r.surely es = false) (hL : ∀ k, k ∈ L ↔ nmR r k) : (zay L).flatMap (duF r es) = (zcz r es).flatMap (prF r es) := by
  rw [z4m (f := duF r es) (E := zcz r es) (zfi L) (zpm r es) (fun t ht => (zdb t L).mpr ((hL t).mpr (znz ht))) fun t ht hn => ?_]
  · have : ∀ t ∈ zcz r es, duF r es t = prF r es t := fun t ht => by
      obtain ⟨t0, t1⟩ := zht hr (znz ht)
      unfold duF prF
      cases ho : opn es t with
      | false => rfl
      | true =>
        rw [if_pos rfl, if_pos rfl]
        cases h1 : r.surely (put es t.toNat false) with
        | true => rw [z3w rfl hr hs t0 t1 ho h1]; rfl
        | false => rfl
    rw [List.flatMap_def, List.flatMap_def, List.map_congr_left this]
  · obtain ⟨t0, t1⟩ := zht hr ((hL t).mp ((zdb t L).mp ht))
    unfold duF
    cases ho : opn es t with
    | false => rfl
    | true =>
      rw [if_pos rfl, znw rfl hr hs t0 hn false ho, znw rfl hr hs t0 hn true ho]
      rfl
theorem zlc {f g : List Sl -> Option D} {ρ : List Sl} {a b : List D} (h : f ρ = some (.lst a)) (h' : g ρ = some (.lst b)) (hl : a.length + b.length <= 16777216) : zef f g ρ = some (a ++ b) := by
  unfold zef
  rw [h, h']
  show (if a.length + b.length <= 16777216 then some (a ++ b) else none) = _
  rw [if_pos hl]
theorem zn4 {α : Type} {xs : List α} {a b : Nat} {x : α} (h : x ∈ (xs.drop a).take b) : x ∈ xs := List.mem_of_mem_drop (List.mem_of_mem_take h)
theorem zu7 (xs : List Int) (a : Nat) (h : a + 10 <= xs.length) : 10 <= ((xs.drop (HT.sIx xs.length 0 (some (a : Int)))).take (HT.sIx xs.length xs.length (some ((a + 10 : Nat) : Int)) - HT.sIx xs.length 0 (some (a : Int)))).length := by
  rw [HT.sIx_nat, HT.sIx_nat, Nat.min_eq_left h, Nat.min_eq_left (Nat.le_trans (Nat.le_add_right _ _) h), Nat.add_sub_cancel_left, List.length_take, List.length_drop]
  exact Nat.le_min.mpr ⟨Nat.le_refl _, Nat.le_sub_of_add_le (by rw [Nat.add_comm]; exact h)⟩
structure RK (n : Int) (r : Rul) : Prop where
  ok : r.Ok n.toNat
  nm : ∀ p ∈ r.ps, (nmP p).length <= 60
  len : r.ps.length <= 4
theorem zw9 (c n : Int) (n0 : 0 <= n) (n60 : n <= 60) : ∃ d, zlz [.int c, .int n] = some d /\ ∃ r : Rul, d = r.toD /\ RK n r /\ r.ps.length <= 3 := by
  apply zf4
  unfold b_25
  show wp _ [.im (.int c), .im (.int n), .no, .no] _
  obtain ⟨d, em, xs, rfl, hl, hx⟩ := zi4 c 33 (by decide) (by decide)
  have hl' : xs.length = 33 := by omega
  obtain ⟨a0, h0, e0⟩ := zb5 (f := D.int) (xs := xs) (i := 0) (by decide) (by omega)
  obtain ⟨a1, h1, e1⟩ := zb5 (f := D.int) (xs := xs) (i := 1) (by decide) (by omega)
  obtain ⟨a2, h2, e2⟩ := zb5 (f := D.int) (xs := xs) (i := 2) (by decide) (by omega)
  walk_at "set"
  apply za0
  walk_at "if0"
  · intro hb
    have hn : n = 0 := by simpa using hb
    subst hn
    obtain ⟨wd, hwd, ew⟩ := zb5 (f := D.str) (xs := ["least", "most"]) (i := a0 % 2) (Int.emod_nonneg _ (by decide)) (Int.emod_lt_of_pos _ (by decide))
    have hw2 := List.mem_of_getElem? hwd
    simp only [List.mem_cons, List.not_mem_nil, or_false] at hw2
    obtain ⟨p, ep, hp, hpn⟩ : ∃ p : Prt, p.toD = .tup [.str wd, .int (a1 % 3 - 1), .lst []] /\ p.Ok 0 /\ (nmP p).length <= 60 := by
      rcases hw2 with rfl | rfl
      · exact ⟨.least (a1 % 3 - 1) [], rfl, ⟨(fun z hz => nomatch hz), by decide⟩, by show 0 <= 60; decide⟩
      · exact ⟨.most (a1 % 3 - 1) [], rfl, ⟨(fun z hz => nomatch hz), by decide⟩, by show 0 <= 60; decide⟩
    have es : mSl (zas (zab (zb8 (zab (mIx (zab (fun _ => some (.str "least")) (zab (fun _ => some (.str "most")) (fun _ => some []))) (m2 za3 (mIx (zaf 2) (fun _ => some (.int 0))) (fun _ => some (.int 2)))) (zab (m2 zf2 (m2 za3 (mIx (zaf 2) (fun _ => some (.int 1))) (fun _ => some (.int 3))) (fun _ => some (.int 1))) (zab (zas (fun _ => some [])) (fun _ => some []))))) (fun _ => some []))) (fun _ => some none) (mPt (m2 za3 (mIx (zaf 2) (fun _ => some (.int 2))) (fun _ => some (.int 6)))) [.im (.int c), .im (.int 0), .im (.lst (xs.map D.int)), .no] = some ((([p].drop (HT.sIx [p].length 0 none)).take (HT.sIx [p].length [p].length (some (a2 % 6)) - HT.sIx [p].length 0 none)).map Prt.toD) := by
      refine zft (xs := [p]) (g := Prt.toD) ?_ rfl ?_
      · rw [List.map_cons, List.map_nil, ep]
        walk_at "ev"
      · unfold mPt
        rw [show (m2 za3 (mIx (zaf 2) (fun _ => some (.int 2))) (fun _ => some (.int 6))) [.im (.int c), .im (.int 0), .im (.lst (xs.map D.int)), .no] = some (.int (a2 % 6)) by walk_at "ev"]
        rfl
    have ll : ((([p].drop (HT.sIx [p].length 0 none)).take (HT.sIx [p].length [p].length (some (a2 % 6)) - HT.sIx [p].length 0 none))).length <= 1 := Nat.le_trans (List.length_take_le' _ _) (by rw [List.length_drop]; exact Nat.sub_le _ _)
    refine zfo (zha (zax rfl (zax rfl (zax (za8 es) rfl)))) (zdl ⟨⟨.never, 0, _⟩, rfl, ⟨⟨fun h => absurd rfl h, fun q hq => ?_, Nat.le_trans ll (by decide)⟩, fun q hq => ?_, Nat.le_trans ll (by decide)⟩, Nat.le_trans ll (by decide)⟩)
    · have : q = p := by simpa using zn4 hq
      rw [this]
      exact hp
    · have : q = p := by simpa using zn4 hq
      rw [this]
      exact hpn
  · intro hb
    have hn : n ≠ 0 := by simpa using hb
    have n1 : 1 <= n := by omega
    apply zb3
    walk_at "nrm"
    obtain ⟨t, ht, et⟩ := zb5 (f := D.int) (xs := [1, 1, 2, 2, 3, 0]) (i := a0 % 6) (Int.emod_nonneg _ (by decide)) (Int.emod_lt_of_pos _ (by decide))
    have t3 : 0 <= t /\ t <= 3 := by
      have : ∀ x ∈ ([1, 1, 2, 2, 3, 0] : List Int), 0 <= x /\ x <= 3 := by decide
      exact this t (List.mem_of_getElem? ht)
    obtain ⟨ps, ep, lp, hp⟩ := zng (k := 1) (js := [1, 2]) (fi := (zeh (zab (mIx (zab (fun _ => some (.int 1)) (zab (fun _ => some (.int 1)) (zab (fun _ => some (.int 2)) (zab (fun _ => some (.int 2)) (zab (fun _ => some (.int 3)) (zab (fun _ => some (.int 0)) (fun _ => some []))))))) (m2 za3 (mIx (zaf 2) (fun _ => some (.int 0))) (fun _ => some (.int 6)))) (fun _ => some [])))) (g := zav 0) (ft := fun _ => some true) (fe := (zat zj5 (zab (zas (mSl (zaa 2) (mPt (m2 zbt (fun _ => some (.int 3)) (m2 zcc (fun _ => some (.int 10)) (zaa 0)))) (mPt (m2 zbt (fun _ => some (.int 13)) (m2 zcc (fun _ => some (.int 10)) (zaa 0)))))) (zab (zaa 1) (fun _ => some []))))) (ρ := [.im (.int c), .im (.int n), .im (.lst (xs.map D.int)), .no]) (List.range t.toNat) (fun (i : Nat) => D.int i) Prt.toD (fun p => p.Ok n.toNat /\ (nmP p).length <= 60) (zk5 (by walk_at "ev") t3.1 (by omega)) (by rw [List.length_range]; omega) fun i hi => by
      have hi := List.mem_range.mp hi
      have es : mSl (zaa 2) (mPt (m2 zbt (fun _ => some (.int 3)) (m2 zcc (fun _ => some (.int 10)) (zaa 0)))) (mPt (m2 zbt (fun _ => some (.int 13)) (m2 zcc (fun _ => some (.int 10)) (zaa 0)))) [.im (.int i), .im (.int n), .im (.lst (xs.map D.int))] = some ((((xs.drop (HT.sIx xs.length 0 (some (3 + 10 * (i : Int)))))).take (HT.sIx xs.length xs.length (some (13 + 10 * (i : Int))) - HT.sIx xs.length 0 (some (3 + 10 * (i : Int))))).map D.int) := by
        refine zft rfl ?_ ?_
        · unfold mPt
          rw [show (m2 zbt (fun _ => some (.int 3)) (m2 zcc (fun _ => some (.int 10)) (zaa 0))) [.im (.int i), .im (.int n), .im (.lst (xs.map D.int))] = some (.int (3 + 10 * (i : Int))) by walk_at "ev"]
          rfl
        · unfold mPt
          rw [show (m2 zbt (fun _ => some (.int 13)) (m2 zcc (fun _ => some (.int 10)) (zaa 0))) [.im (.int i), .im (.int n), .im (.lst (xs.map D.int))] = some (.int (13 + 10 * (i : Int))) by walk_at "ev"]
          rfl
      obtain ⟨d, ed, p, rfl, hp, hp3⟩ := zzi ((xs.drop (HT.sIx xs.length 0 (some (3 + 10 * (i : Int))))).take (HT.sIx xs.length xs.length (some (13 + 10 * (i : Int))) - HT.sIx xs.length 0 (some (3 + 10 * (i : Int))))) n (by
        rw [show (3 + 10 * (i : Int)) = ((3 + 10 * i : Nat) : Int) by omega, show (13 + 10 * (i : Int)) = ((3 + 10 * i + 10 : Nat) : Int) by omega]
        exact zu7 xs _ (by omega)) (fun y hy => hx y (zn4 hy)) n1 n60
      exact ⟨p, ⟨hp, Nat.le_trans hp3 (by decide)⟩, zd6 rfl rfl (zbr (zax (za8 es) (zax rfl rfl)) ed)⟩
    rw [List.length_range] at lp
    apply za0
    refine zbx (za8 ep) ?_
    walk_at "nrm"
    apply za0
    walk_at "if0"
    · intro _
      walk_at "if0"
      exact zdl ⟨⟨.never, 0, ps⟩, rfl, ⟨⟨fun h => absurd rfl h, fun p q => (hp p q).1, by show ps.length <= _; omega⟩, fun p q => (hp p q).2, by show ps.length <= 4; omega⟩, by show ps.length <= 3; omega⟩
    · intro _
      apply zb3
      walk_at "nrm"
      obtain ⟨w, hw, ew⟩ := zb5 (f := fun w : Wrd => D.str w.s) (xs := [.make, .make, .make, .may]) (i := a1 / 3 % 4) (Int.emod_nonneg _ (by decide)) (Int.emod_lt_of_pos _ (by decide))
      have q0 := Int.emod_nonneg a2 (show n ≠ 0 by omega)
      have q1 := Int.emod_lt_of_pos a2 (show 0 < n by omega)
      walk_at "if0"
      refine zdl ⟨⟨w, a2 % n, ps⟩, ?_, ⟨⟨fun _ => ⟨q0, by show a2 % n < _; omega⟩, fun p q => (hp p q).1, by show ps.length <= _; omega⟩, fun p q => (hp p q).2, by show ps.length <= 4; omega⟩, by show ps.length <= 3; omega⟩
      have hw2 := List.mem_of_getElem? hw
      simp only [List.mem_cons, List.not_mem_nil, or_false] at hw2
      rcases hw2 with rfl | rfl | rfl | rfl <;> rfl
theorem zu1 (r : Rul) (c n : Int) (n0 : 0 <= n) (n60 : n <= 60) (hr : RK n r) (h3 : r.ps.length <= 3) : ∃ d, zly [r.toD, .int c, .int n] = some d /\ ∃ r' : Rul, d = r'.toD /\ RK n r' := by
  apply zf4
  unfold b_19
  show wp _ [.im r.toD, .im (.int c), .im (.int n), .no, .no, .no, .no] _
  apply za0
  walk_at "if0"
  · intro _
    exact z2x rfl (zdl ⟨r, rfl, hr⟩)
  · intro hb
    have hb' : n ≠ 0 /\ c % 2 ≠ 0 := by simpa using hb
    have n1 : 1 <= n := by omega
    apply zb3
    walk_at "nrm"
    obtain ⟨d, em, xs, rfl, hl, hx⟩ := zi4 (c / 2) 124 (by decide) (by decide)
    obtain ⟨a0, h0, e0⟩ := zb5 (f := D.int) (xs := xs) (i := 0) (by decide) (by omega)
    obtain ⟨a1, h1, e1⟩ := zb5 (f := D.int) (xs := xs) (i := 1) (by decide) (by omega)
    obtain ⟨a2, h2, e2⟩ := zb5 (f := D.int) (xs := xs) (i := 2) (by decide) (by omega)
    obtain ⟨a3, h3', e3⟩ := zb5 (f := D.int) (xs := xs) (i := 3) (by decide) (by omega)
    walk_at "set"
    have t0 : 0 <= a0 % 61 := Int.emod_nonneg _ (by decide)
    have t1 : a0 % 61 < 61 := Int.emod_lt_of_pos _ (by decide)
    obtain ⟨its, ei, li, hin⟩ := zon (ys := xs) (n := n) hx n1 (t := (a0 % 61).toNat) (by omega) (by omega) (fi := zeh (zab (m2 za3 (mIx (zaf 3) (fun _ => some (.int 0))) (fun _ => some (.int 61))) (fun _ => some []))) (ρ := [.im r.toD, .im (.int c), .im (.int n), .im (.lst (xs.map D.int)), .no, .no, .no]) (js := [2, 3]) (zk5 (by walk_at "ev") t0 (by omega)) rfl
    apply za0
    refine zbx (za8 ei) ?_
    walk_at "nrm"
    apply za0
    refine zbx (zpl (zc2 (za8 (zft rfl rfl (hi := some (a1 % 64)) (by unfold mPt; rw [show (m2 za3 (mIx (zaf 3) (fun _ => some (.int 1))) (fun _ => some (.int 64))) [.im r.toD, .im (.int c), .im (.int n), .im (.lst (xs.map D.int)), .im (.lst (its.map itD)), .no, .no] = some (.int (a1 % 64)) by walk_at "ev"]; rfl))) rfl) (by rw [List.length_take, List.length_drop]; omega)) ?_
    walk_at "nrm"
    obtain ⟨wd, hwd, ew⟩ := zb5 (f := D.str) (xs := ["least", "most"]) (i := a2 % 2) (Int.emod_nonneg _ (by decide)) (Int.emod_lt_of_pos _ (by decide))
    have hw2 := List.mem_of_getElem? hwd
    simp only [List.mem_cons, List.not_mem_nil, or_false] at hw2
    apply za0
    refine zbx (by walk_at "ev") ?_
    walk_at "nrm"
    generalize hk : _ + a3 % 3 - 1 = k
    obtain ⟨p, ep, hp, hpn⟩ : ∃ p : Prt, p.toD = .tup [.str wd, .int k, .lst (its.map itD)] /\ p.Ok n.toNat /\ (nmP p).length <= 60 := by
      have : (its.map (·.1)).length <= 60 := by rw [List.length_map]; omega
      rcases hw2 with rfl | rfl
      · exact ⟨.least k its, rfl, ⟨hin, by omega⟩, this⟩
      · exact ⟨.most k its, rfl, ⟨hin, by omega⟩, this⟩
    rw [<- ep]
    have hlen := hr.len
    refine zfo (zha (zax (zaw rfl rfl rfl) (zax (zaw rfl rfl rfl) (zax (za8 (zlc (zaw rfl rfl rfl) (za8 (zax rfl rfl)) (by rw [List.length_map]; show _ + 1 <= _; omega))) rfl)))) (zdl ⟨⟨r.w, r.hd, r.ps ++ [p]⟩, ?_, ⟨⟨hr.ok.hd, fun q hq => ?_, ?_⟩, fun q hq => ?_, ?_⟩⟩)
    · show _ = D.tup [.str r.w.s, Rul.hdD ⟨r.w, r.hd, r.ps ++ [p]⟩, .lst ((r.ps ++ [p]).map Prt.toD)]
      rw [List.map_append]
      rfl
    · rcases List.mem_append.mp hq with h | h
      · exact hr.ok.ps q h
      · have : q = p := by simpa using h
        rw [this]; exact hp
    · show (r.ps ++ [p]).length <= _
      rw [List.length_append]
      show _ + 1 <= _
      omega
    · rcases List.mem_append.mp hq with h | h
      · exact hr.nm q h
      · have : q = p := by simpa using h
        rw [this]; exact hpn
    · show (r.ps ++ [p]).length <= _
      rw [List.length_append]
      show _ + 1 <= _
      omega
theorem zlh {r : Rul} (h : r.w ≠ .never) : atI [.str r.w.s, r.hdD, .lst (r.ps.map Prt.toD)] 1 = some (.int r.hd) := by
  obtain ⟨w, hd, ps⟩ := r
  cases w <;> first | rfl | exact absurd rfl h
theorem zss {r : Rul} (h : r.w = .never) : atI [.str r.w.s, r.hdD, .lst (r.ps.map Prt.toD)] 1 = some .non := by
  obtain ⟨w, hd, ps⟩ := r
  cases h
  rfl
theorem zzy (p : Prt) : (∃ t, (p = .inn t \/ p = .out t) /\ nmP p = [t]) \/ ∃ k its, (p = .least k its \/ p = .most k its) /\ nmP p = its.map (·.1) := by
  cases p with
  | inn t => exact .inl ⟨t, .inl rfl, rfl⟩
  | out t => exact .inl ⟨t, .inr rfl, rfl⟩
  | least k its => exact .inr ⟨k, its, .inl rfl, rfl⟩
  | most k its => exact .inr ⟨k, its, .inr rfl, rfl⟩
theorem zlk {n : Int} (r : Rul) (h : RK n r) (n60 : n <= 60) : ∃ d, m_5 [r.toD] = some d /\ ∃ L : List Int, d = .lst ((zay L).map D.int) /\ ∀ k, k ∈ L ↔ nmR r k := by
  have hl := h.len
  apply zf4
  unfold b_5
  show wp _ [.im r.toD, .no, .no] _
  walk_at "set"
  refine zfs (fun ρ' => ∃ L0 : List Int, ρ' = [.im r.toD, .own (L0.map D.int), .no] /\ L0.length <= 1 /\ ∀ k, k ∈ L0 ↔ (r.w ≠ .never /\ k = r.hd)) ?_ ?_
  · by_cases hn : r.w = .never
    · refine zbg (b := false) (zcb (zbi (zaw rfl rfl (zss hn)) rfl rfl)) (fun z => by cases z) (fun _ => zb3 (k_J ⟨[], rfl, by decide, fun k => ?_⟩))
      constructor
      · intro q; cases q
      · intro q; exact absurd hn q.1
    · refine zbg (b := true) (zcb (zbi (zaw rfl rfl (zlh hn)) rfl rfl)) (fun _ => ?_) (fun z => by cases z)
      refine zgr (zaw rfl rfl (zlh hn)) rfl (by decide) (k_J ⟨[r.hd], rfl, Nat.le_refl 1, fun k => ?_⟩)
      constructor
      · intro q; exact ⟨hn, by simpa using q⟩
      · intro q; rw [q.2]; exact List.mem_cons_self
  · rintro ρ' ⟨L0, rfl, hl0, hm0⟩
    apply za0
    refine zd2 r.ps Prt.toD (fun pre ρ => ∃ (L : List Int) (v : Sl), ρ = [.im r.toD, .own (L.map D.int), v] /\ (∀ k, k ∈ L ↔ (r.w ≠ .never /\ k = r.hd) \/ ∃ q ∈ pre, k ∈ nmP q) /\ L.length <= 1 + 60 * pre.length) rfl ⟨L0, .no, rfl, fun k => by rw [hm0]; simp, by simpa using hl0⟩ ?_ ?_
    · rintro pre p post ρ ex ⟨L, v, rfl, hm, hL⟩
      have hp : p ∈ r.ps := by rw [ex]; simp
      have hpl : pre.length < r.ps.length := by rw [ex]; simp
      have hq := h.nm p hp
      have fin : ∀ L' : List Int, L' = nmP p -> ∃ (L2 : List Int) (v : Sl), [Sl.im r.toD, .own (L.map D.int ++ L'.map D.int), .im p.toD] = [.im r.toD, .own (L2.map D.int), v] /\ (∀ k, k ∈ L2 ↔ (r.w ≠ .never /\ k = r.hd) \/ ∃ q ∈ pre ++ [p], k ∈ nmP q) /\ L2.length <= 1 + 60 * (pre ++ [p]).length := fun L' e =>
        ⟨L ++ L', .im p.toD, by rw [List.map_append], z5a hm (fun k => by rw [e]), by rw [e, List.length_append, List.length_append]; show _ <= 1 + 60 * (pre.length + 1); omega⟩
      have l1 : (L.map D.int).length < 16777216 := by rw [List.length_map]; omega
      refine ⟨_, rfl, ?_⟩
      walk_at "nrm"
      rcases zzy p with ⟨t, hpt, e⟩ | ⟨k, its, hpt, e⟩
      · rcases hpt with rfl | rfl
        · exact zbg (b := true) rfl (fun _ => zgr (zaw rfl rfl rfl) rfl l1 (fin [t] rfl)) (fun z => by cases z)
        · exact zbg (b := true) rfl (fun _ => zgr (zaw rfl rfl rfl) rfl l1 (fin [t] rfl)) (fun z => by cases z)
      · rw [e, List.length_map] at hq
        have ec : ∀ d : D, zbj 2 [] (zbc (mIx (zaf 2) (fun _ => some (.int 2)))) (zc3 (zby (zav 0) (zby (zav 1) zdh))) (fun _ => some true) (zaa 0) [.im r.toD, .own (L.map D.int), .im (.tup [d, .int k, .lst (its.map itD)])] = some (its.map fun z => D.int z.1) := fun d => ze9 its itD (fun z => D.int z.1) (zc2 (zaw rfl rfl rfl) rfl) (by omega) fun z _ => zd6 rfl rfl rfl
        have em : (its.map fun z => D.int z.1) = (its.map (·.1)).map D.int := by rw [List.map_map]; rfl
        have fin' := fin (its.map (·.1)) e.symm
        rw [<- em] at fin'
        rcases hpt with rfl | rfl
        · exact zbg (b := false) rfl (fun z => by cases z) (fun _ => ⟨_, zpx (za8 (ec _)) rfl (by rw [List.length_map, List.length_map]; omega), fin'⟩)
        · exact zbg (b := false) rfl (fun z => by cases z) (fun _ => ⟨_, zpx (za8 (ec _)) rfl (by rw [List.length_map, List.length_map]; omega), fin'⟩)
    · rintro ρ ⟨L, v, rfl, hm, hL⟩
      have hs : (zay L).length <= n.toNat := zr0 fun x hx => zht h.ok ((hm x).mp hx)
      refine ztq rfl ?_
      exact zfp (zwr rfl (by omega) (by omega)) (zc7 ⟨L, rfl, hm⟩)
theorem znj (es : List (Option Bool)) (k : Nat) (e : Option Bool) : (es.map shD).set k (shD e) = (es.set k e).map shD := by rw [List.map_set]
theorem z0w {n : Int} (r : Rul) (es : List (Option Bool)) (c : Int) (h : RK n r) (n60 : n <= 60) (hes : (es.length : Int) = n) : ∃ d, m_3 [r.toD, .lst (es.map shD), .int c] = some d /\ ∃ es' : List (Option Bool), d = .lst (es'.map shD) /\ (es'.length : Int) = n := by
  obtain ⟨d, eN, L, rfl, hL⟩ := zlk r h n60
  obtain ⟨d, em, xs, rfl, hl, hx⟩ := zi4 (c / 3) 4 (by decide) (by decide)
  have inN : ∀ k ∈ zay L, 0 <= k /\ k < n := fun k hk => by
    have := zht h.ok ((hL k).mp ((zdb k L).mp hk))
    omega
  apply zf4
  unfold b_3
  show wp _ [.im r.toD, .im (.lst (es.map shD)), .im (.int c), .no, .no, .no, .no, .no, .no, .no] _
  walk_at "set"
  walk_at "set"
  apply za0
  refine zkh (d := es.map shD) rfl ?_
  walk_at "nrm"
  apply za0
  refine zbg (zsh (zcb (zbi (zbi rfl rfl (zjs (by decide))) rfl (zll _ _))) (zcb (zbi rfl rfl (zp2 _ _)))) (fun _ => ?_) (fun hb => ?_)
  · exact zgi rfl (zc7 ⟨es, rfl, hes⟩)
  · have hne : zay L ≠ [] := by
      intro z
      rw [z] at hb
      simp at hb
    apply zb3
    walk_at "nrm"
    refine zfs (fun ρ' => ∃ (es' : List (Option Bool)) (v6 v7 v8 : Sl), ρ' = [.im r.toD, .im (.lst (es.map shD)), .im (.int c), .im (.lst (xs.map D.int)), .im (.lst ((zay L).map D.int)), .own (es'.map shD), v6, v7, v8, .no] /\ (es'.length : Int) = n) ?_ ?_
    · refine zd2 r.ps Prt.toD (fun _ ρ => ∃ (es' : List (Option Bool)) (v6 v7 v8 : Sl), ρ = [.im r.toD, .im (.lst (es.map shD)), .im (.int c), .im (.lst (xs.map D.int)), .im (.lst ((zay L).map D.int)), .own (es'.map shD), v6, v7, v8, .no] /\ (es'.length : Int) = n) rfl ⟨es, _, _, _, rfl, hes⟩ ?_ (fun ρ q => k_J q)
      rintro pre p post ρ ex ⟨es', v6, v7, v8, rfl, hl'⟩
      have hp : p ∈ r.ps := by rw [ex]; simp
      have hpo := h.ok.ps p hp
      have hpn := h.nm p hp
      refine ⟨_, rfl, ?_⟩
      walk_at "nrm"
      obtain ⟨b, eb⟩ : ∃ b : Bool, ∀ v7 v8 : Sl, ∀ s5 : Sl, (vOr (m2 dEq (mIx (zaf 6) (fun _ => some (.int 0))) (fun _ => some (.str "in"))) (m2 dEq (mIx (zaf 6) (fun _ => some (.int 0))) (fun _ => some (.str "least")))) [.im r.toD, .im (.lst (es.map shD)), .im (.int c), .im (.lst (xs.map D.int)), .im (.lst ((zay L).map D.int)), s5, .im p.toD, v7, v8, .no] = some (.bl b) := by
        cases p with
        | inn t => exact ⟨true, fun _ _ _ => rfl⟩
        | out t => exact ⟨false, fun _ _ _ => rfl⟩
        | least k its => exact ⟨true, fun _ _ _ => rfl⟩
        | most k its => exact ⟨false, fun _ _ _ => rfl⟩
      refine zfs (fun ρ' => ∃ x : Int, ρ' = [.im r.toD, .im (.lst (es.map shD)), .im (.int c), .im (.lst (xs.map D.int)), .im (.lst ((zay L).map D.int)), .own (es'.map shD), .im p.toD, .im (.lst [.int x]), v8, .no] /\ (nmP p = [x] \/ ∃ k its, p = .least k its \/ p = .most k its)) ?_ ?_
      · cases p with
        | inn t => exact zbx (za8 (zax (zaw rfl rfl rfl) rfl)) (k_J ⟨t, rfl, .inl rfl⟩)
        | out t => exact zbx (za8 (zax (zaw rfl rfl rfl) rfl)) (k_J ⟨t, rfl, .inl rfl⟩)
        | least k its => exact zbx (za8 (zax (zaw rfl rfl rfl) rfl)) (k_J ⟨k, rfl, .inr ⟨k, its, .inl rfl⟩⟩)
        | most k its => exact zbx (za8 (zax (zaw rfl rfl rfl) rfl)) (k_J ⟨k, rfl, .inr ⟨k, its, .inr rfl⟩⟩)
      · rintro ρ' ⟨x, rfl, hx7⟩
        refine zfs (fun ρ' => ρ' = [.im r.toD, .im (.lst (es.map shD)), .im (.int c), .im (.lst (xs.map D.int)), .im (.lst ((zay L).map D.int)), .own (es'.map shD), .im p.toD, .im (.lst ((nmP p).map D.int)), v8, .no]) ?_ ?_
        · cases p with
          | inn t =>
            rcases hx7 with e | ⟨k, its, e | e⟩
            · exact zbg (b := false) rfl (fun z => by cases z) (fun _ => zb3 (k_J (by rw [e]; rfl)))
            · cases e
            · cases e
          | out t =>
            rcases hx7 with e | ⟨k, its, e | e⟩
            · exact zbg (b := false) rfl (fun z => by cases z) (fun _ => zb3 (k_J (by rw [e]; rfl)))
            · cases e
            · cases e
          | least k its =>
            have hz : its.length <= 60 := by have : (its.map (·.1)).length <= 60 := hpn; rwa [List.length_map] at this
            refine zbg (b := true) rfl (fun _ => ?_) (fun z => by cases z)
            refine zbx (za8 (ze9 its itD (fun z => D.int z.1) (zc2 (zaw rfl rfl rfl) rfl) (by omega) fun z _ => zd6 rfl rfl rfl)) (k_J ?_)
            show _ = [_, _, _, _, _, _, _, Sl.im (D.lst ((its.map (·.1)).map D.int)), _, _]
            rw [List.map_map]
            rfl
          | most k its =>
            have hz : its.length <= 60 := by have : (its.map (·.1)).length <= 60 := hpn; rwa [List.length_map] at this
            refine zbg (b := true) rfl (fun _ => ?_) (fun z => by cases z)
            refine zbx (za8 (ze9 its itD (fun z => D.int z.1) (zc2 (zaw rfl rfl rfl) rfl) (by omega) fun z _ => zd6 rfl rfl rfl)) (k_J ?_)
            show _ = [_, _, _, _, _, _, _, Sl.im (D.lst ((its.map (·.1)).map D.int)), _, _]
            rw [List.map_map]
            rfl
        · rintro ρ' rfl
          refine zd2 (nmP p) D.int (fun _ ρ => ∃ (es' : List (Option Bool)) (v8 : Sl), ρ = [.im r.toD, .im (.lst (es.map shD)), .im (.int c), .im (.lst (xs.map D.int)), .im (.lst ((zay L).map D.int)), .own (es'.map shD), .im p.toD, .im (.lst ((nmP p).map D.int)), v8, .no] /\ (es'.length : Int) = n) rfl ⟨es', _, rfl, hl'⟩ ?_ ?_
          · rintro pre2 t post2 ρ ex2 ⟨es2, v8, rfl, hl2⟩
            have ht : t ∈ nmP p := by rw [ex2]; simp
            obtain ⟨t0, t1⟩ := zry hpo t ht
            refine ⟨_, rfl, ?_⟩
            walk_at "nrm"
            refine zn2 (k := t) (xs := es2.map shD) (eb _ _ _) rfl rfl t0 (by rw [List.length_map]; omega) ?_
            refine ⟨es2.set t.toNat (some b), .im (.int t), by rw [<- znj]; rfl, by rw [List.length_set]; exact hl2⟩
          · rintro ρ ⟨es2, v8, rfl, hl2⟩
            exact ⟨es2, _, _, _, rfl, hl2⟩
    · rintro ρ' ⟨es1, v6, v7, v8, rfl, hl1⟩
      refine zfs (fun ρ' => ∃ (es' : List (Option Bool)), ρ' = [.im r.toD, .im (.lst (es.map shD)), .im (.int c), .im (.lst (xs.map D.int)), .im (.lst ((zay L).map D.int)), .own (es'.map shD), v6, v7, v8, .no] /\ (es'.length : Int) = n) ?_ ?_
      · by_cases hn : r.w = .never
        · exact zbg (b := false) (zcb (zbi (zaw rfl rfl (zss hn)) rfl rfl)) (fun z => by cases z) (fun _ => zb3 (k_J ⟨es1, rfl, hl1⟩))
        · obtain ⟨h0, h1⟩ := h.ok.hd hn
          refine zbg (b := true) (zcb (zbi (zaw rfl rfl (zlh hn)) rfl rfl)) (fun _ => ?_) (fun z => by cases z)
          refine zn2 (k := r.hd) (xs := es1.map shD) rfl (zaw rfl rfl (zlh hn)) rfl h0 (by rw [List.length_map]; omega) ?_
          exact k_J ⟨es1.set r.hd.toNat (some false), by rw [<- znj]; rfl, by rw [List.length_set]; exact hl1⟩
      · rintro ρ' ⟨es2, rfl, hl2⟩
        obtain ⟨a3, h3, e3⟩ := zb5 (f := D.int) (xs := xs) (i := 3) (by decide) (by omega)
        have es3 : mSl (zaa 3) (fun _ => some none) (mPt (m2 za3 (mIx (zaf 3) (fun _ => some (.int 3))) (fun _ => some (.int 3)))) [.im r.toD, .im (.lst (es.map shD)), .im (.int c), .im (.lst (xs.map D.int)), .im (.lst ((zay L).map D.int)), .own (es2.map shD), v6, v7, v8, .no] = some (((xs.drop (HT.sIx xs.length 0 none)).take (HT.sIx xs.length xs.length (some (a3 % 3)) - HT.sIx xs.length 0 none)).map D.int) := by
          refine zft rfl rfl ?_
          unfold mPt
          rw [show (m2 za3 (mIx (zaf 3) (fun _ => some (.int 3))) (fun _ => some (.int 3))) [.im r.toD, .im (.lst (es.map shD)), .im (.int c), .im (.lst (xs.map D.int)), .im (.lst ((zay L).map D.int)), .own (es2.map shD), v6, v7, v8, .no] = some (.int (a3 % 3)) from zbi (zaw rfl rfl e3) rfl (zjs (by decide))]
          rfl
        apply za0
        refine zd2 _ D.int (fun _ ρ => ∃ (es' : List (Option Bool)) (v9 : Sl), ρ = [.im r.toD, .im (.lst (es.map shD)), .im (.int c), .im (.lst (xs.map D.int)), .im (.lst ((zay L).map D.int)), .own (es'.map shD), v6, v7, v8, v9] /\ (es'.length : Int) = n) (zc2 (za8 es3) rfl) ⟨es2, _, rfl, hl2⟩ ?_ ?_
        · rintro pre2 x post2 ρ ex2 ⟨es4, v9, rfl, hl4⟩
          have hlen : (0 : Int) < ((zay L).length : Int) := by
            have := List.length_pos_iff.mpr hne
            omega
          obtain ⟨t, ht, et⟩ := zb5 (f := D.int) (xs := zay L) (i := x % ((zay L).length : Int)) (Int.emod_nonneg _ (by omega)) (Int.emod_lt_of_pos _ hlen)
          obtain ⟨t0, t1⟩ := inN t (List.mem_of_getElem? ht)
          refine ⟨_, rfl, ?_⟩
          walk_at "nrm"
          refine zn2 (k := t) (xs := es4.map shD) (d := .non) rfl (zaw rfl (zbi rfl (zbr rfl (zl4 _ _)) (zjs hlen)) et) rfl t0 (by rw [List.length_map]; omega) ?_
          refine ⟨es4.set t.toNat none, .im (.int x), by rw [<- znj]; rfl, by rw [List.length_set]; exact hl4⟩
        · rintro ρ ⟨es4, v9, rfl, hl4⟩
          exact zgi rfl (zc7 ⟨es4, rfl, hl4⟩)
theorem zuo (p : Prt) : zmf [p.toD] = some p.obj := by
  cases p <;> rfl
theorem zp7 {es : List (Option Bool)} {its : List (Int × Int)} (h : InN es.length its) (hz : its.length <= 100000) : zlb [.lst (its.map itD), .lst (es.map shD)] = some (.int (za1 (· == some true) es its)) := by
  refine zcu (zcx (zbr (zax (za8 (zf9 its itD (fun z => es.getD z.1.toNat none == some true) (fun z => D.int z.2) rfl (by omega) fun z hz' => ?_)) rfl) (zkw (fun t => es.getD t.toNat none == some true) its)))
  exact zfr rfl (zcb (zbi (zaw rfl rfl (zds (h z hz').1 (h z hz').2.1)) rfl (zh2 _ _))) fun _ => rfl
theorem zoq {es : List (Option Bool)} {its : List (Int × Int)} (h : InN es.length its) (hz : its.length <= 100000) : zk4 [.lst (its.map itD), .lst (es.map shD)] = some (.int (za1 (fun e => !(e == some false)) es its)) := by
  refine zcu (zcx (zbr (zax (za8 (zf9 its itD (fun z => !(es.getD z.1.toNat none == some false)) (fun z => D.int z.2) rfl (by omega) fun z hz' => ?_)) rfl) (zkw (fun t => !(es.getD t.toNat none == some false)) its)))
  exact zfr rfl (zcb (zbi (zaw rfl rfl (zds (h z hz').1 (h z hz').2.1)) rfl (zl7 _ _))) fun _ => rfl
theorem z1x {es : List (Option Bool)} {fo : List Sl -> Option D} {fa : List Sl -> Option (List D)} {ρ : List Sl} (p : Prt) (h : p.Ok es.length) (ho : fo ρ = some p.obj) (ha : fa ρ = some [.lst (es.map shD)]) :
    zcr (zce "In" "sure" m_10 fo fa) (zcr (zce "Out" "sure" m_12 fo fa) (zcr (zce "Least" "sure" m_14 fo fa) (zce "Most" "sure" m_15 fo fa))) ρ = some (.bl (p.sure es)) := by
  cases p with
  | inn t => exact zif ((zfw ho rfl ha).trans (zcu (zcx (zbi (zaw rfl rfl (zds h.1 h.2)) rfl (zh2 _ _)))))
  | out t => exact zea (zd7 ho (by decide)) (zif ((zfw ho rfl ha).trans (zcu (zcx (zbi (zaw rfl rfl (zds h.1 h.2)) rfl (zh2 _ _))))))
  | least k its => exact zea (zd7 ho (by decide)) (zea (zd7 ho (by decide)) (zif ((zfw ho rfl ha).trans (zcu (zcx (zbi (zbr rfl (zp7 h.1 h.2)) rfl rfl))))))
  | most k its => exact zea (zd7 ho (by decide)) (zea (zd7 ho (by decide)) (zea (zd7 ho (by decide)) ((zfw ho rfl ha).trans (zcu (zcx (zbi (zbr rfl (zoq h.1 h.2)) rfl rfl))))))
theorem z5i {n : Nat} {l : List Int} (hr : l.Pairwise (· < ·)) (h : ∀ x ∈ l, 0 <= x /\ x < (n : Int)) : l.length <= n := by
  have e : zay l = l := zit _ _ (zfi l) hr fun k => zdb k l
  have := zr0 h
  rwa [e] at this
theorem z1k {n : Int} (r : Rul) (h : RK n r) : zl8 [r.toD] = some r.toD := by
  have hl := h.len
  apply zeg
  unfold b_23
  show wp _ [.im r.toD, .no, .no] _
  walk_at "set"
  apply za0
  refine zd2 r.ps Prt.toD (fun pr ρ => ∃ v2, ρ = [.im r.toD, .own (pr.map Prt.toD), v2]) rfl ⟨_, rfl⟩ ?_ ?_
  · rintro pr p po ρ ex2 ⟨v2, rfl⟩
    have hpp : pr.length < r.ps.length := by rw [ex2]; simp
    refine ⟨_, rfl, ?_⟩
    walk_at "nrm"
    refine zfs (fun ρ' => ρ' = [.im r.toD, .own (pr.map Prt.toD), .im p.toD]) ?_ ?_
    · cases p with
      | inn t => exact zbg (b := false) rfl (fun z => by cases z) (fun _ => zb3 (k_J rfl))
      | out t => exact zbg (b := false) rfl (fun z => by cases z) (fun _ => zb3 (k_J rfl))
      | least k its => exact zbg (b := true) rfl (fun _ => zbx (zha (zax (zaw rfl rfl rfl) (zax (zaw rfl rfl rfl) (zax (za8 (zc2 (zaw rfl rfl rfl) rfl)) rfl)))) (k_J rfl)) (fun z => by cases z)
      | most k its => exact zbg (b := true) rfl (fun _ => zbx (zha (zax (zaw rfl rfl rfl) (zax (zaw rfl rfl rfl) (zax (za8 (zc2 (zaw rfl rfl rfl) rfl)) rfl)))) (k_J rfl)) (fun z => by cases z)
    · rintro ρ' rfl
      refine zgr rfl rfl (by rw [List.length_map]; omega) ?_
      exact ⟨.im p.toD, by rw [List.map_append]; rfl⟩
  · rintro ρ ⟨v2, rfl⟩
    refine ztq rfl ?_
    exact zfo (zha (zax (zaw rfl rfl rfl) (zax (zaw rfl rfl rfl) (zax rfl rfl)))) (zdl rfl)
theorem zzp {es : List (Option Bool)} (p : Prt) (h : p.Ok es.length) : zkc [p.toD, .lst (es.map shD)] = some (.bl (p.sure es)) := by
  cases p with
  | inn t => exact zcu (zhy (zh3 rfl (zcx (zbi (zaw rfl (zaw rfl rfl rfl) (zds h.1 h.2)) rfl (zh2 _ _)))))
  | out t => exact zcu (zfm (zfn rfl rfl) (zhy (zh3 rfl (zcx (zbi (zaw rfl (zaw rfl rfl rfl) (zds h.1 h.2)) rfl (zh2 _ _))))))
  | least k its =>
    refine zcu (zfm (zfn rfl rfl) (zfm (zfn rfl rfl) (zhy (zh3 rfl (zcx (zbi (zbr (zax (za8 (zf9 its itD (fun z => es.getD z.1.toNat none == some true) (fun z => D.int z.2) (zc2 (zaw rfl rfl rfl) rfl) (by have := h.2; omega) fun z hz => ?_)) rfl) (zkw (fun t => es.getD t.toNat none == some true) its)) (zaw rfl rfl rfl) rfl))))))
    have hb := h.1 z hz
    exact zfr rfl (zcb (zbi (zaw rfl rfl (zds hb.1 hb.2.1)) rfl (zh2 _ _))) fun _ => rfl
  | most k its =>
    refine zcu (zfm (zfn rfl rfl) (zfm (zfn rfl rfl) (zfm (zfn rfl rfl) (zcx (zbi (zbr (zax (za8 (zf9 its itD (fun z => !(es.getD z.1.toNat none == some false)) (fun z => D.int z.2) (zc2 (zaw rfl rfl rfl) rfl) (by have := h.2; omega) fun z hz => ?_)) rfl) (zkw (fun t => !(es.getD t.toNat none == some false)) its)) (zaw rfl rfl rfl) rfl)))))
    have hb := h.1 z hz
    exact zfr rfl (zcb (zbi (zaw rfl rfl (zds hb.1 hb.2.1)) rfl (zl7 _ _))) fun _ => rfl
theorem zs4 {es : List (Option Bool)} (r : Rul) (h : r.Ok es.length) : zju [r.toD, .lst (es.map shD)] = some (.bl (r.surely es)) := by
  have hb : ∀ ρ : List Sl, ρ = [.im r.toD, .im (.lst (es.map shD))] -> (zat zhu (zab (zas (zbj 1 [1] (zbc (mIx (zaf 0) (fun _ => some (.int 2)))) (zav 0) (fun _ => some true) (zat zkc (zab (zaa 0) (zab (zaa 1) (fun _ => some [])))))) (fun _ => some []))) ρ = some (.bl (r.bodySure es)) := fun ρ e => by
    subst e
    exact zbr (zax (za8 (ze9 r.ps Prt.toD (fun p => D.bl (p.sure es)) (zc2 (zaw rfl rfl rfl) rfl) (by have := h.len; omega) fun p hp => zd6 rfl rfl (zbr rfl (zzp p (h.ps p hp))))) rfl) (all_map _ _)
  have hh := h.hd
  have hb := hb _ rfl
  obtain ⟨w, hd, ps⟩ := r
  cases w with
  | may => exact zcu (zhy (zh3 (zpc rfl) rfl))
  | never => exact zcu (zfm (zfn (zhd rfl (ztc rfl)) rfl) (zcx hb))
  | make =>
    obtain ⟨h0, h1⟩ := hh (fun z => by cases z)
    have e : mB (m2 zew (mIx (zaf 1) (mIx (zaf 0) (fun _ => some (.int 1)))) (fun _ => some (.bl false))) [.im (Rul.toD ⟨.make, hd, ps⟩), .im (.lst (es.map shD))] = some (!(es.getD hd.toNat none == some false)) :=
      zcb (zbi (zaw rfl (zaw rfl rfl rfl) (zds h0 h1)) rfl (zl7 _ _))
    cases hc : (es.getD hd.toNat none == some false) with
    | true =>
      rw [hc] at e
      refine (zcu (zfm (zfn (zhd rfl (zl0 rfl e)) rfl) (zcx hb))).trans ?_
      show _ = some (D.bl ((es.getD hd.toNat none == some false) && _))
      rw [hc]
      rfl
    | false =>
      rw [hc] at e
      refine (zcu (zhy (zh3 (zhd rfl (zl0 rfl e)) rfl))).trans ?_
      show _ = some (D.bl ((es.getD hd.toNat none == some false) && _))
      rw [hc]
      rfl
noncomputable def prD (z : Int × Bool) : D := .tup [.int z.1, .bl z.2]
theorem zks (es : List (Option Bool)) (t : Int) : dIs (shD (es.getD t.toNat none)) .non = some (.bl (opn es t)) := by
  unfold opn
  cases es.getD t.toNat none with
  | none => rfl
  | some b => cases b <;> rfl
theorem zj3 {α β : Type} (f : α -> List β) (xs : List α) (x : α) : (xs ++ [x]).flatMap f = xs.flatMap f ++ f x := by
  rw [List.flatMap_append, List.flatMap_cons, List.flatMap_nil, List.append_nil]
noncomputable def wt (its : List (Int × Int)) (j : Int) : Int := ((its.filter fun z => z.1 == j).map (·.2)).sum
noncomputable def kW (W : List (Int × Int)) : List Key := W.map fun z => .inl z.1
noncomputable def xW (W : List (Int × Int)) : List D := W.map fun z => .int z.2
noncomputable def zem (W : List (Int × Int)) (j : Int) : Int := ((W.find? fun z => z.1 == j).map (·.2)).getD 0
noncomputable def upW (W : List (Int × Int)) (j v : Int) : List (Int × Int) := if W.any (fun z => z.1 == j) then W.map (fun z => if z.1 = j then (z.1, v) else z) else W ++ [(j, v)]
theorem zpi (W : List (Int × Int)) (j : Int) : zff (kW W) (.inl j) = W.any fun z => z.1 == j := by
  unfold zff kW
  rw [List.any_map]
  congr 1
  funext z
  exact Bool.eq_iff_iff.mpr (by simp)
theorem zyu (W : List (Int × Int)) (j v : Int) : zex (kW W) (.inl j) = kW (upW W j v) := by
  unfold zex upW
  rw [zpi]
  split
  · unfold kW
    rw [List.map_map]
    refine List.map_congr_left fun z _ => ?_
    show _ = Sum.inl (if z.1 = j then (z.1, v) else z).1
    split <;> rfl
  · unfold kW
    rw [List.map_append]
    rfl
theorem zur (W : List (Int × Int)) (j v : Int) : zda (kW W) (xW W) (.inl j) (.int v) = xW (upW W j v) := by
  unfold zda upW
  rw [zpi]
  split
  · rename_i hq
    clear hq
    unfold kW xW
    induction W with
    | nil => rfl
    | cons z W ih =>
      rw [List.map_cons, List.map_cons, List.zipWith_cons_cons, ih, List.map_cons, List.map_cons]
      congr 1
      by_cases h : z.1 = j
      · rw [if_pos (by rw [h]), if_pos h]
      · rw [if_neg fun q => h (Sum.inl.inj q), if_neg h]
  · unfold xW
    rw [List.map_append]
    rfl
theorem zsb (W : List (Int × Int)) (j : Int) : zek (kW W) (xW W) (.inl j) = (W.find? fun z => z.1 == j).map fun z => D.int z.2 := by
  unfold zek kW xW
  induction W with
  | nil => rfl
  | cons z W ih =>
    rw [List.map_cons, List.map_cons, List.zip_cons_cons]
    by_cases h : z.1 = j
    · rw [List.find?_cons_of_pos (by simp [h]), List.find?_cons_of_pos (by simp [h])]
      rfl
    · rw [List.find?_cons_of_neg (by simp [h]), List.find?_cons_of_neg (by simp [h])]
      exact ih
theorem zvg (W : List (Int × Int)) (j : Int) : (zek (kW W) (xW W) (.inl j)).getD (.int 0) = .int (zem W j) := by
  rw [zsb]
  unfold zem
  cases (W.find? fun z => z.1 == j) <;> rfl
noncomputable def zjb (W : List (Int × Int)) (z : Int × Int) : List (Int × Int) := upW W z.1 (zem W z.1 + z.2)
noncomputable def wts (its : List (Int × Int)) : List (Int × Int) := its.foldl zjb []
structure WOk (W its : List (Int × Int)) : Prop where
  nd : (W.map (·.1)).Nodup
  ks : ∀ j, j ∈ W.map (·.1) ↔ j ∈ its.map (·.1)
  vs : ∀ z ∈ W, z.2 = wt its z.1
  ln : W.length <= its.length
theorem zr7 (its : List (Int × Int)) (z : Int × Int) (j : Int) : wt (its ++ [z]) j = wt its j + if z.1 = j then z.2 else 0 := by
  unfold wt
  rw [List.filter_append, List.map_append, List.sum_append]
  congr 1
  by_cases h : z.1 = j
  · rw [if_pos h, List.filter_cons_of_pos (by simp [h])]; simp
  · rw [if_neg h, List.filter_cons_of_neg (by simp [h])]; rfl
theorem zmz {its : List (Int × Int)} {j : Int} (h : j ∉ its.map (·.1)) : wt its j = 0 := by
  unfold wt
  rw [List.filter_eq_nil_iff.mpr fun z hz => by
    simp only [beq_iff_eq]
    exact fun e => h (e ▸ List.mem_map.mpr ⟨z, hz, rfl⟩)]
  rfl
theorem WOk.get {W its : List (Int × Int)} (h : WOk W its) (j : Int) : zem W j = wt its j := by
  unfold zem
  cases e : W.find? (fun z => z.1 == j) with
  | none =>
    have hn : j ∉ W.map (·.1) := fun q => by
      obtain ⟨z, hz, ez⟩ := List.mem_map.mp q
      have := List.find?_eq_none.mp e z hz
      simp [ez] at this
    rw [zmz fun q => hn ((h.ks j).mpr q)]
    rfl
  | some z =>
    have hz := List.mem_of_find?_eq_some e
    have ez : z.1 = j := by have := List.find?_some e; simpa using this
    show z.2 = _
    rw [h.vs z hz, ez]
theorem WOk.step {W its : List (Int × Int)} (h : WOk W its) (z : Int × Int) : WOk (zjb W z) (its ++ [z]) := by
  unfold zjb upW
  rw [h.get]
  by_cases hh : W.any (fun y => y.1 == z.1) = true
  · rw [if_pos hh]
    have e1 : (W.map fun y => if y.1 = z.1 then (y.1, wt its z.1 + z.2) else y).map (·.1) = W.map (·.1) := by
      rw [List.map_map]
      refine List.map_congr_left fun y _ => ?_
      show (if y.1 = z.1 then (y.1, wt its z.1 + z.2) else y).1 = _
      split <;> rfl
    refine ⟨by rw [e1]; exact h.nd, fun j => ?_, fun y hy => ?_, by rw [List.length_map, List.length_append]; have := h.ln; omega⟩
    · rw [e1, h.ks j, List.map_append, List.mem_append]
      refine ⟨.inl, fun q => q.elim id fun q => ?_⟩
      obtain ⟨y, hy, e⟩ := List.any_eq_true.mp hh
      have ej : j = z.1 := by simpa using q
      rw [ej, <- (beq_iff_eq.mp e)]
      exact (h.ks _).mp (List.mem_map.mpr ⟨y, hy, rfl⟩)
    · obtain ⟨x, hx, ex⟩ := List.mem_map.mp hy
      rw [zr7]
      by_cases e : x.1 = z.1
      · rw [if_pos e] at ex
        rw [<- ex]
        show wt its z.1 + z.2 = wt its x.1 + _
        rw [if_pos e.symm, e]
      · rw [if_neg e] at ex
        rw [<- ex, if_neg fun q => e q.symm, h.vs x hx]
        omega
  · rw [if_neg hh]
    have hn : z.1 ∉ W.map (·.1) := fun q => hh (by
      obtain ⟨y, hy, e⟩ := List.mem_map.mp q
      exact List.any_eq_true.mpr ⟨y, hy, by simp [e]⟩)
    refine ⟨?_, fun j => ?_, fun y hy => ?_, by rw [List.length_append, List.length_append]; have := h.ln; show _ + 1 <= _ + 1; omega⟩
    · rw [List.map_append]
      refine List.nodup_append.mpr ⟨h.nd, by simp, fun a ha b hb => ?_⟩
      have : b = z.1 := by simpa using hb
      rw [this]
      exact fun q => hn (q ▸ ha)
    · rw [List.map_append, List.map_append, List.mem_append, List.mem_append, h.ks j]
      rfl
    · rw [zr7]
      rcases List.mem_append.mp hy with q | q
      · have ne : z.1 ≠ y.1 := fun e => hn (e ▸ List.mem_map.mpr ⟨y, q, rfl⟩)
        rw [if_neg ne, h.vs y q]
        omega
      · have : y = (z.1, wt its z.1 + z.2) := by simpa using q
        rw [this, if_pos rfl]
theorem ziu (its : List (Int × Int)) : WOk (wts its) its := by
  have go : ∀ (post pre W : List (Int × Int)), WOk W pre -> WOk (post.foldl zjb W) (pre ++ post) := by
    intro post
    induction post with
    | nil => intro pre W h; rw [List.append_nil]; exact h
    | cons z post ih =>
      intro pre W h
      have := ih (pre ++ [z]) (zjb W z) (h.step z)
      rw [List.append_assoc] at this
      exact this
  exact go its [] [] ⟨List.nodup_nil, fun _ => Iff.rfl, fun z h => (List.not_mem_nil h).elim, Nat.le_refl _⟩
theorem zux (its : List (Int × Int)) (hl : its.length <= 100000) : zmv [.lst (its.map itD)] = some (.kd (kW (wts its)) (xW (wts its))) := by
  apply zeg
  unfold b_21
  show wp _ [.im (.lst (its.map itD)), .no, .no, .no] _
  apply za0
  refine zs1 (o := .nx [.im (.lst (its.map itD)), .ownd (kW []) (xW []), .no, .no]) rfl ?_
  apply za0
  refine zd2 its itD (fun pre ρ => ∃ a2 a3, ρ = [.im (.lst (its.map itD)), .ownd (kW (wts pre)) (xW (wts pre)), a2, a3]) rfl ⟨_, _, rfl⟩ ?_ ?_
  · rintro pre z post ρ he ⟨a2, a3, rfl⟩
    refine ⟨_, rfl, ?_⟩
    show wp _ [.im (.lst (its.map itD)), .ownd (kW (wts pre)) (xW (wts pre)), .im (.int z.1), .im (.int z.2)] _
    have hp : pre.length <= its.length := by rw [he, List.length_append]; omega
    have hw := (ziu pre).ln
    have ew : wts (pre ++ [z]) = upW (wts pre) z.1 (zem (wts pre) z.1 + z.2) := by
      unfold wts
      rw [List.foldl_append]
      rfl
    rw [ew]
    generalize wts pre = W at hw
    have eg : zj7 1 (zaa 2) (fun _ => some (.int 0)) [.im (.lst (its.map itD)), .ownd (kW W) (xW W), .im (.int z.1), .im (.int z.2)] = some (.int (zem W z.1)) := by
      show some ((zek (kW W) (xW W) (.inl z.1)).getD (.int 0)) = _
      rw [zvg]
    refine zs1 (o := .nx [.im (.lst (its.map itD)), .ownd (kW (upW W z.1 (zem W z.1 + z.2))) (xW (upW W z.1 (zem W z.1 + z.2))), .im (.int z.1), .im (.int z.2)]) ?_ ⟨_, _, rfl⟩
    unfold zio
    rw [zbi eg rfl zrm, Option.bind_some]
    show (if (kW W).length < 16777216 then some (Fl.nx [.im (.lst (its.map itD)), .ownd (zex (kW W) (.inl z.1)) (zda (kW W) (xW W) (.inl z.1) (.int (zem W z.1 + z.2))), .im (.int z.1), .im (.int z.2)]) else none) = _
    rw [if_pos (by unfold kW; rw [List.length_map]; omega), zyu W z.1 (zem W z.1 + z.2), zur]
  · rintro ρ ⟨a2, a3, rfl⟩
    refine z1z rfl ?_
    exact zfo rfl (zdl rfl)
noncomputable def opI (es : List (Option Bool)) (its : List (Int × Int)) : List (Int × Int) := its.filter fun z => opn es z.1
noncomputable def hv (es : List (Option Bool)) (its : List (Int × Int)) (lack : Int) : List Int := ((wts (opI es its)).filter fun z => decide (z.2 ≥ lack)).map (·.1)
theorem zpp {es : List (Option Bool)} {its : List (Int × Int)} (h : InN es.length its) (hl : its.length <= 100000) (lack : Int) : m_8 [.lst (its.map itD), .lst (es.map shD), .int lack] = some (.lst ((hv es its lack).map D.int)) := by
  have hf : (opI es its).length <= its.length := List.length_filter_le _ _
  have ok := ziu (opI es its)
  have hw := ok.ln
  apply zeg
  unfold b_8
  show wp _ [.im (.lst (its.map itD)), .im (.lst (es.map shD)), .im (.int lack), .no] _
  apply za0
  refine zbx (d := .kd (kW (wts (opI es its))) (xW (wts (opI es its)))) (zbr (zax (za8 (ds := (opI es its).map itD) ?_) rfl) (zux _ (by omega))) ?_
  · refine zf9 its itD (fun z => opn es z.1) itD rfl (by omega) fun z hz => ?_
    have hb := h z hz
    exact zfr rfl (zcb (zbi (zaw rfl (zaw rfl rfl rfl) (zds hb.1 hb.2.1)) rfl (zks es z.1))) fun _ => rfl
  generalize hW : wts (opI es its) = W at ok hw
  refine zfp (d := (hv es its lack).map D.int) ?_ (zc7 rfl)
  unfold hv
  rw [hW, List.map_map]
  refine zf9 W (fun z => D.int z.1) (fun z => decide (z.2 ≥ lack)) (D.int ∘ (·.1)) ?_ (by omega) fun z hz => ?_
  · show some ((kW W).map kD) = _
    unfold kW
    rw [List.map_map]
    rfl
  · refine zfr rfl (zcb (zbi (x := .int z.2) (y := .int lack) ?_ rfl zrs)) fun _ => rfl
    show zek (kW W) (xW W) (.inl z.1) = _
    rw [zsb, zl6 W ok.nd z hz]
    rfl
noncomputable def tps (es : List (Option Bool)) : Prt -> List (Int × Bool)
  | .inn t => if opn es t then [(t, true)] else []
  | .out t => if opn es t then [(t, false)] else []
  | .least k its => (hv es its (k - za1 (· == some true) es its)).map fun t => (t, true)
  | .most k its => (hv es its (za1 (fun e => !(e == some false)) es its - k)).map fun t => (t, false)
theorem zk0 {es : List (Option Bool)} {its : List (Int × Int)} (lack : Int) : (hv es its lack).length <= its.length := by
  unfold hv
  rw [List.length_map]
  have h1 := List.length_filter_le (fun z : Int × Int => decide (z.2 ≥ lack)) (wts (opI es its))
  have h2 := (ziu (opI es its)).ln
  have h3 : (opI es its).length <= its.length := List.length_filter_le _ _
  omega
theorem zzr {es : List (Option Bool)} {fo : List Sl -> Option D} {fa : List Sl -> Option (List D)} {ρ : List Sl} (p : Prt) (h : p.Ok es.length) (ho : fo ρ = some p.obj) (ha : fa ρ = some [.lst (es.map shD)]) :
    zcr (zce "In" "tips" m_11 fo fa) (zcr (zce "Out" "tips" m_13 fo fa) (zcr (zce "Least" "tips" m_6 fo fa) (zce "Most" "tips" m_7 fo fa))) ρ = some (.lst ((tps es p).map prD)) := by
  cases p with
  | inn t =>
    refine zif ((zfw ho rfl ha).trans (zcu (zcx (zmx (zcb (zbi (zaw rfl rfl (zds h.1 h.2)) rfl (zks es t))) (fun e => ?_) fun e => ?_))))
    · show _ = some (D.lst ((if opn es t then [(t, true)] else []).map prD))
      rw [if_pos e]
      rfl
    · show _ = some (D.lst ((if opn es t then [(t, true)] else []).map prD))
      rw [if_neg (by rw [e]; exact Bool.false_ne_true)]
      rfl
  | out t =>
    refine zea (zd7 ho (by decide)) (zif ((zfw ho rfl ha).trans (zcu (zcx (zmx (zcb (zbi (zaw rfl rfl (zds h.1 h.2)) rfl (zks es t))) (fun e => ?_) fun e => ?_)))))
    · show _ = some (D.lst ((if opn es t then [(t, false)] else []).map prD))
      rw [if_pos e]
      rfl
    · show _ = some (D.lst ((if opn es t then [(t, false)] else []).map prD))
      rw [if_neg (by rw [e]; exact Bool.false_ne_true)]
      rfl
  | least k its =>
    have hl := zk0 (es := es) (its := its) (k - za1 (· == some true) es its)
    have h2 := h.2
    refine zea (zd7 ho (by decide)) (zea (zd7 ho (by decide)) (zif ((zfw ho rfl ha).trans ?_)))
    apply zeg
    unfold b_6
    show wp _ [.im (Prt.obj (.least k its)), .im (.lst (es.map shD)), .no] _
    apply za0
    refine zbx (d := .int (k - za1 (· == some true) es its)) (zbi rfl (zbr rfl (zp7 h.1 h.2)) zlp) ?_
    refine zfp (d := (tps es (.least k its)).map prD) ?_ (zc7 rfl)
    show _ = some (((hv es its _).map fun t => (t, true)).map prD)
    rw [List.map_map]
    exact ze9 (hv es its (k - za1 (· == some true) es its)) D.int _ (zc2 (zbr rfl (zpp h.1 h.2 _)) rfl) (by omega) fun t _ => zd6 rfl rfl rfl
  | most k its =>
    have hl := zk0 (es := es) (its := its) (za1 (fun e => !(e == some false)) es its - k)
    have h2 := h.2
    refine zea (zd7 ho (by decide)) (zea (zd7 ho (by decide)) (zea (zd7 ho (by decide)) ((zfw ho rfl ha).trans ?_)))
    apply zeg
    unfold b_7
    show wp _ [.im (Prt.obj (.most k its)), .im (.lst (es.map shD)), .no] _
    apply za0
    refine zbx (d := .int (za1 (fun e => !(e == some false)) es its - k)) (zbi (zbr rfl (zoq h.1 h.2)) rfl zlp) ?_
    refine zfp (d := (tps es (.most k its)).map prD) ?_ (zc7 rfl)
    show _ = some (((hv es its _).map fun t => (t, false)).map prD)
    rw [List.map_map]
    exact ze9 (hv es its (za1 (fun e => !(e == some false)) es its - k)) D.int _ (zc2 (zbr rfl (zpp h.1 h.2 _)) rfl) (by omega) fun t _ => zd6 rfl rfl rfl
noncomputable def gdL (r : Rul) : List Prt := match r.w with
  | .may => [.least 1 []]
  | .make => r.ps ++ [.out r.hd]
  | .never => r.ps
theorem z1b {n : Nat} (r : Rul) (h : r.Ok n) : zkj [r.toD] = some (.lst ((gdL r).map Prt.obj)) := by
  have hl := h.len
  have eb : zls [r.toD] = some (r.ps.map Prt.obj) := z38 (congrArg (Option.map Fl.rtO) (ze9 r.ps Prt.toD Prt.obj rfl (by omega) fun p _ => zd6 rfl rfl (zbr rfl (zuo p))))
  obtain ⟨w, hd, ps⟩ := r
  apply zeg
  unfold b_24
  show wp _ [.im (Rul.toD ⟨w, hd, ps⟩), .no] _
  cases w with
  | may =>
    apply za0
    refine zbg (b := true) rfl (fun _ => ?_) fun e => by cases e
    exact zfp rfl (zc7 rfl)
  | make =>
    apply za0
    refine zbg (b := false) rfl (fun e => by cases e) fun _ => zb3 ?_
    apply za0
    refine zkh (zqk (zax rfl rfl) eb) ?_
    show wp _ [.im (Rul.toD ⟨.make, hd, ps⟩), .own (ps.map Prt.obj)] _
    apply za0
    refine zbg (b := true) rfl (fun _ => ?_) fun e => by cases e
    refine zgr (d := Prt.obj (.out hd)) rfl rfl (by rw [List.length_map]; exact Nat.lt_of_le_of_lt hl (by decide)) ?_
    refine zgi (d := ps.map Prt.obj ++ [Prt.obj (.out hd)]) rfl (zc7 ?_)
    show _ = D.lst ((ps ++ [Prt.out hd]).map Prt.obj)
    rw [List.map_append]
    rfl
  | never =>
    apply za0
    refine zbg (b := false) rfl (fun e => by cases e) fun _ => zb3 ?_
    apply za0
    refine zkh (zqk (zax rfl rfl) eb) ?_
    show wp _ [.im (Rul.toD ⟨.never, hd, ps⟩), .own (ps.map Prt.obj)] _
    apply za0
    refine zbg (b := false) rfl (fun e => by cases e) fun _ => zb3 ?_
    exact zgi (d := ps.map Prt.obj) rfl (zc7 rfl)
noncomputable def neg (z : Int × Bool) : Int × Bool := (z.1, !z.2)
noncomputable def pnx (es : List (Option Bool)) (p : Prt) : Option (List (Int × Bool)) -> List (Int × Bool)
  | none => tps es p
  | some l => l.filter fun z => decide (z ∈ tps es p)
noncomputable def pst (es : List (Option Bool)) (acc : Option (List (Int × Bool))) (p : Prt) : Option (List (Int × Bool)) := if p.sure es then acc else some (pnx es p acc)
noncomputable def zfa : Option (List (Int × Bool)) -> D
  | none => .non
  | some l => .lst (l.map prD)
theorem zr2 (es : List (Option Bool)) : ∀ G : List Prt, G.foldl (pst es) (some []) = some []
  | [] => rfl
  | p :: G => by
    have : pst es (some []) p = some [] := by unfold pst; split <;> rfl
    rw [List.foldl_cons, this]
    exact zr2 es G
theorem zwj {es : List (Option Bool)} {p : Prt} (h : p.Ok es.length) : (tps es p).length <= 100000 := by
  cases p with
  | inn t =>
    show (if opn es t then [(t, true)] else []).length <= 100000
    split
    · exact (by decide : 1 <= 100000)
    · exact Nat.zero_le _
  | out t =>
    show (if opn es t then [(t, false)] else []).length <= 100000
    split
    · exact (by decide : 1 <= 100000)
    · exact Nat.zero_le _
  | least k its => unfold tps; rw [List.length_map]; exact Nat.le_trans (zk0 _) h.2
  | most k its => unfold tps; rw [List.length_map]; exact Nat.le_trans (zk0 _) h.2
theorem zvt (x : Int × Bool) (l : List (Int × Bool)) : zhj (prD x) (.lst (l.map prD)) = some (.bl (decide (x ∈ l))) := by
  have e : ∀ l : List (Int × Bool), zen (prD x) (l.map prD) = some (decide (x ∈ l)) := by
    intro l
    induction l with
    | nil => rfl
    | cons z l ih =>
      show ((deq 19 (prD z) (prD x)).bind fun b => (zen (prD x) (l.map prD)).map fun r => b || r) = _
      rw [show deq 19 (prD z) (prD x) = some (z.1 == x.1 && (z.2 == x.2 && true)) from rfl, ih]
      show some _ = _
      congr 1
      obtain ⟨a, b⟩ := z
      obtain ⟨c, d⟩ := x
      apply Bool.eq_iff_iff.mpr
      simp only [Bool.or_eq_true, Bool.and_eq_true, beq_iff_eq, decide_eq_true_eq, List.mem_cons, Prod.mk.injEq, and_true]
      exact ⟨fun q => q.imp (fun ⟨u, v⟩ => ⟨u.symm, v.symm⟩) id, fun q => q.imp (fun ⟨u, v⟩ => ⟨u.symm, v.symm⟩) id⟩
  show ((zen (prD x) (l.map prD)).map D.bl) = _
  rw [e]
  rfl
theorem z0y {es : List (Option Bool)} (G : List Prt) (hG : ∀ p ∈ G, p.Ok es.length) : m_9 [.lst (G.map Prt.obj), .lst (es.map shD)] = some (zfa ((G.foldl (pst es) none).map fun l => l.map neg)) := by
  apply zeg
  unfold b_9
  generalize hGd : D.lst (G.map Prt.obj) = Gd
  show wp _ [.im Gd, .im (.lst (es.map shD)), .no, .no, .no] _
  apply za0
  refine zbx (d := zfa none) rfl ?_
  show wp _ [.im Gd, .im (.lst (es.map shD)), .im (zfa none), .no, .no] _
  apply za0
  refine zd2 G Prt.obj (fun pre ρ => ∃ a3 a4, ρ = [.im Gd, .im (.lst (es.map shD)), .im (zfa (pre.foldl (pst es) none)), a3, a4] /\ ∀ l, pre.foldl (pst es) none = some l -> l.length <= 100000) (by subst hGd; rfl) ⟨_, _, rfl, fun l e => by cases e⟩ ?_ ?_
  · rintro pre p post ρ he ⟨a3, a4, rfl, hl⟩
    have hp : p.Ok es.length := hG p (by rw [he]; simp)
    have htl := zwj hp
    have hfull : G.foldl (pst es) none = post.foldl (pst es) (pst es (pre.foldl (pst es) none) p) := by rw [he, List.foldl_append, List.foldl_cons]
    rw [List.foldl_append, List.foldl_cons, List.foldl_nil]
    generalize pre.foldl (pst es) none = acc at hl hfull
    refine ⟨_, rfl, ?_⟩
    show wp _ [.im Gd, .im (.lst (es.map shD)), .im (zfa acc), .im p.obj, a4] _
    refine zbg (b := !p.sure es) (znv (zjj (z1x p hp rfl rfl) rfl)) (fun e => ?_) fun e => zb3 ?_
    · rw [Bool.not_eq_true'] at e
      have ep : pst es acc p = some (pnx es p acc) := by unfold pst; rw [if_neg (by rw [e]; exact Bool.false_ne_true)]
      apply za0
      refine zbx (d := .lst ((tps es p).map prD)) (zzr p hp rfl rfl) ?_
      show wp _ [.im Gd, .im (.lst (es.map shD)), .im (zfa acc), .im p.obj, .im (.lst ((tps es p).map prD))] _
      apply za0
      have hs : (vIf (mB (m2 dIs (zaa 2) (fun _ => some .non))) (zaa 4) (zas (zbj 1 [4] (zbc (zaa 2)) (zav 0) (mB (m2 zhj (zaa 0) (zaa 1))) (zaa 0)))) [.im Gd, .im (.lst (es.map shD)), .im (zfa acc), .im p.obj, .im (.lst ((tps es p).map prD))] = some (zfa (pst es acc p)) /\ ∀ l, pst es acc p = some l -> l.length <= 100000 := by
        rw [ep]
        cases acc with
        | none => exact ⟨rfl, fun l e => by cases e; exact htl⟩
        | some l0 =>
          have h0 := hl l0 rfl
          refine ⟨zmx (b := false) rfl (fun e => by cases e) fun _ => za8 (zf9 l0 prD (fun z => decide (z ∈ tps es p)) prD rfl (by omega) fun z _ => zfr rfl (zcb (zbi rfl rfl (zvt z _))) fun _ => rfl), fun l e => ?_⟩
          cases e
          exact Nat.le_trans (List.length_filter_le _ _) h0
      refine zbx hs.1 ?_
      obtain ⟨l1, el1⟩ : ∃ l1, pst es acc p = some l1 := ⟨_, ep⟩
      have hl1 := hs.2
      rw [el1] at hfull hl1 ⊢
      show wp _ [.im Gd, .im (.lst (es.map shD)), .im (.lst (l1.map prD)), .im p.obj, .im (.lst ((tps es p).map prD))] _
      cases l1 with
      | nil =>
        refine zbg (b := true) rfl (fun _ => ?_) fun e => by cases e
        refine zfp (d := []) rfl (zc7 ?_)
        rw [hfull, zr2]
        rfl
      | cons z l1 =>
        refine zbg (b := false) rfl (fun e => by cases e) fun _ => zb3 ?_
        exact ⟨_, _, rfl, hl1⟩
    · rw [Bool.not_eq_false'] at e
      have ep : pst es acc p = acc := by unfold pst; rw [if_pos e]
      rw [ep]
      exact ⟨_, _, rfl, hl⟩
  · rintro ρ ⟨a3, a4, rfl, hl⟩
    generalize G.foldl (pst es) none = acc at hl
    apply za0
    cases acc with
    | none =>
      refine zbg (b := true) rfl (fun _ => ?_) fun e => by cases e
      exact zfo rfl (zdl rfl)
    | some l =>
      have h0 := hl l rfl
      refine zbg (b := false) rfl (fun e => by cases e) fun _ => zb3 ?_
      refine zfp (d := (l.map neg).map prD) ?_ (zc7 rfl)
      rw [List.map_map]
      exact ze9 l prD _ rfl (by omega) fun z _ => zd6 rfl rfl rfl
theorem znp {es : List (Option Bool)} {t : Int} (h : opn es t = true) : es.getD t.toNat none = none := by simpa [opn] using h
theorem zo0 {es : List (Option Bool)} {its : List (Int × Int)} {t : Int} (h : opn es t = true) : wt (opI es its) t = wt its t := by
  unfold wt opI
  rw [List.filter_filter]
  congr 2
  refine List.filter_congr fun z _ => ?_
  by_cases e : z.1 = t
  · rw [e, h]; simp
  · simp [e]
theorem zkr {es : List (Option Bool)} {its : List (Int × Int)} {lack t : Int} : t ∈ hv es its lack ↔ opn es t = true /\ t ∈ its.map (·.1) /\ wt its t ≥ lack := by
  have ok := ziu (opI es its)
  unfold hv
  constructor
  · intro h
    obtain ⟨z, hz, rfl⟩ := List.mem_map.mp h
    obtain ⟨h1, h2⟩ := List.mem_filter.mp hz
    have h2 := of_decide_eq_true h2
    obtain ⟨y, hy, ey⟩ := List.mem_map.mp ((ok.ks z.1).mp (List.mem_map.mpr ⟨z, h1, rfl⟩))
    obtain ⟨y1, y2⟩ := List.mem_filter.mp hy
    rw [ey] at y2
    refine ⟨y2, List.mem_map.mpr ⟨y, y1, ey⟩, ?_⟩
    rw [<- zo0 y2, <- ok.vs z h1]
    exact h2
  · rintro ⟨h1, h2, h3⟩
    obtain ⟨y, hy, ey⟩ := List.mem_map.mp h2
    obtain ⟨z, hz, ez⟩ := List.mem_map.mp ((ok.ks t).mpr (List.mem_map.mpr ⟨y, List.mem_filter.mpr ⟨hy, by rw [ey]; exact h1⟩, ey⟩))
    refine List.mem_map.mpr ⟨z, List.mem_filter.mpr ⟨hz, decide_eq_true ?_⟩, ez⟩
    rw [ok.vs z hz, ez, zo0 h1]
    exact h3
theorem zrw (es : List (Option Bool)) (its : List (Int × Int)) (lack : Int) : (hv es its lack).Nodup := by
  unfold hv
  exact List.Nodup.sublist ((List.filter_sublist (p := fun z : Int × Int => decide (z.2 ≥ lack))).map (·.1)) (ziu (opI es its)).nd
theorem zlt (z : Int × Int) (its : List (Int × Int)) (t : Int) : wt (z :: its) t = (if z.1 = t then z.2 else 0) + wt its t := by
  unfold wt
  by_cases e : z.1 = t
  · rw [if_pos e, List.filter_cons_of_pos (by simp [e]), List.map_cons, List.sum_cons]
  · rw [if_neg e, List.filter_cons_of_neg (by simp [e])]; omega
theorem zky (q : Option Bool -> Bool) (es : List (Option Bool)) (z : Int × Int) (its : List (Int × Int)) : za1 q es (z :: its) = (if q (es.getD z.1.toNat none) then z.2 else 0) + za1 q es its := by
  unfold za1
  by_cases e : q (es.getD z.1.toNat none) = true
  · rw [if_pos e, List.filter_cons_of_pos (p := fun z : Int × Int => q (es.getD z.1.toNat none)) e, List.map_cons, List.sum_cons]
  · rw [if_neg e, List.filter_cons_of_neg (p := fun z : Int × Int => q (es.getD z.1.toNat none)) e]; omega
theorem zst {n : Nat} {its : List (Int × Int)} (h : InN n its) (t : Int) : 0 <= wt its t := by
  induction its with
  | nil => exact Int.le_refl _
  | cons z its ih =>
    have h1 := h z List.mem_cons_self
    have h2 := ih fun y hy => h y (List.mem_cons_of_mem _ hy)
    rw [zlt]
    split <;> omega
theorem zfz {es : List (Option Bool)} {t j : Int} {b : Bool} (t0 : 0 <= t) (t1 : t < (es.length : Int)) (j0 : 0 <= j) : (put es t.toNat b).getD j.toNat none = if j = t then some b else es.getD j.toNat none := by
  by_cases e : j = t
  · rw [if_pos e, e]
    exact znt es b (by omega)
  · rw [if_neg e]
    exact zfh es b (by omega)
theorem zms {es : List (Option Bool)} {its : List (Int × Int)} {t : Int} (h : InN es.length its) (t0 : 0 <= t) (t1 : t < (es.length : Int)) (ho : opn es t = true) (b : Bool) : za1 (· == some true) (put es t.toNat b) its = za1 (· == some true) es its + if b then wt its t else 0 := by
  induction its with
  | nil => cases b <;> rfl
  | cons z its ih =>
    have hz := h z List.mem_cons_self
    have ih := ih fun y hy => h y (List.mem_cons_of_mem _ hy)
    rw [zky, zky, zlt, ih, zfz t0 t1 hz.1]
    by_cases e : z.1 = t
    · rw [if_pos e, if_pos e, e, znp ho]
      cases b with
      | true =>
        show z.2 + (za1 _ es its + wt its t) = 0 + za1 _ es its + (z.2 + wt its t)
        omega
      | false =>
        show 0 + (za1 _ es its + 0) = 0 + za1 _ es its + 0
        omega
    · rw [if_neg e, if_neg e]
      split <;> split <;> omega
theorem znn {es : List (Option Bool)} {its : List (Int × Int)} {t : Int} (h : InN es.length its) (t0 : 0 <= t) (t1 : t < (es.length : Int)) (ho : opn es t = true) (b : Bool) : za1 (fun e => !(e == some false)) (put es t.toNat b) its = za1 (fun e => !(e == some false)) es its - if b then 0 else wt its t := by
  induction its with
  | nil => cases b <;> rfl
  | cons z its ih =>
    have hz := h z List.mem_cons_self
    have ih := ih fun y hy => h y (List.mem_cons_of_mem _ hy)
    rw [zky, zky, zlt, ih, zfz t0 t1 hz.1]
    by_cases e : z.1 = t
    · rw [if_pos e, if_pos e, e, znp ho]
      cases b with
      | true =>
        show z.2 + (za1 _ es its - 0) = z.2 + za1 _ es its - 0
        omega
      | false =>
        show 0 + (za1 _ es its - wt its t) = z.2 + za1 _ es its - (z.2 + wt its t)
        omega
    · rw [if_neg e, if_neg e]
      split <;> split <;> omega
theorem znq {es : List (Option Bool)} {p : Prt} (hp : p.Ok es.length) (hu : p.sure es = false) (t : Int) (b : Bool) : (t, b) ∈ tps es p ↔ (0 <= t /\ t < (es.length : Int)) /\ opn es t = true /\ p.sure (put es t.toNat b) = true := by
  cases p with
  | inn t0 =>
    obtain ⟨a0, a1⟩ := (hp : 0 <= t0 /\ t0 < (es.length : Int))
    show (t, b) ∈ (if opn es t0 then [(t0, true)] else []) ↔ _
    have es' : 0 <= t -> t < (es.length : Int) -> (Prt.sure (put es t.toNat b) (.inn t0) = true ↔ (if t0 = t then some b else es.getD t0.toNat none) = some true) := fun x y => by
      rw [<- zfz x y a0]
      exact beq_iff_eq
    have hu : ¬ es.getD t0.toNat none = some true := fun q => by
      have : (es.getD t0.toNat none == some true) = false := hu
      rw [q] at this
      exact absurd this (by decide)
    constructor
    · intro h
      split at h
      · rename_i ho
        have : (t, b) = (t0, true) := by simpa using h
        cases this
        exact ⟨⟨a0, a1⟩, ho, (es' a0 a1).mpr (if_pos rfl)⟩
      · cases h
    · rintro ⟨⟨x, y⟩, ho, hs⟩
      have hs := (es' x y).mp hs
      by_cases e : t0 = t
      · rw [if_pos e] at hs
        cases hs
        rw [e, if_pos ho]
        exact List.mem_cons_self
      · rw [if_neg e] at hs
        exact absurd hs hu
  | out t0 =>
    obtain ⟨a0, a1⟩ := (hp : 0 <= t0 /\ t0 < (es.length : Int))
    show (t, b) ∈ (if opn es t0 then [(t0, false)] else []) ↔ _
    have es' : 0 <= t -> t < (es.length : Int) -> (Prt.sure (put es t.toNat b) (.out t0) = true ↔ (if t0 = t then some b else es.getD t0.toNat none) = some false) := fun x y => by
      rw [<- zfz x y a0]
      exact beq_iff_eq
    have hu : ¬ es.getD t0.toNat none = some false := fun q => by
      have : (es.getD t0.toNat none == some false) = false := hu
      rw [q] at this
      exact absurd this (by decide)
    constructor
    · intro h
      split at h
      · rename_i ho
        have : (t, b) = (t0, false) := by simpa using h
        cases this
        exact ⟨⟨a0, a1⟩, ho, (es' a0 a1).mpr (if_pos rfl)⟩
      · cases h
    · rintro ⟨⟨x, y⟩, ho, hs⟩
      have hs := (es' x y).mp hs
      by_cases e : t0 = t
      · rw [if_pos e] at hs
        cases hs
        rw [e, if_pos ho]
        exact List.mem_cons_self
      · rw [if_neg e] at hs
        exact absurd hs hu
  | least k its =>
    have hi : InN es.length its := hp.1
    have hu : ¬ k <= za1 (· == some true) es its := of_decide_eq_false hu
    show (t, b) ∈ (hv es its (k - za1 (· == some true) es its)).map (fun t => (t, true)) ↔ (_ /\ _ /\ decide (k <= za1 (· == some true) (put es t.toNat b) its) = true)
    rw [decide_eq_true_iff]
    constructor
    · intro h
      obtain ⟨u, hm, e⟩ := List.mem_map.mp h
      cases e
      obtain ⟨ho, hn, hw⟩ := zkr.mp hm
      obtain ⟨z, hz, ez⟩ := List.mem_map.mp hn
      have hr := hi z hz
      rw [ez] at hr
      refine ⟨⟨hr.1, hr.2.1⟩, ho, ?_⟩
      rw [zms hi hr.1 hr.2.1 ho, if_pos rfl]
      omega
    · rintro ⟨⟨x, y⟩, ho, hs⟩
      rw [zms hi x y ho] at hs
      cases b with
      | false => rw [if_neg (by decide)] at hs; omega
      | true =>
        rw [if_pos rfl] at hs
        refine List.mem_map.mpr ⟨t, zkr.mpr ⟨ho, ?_, by omega⟩, rfl⟩
        by_cases q : t ∈ its.map (·.1)
        · exact q
        · rw [zmz q] at hs
          omega
  | most k its =>
    have hi : InN es.length its := hp.1
    have hu : ¬ za1 (fun e => !(e == some false)) es its <= k := of_decide_eq_false hu
    show (t, b) ∈ (hv es its (za1 (fun e => !(e == some false)) es its - k)).map (fun t => (t, false)) ↔ (_ /\ _ /\ decide (za1 (fun e => !(e == some false)) (put es t.toNat b) its <= k) = true)
    rw [decide_eq_true_iff]
    constructor
    · intro h
      obtain ⟨u, hm, e⟩ := List.mem_map.mp h
      cases e
      obtain ⟨ho, hn, hw⟩ := zkr.mp hm
      obtain ⟨z, hz, ez⟩ := List.mem_map.mp hn
      have hr := hi z hz
      rw [ez] at hr
      refine ⟨⟨hr.1, hr.2.1⟩, ho, ?_⟩
      rw [znn hi hr.1 hr.2.1 ho, if_neg (by decide)]
      omega
    · rintro ⟨⟨x, y⟩, ho, hs⟩
      rw [znn hi x y ho] at hs
      cases b with
      | true => rw [if_pos rfl] at hs; omega
      | false =>
        rw [if_neg (by decide)] at hs
        refine List.mem_map.mpr ⟨t, zkr.mpr ⟨ho, ?_, by omega⟩, rfl⟩
        by_cases q : t ∈ its.map (·.1)
        · exact q
        · rw [zmz q] at hs
          omega
theorem zz0 {es : List (Option Bool)} {p : Prt} (hp : p.Ok es.length) {t : Int} (t0 : 0 <= t) (t1 : t < (es.length : Int)) (ho : opn es t = true) (b : Bool) (h : p.sure es = true) : p.sure (put es t.toNat b) = true := by
  have og := znp ho
  cases p with
  | inn u =>
    have hu : es.getD u.toNat none = some true := beq_iff_eq.mp h
    show ((put es t.toNat b).getD u.toNat none == some true) = true
    rw [zfz t0 t1 hp.1, if_neg (fun e => by rw [e, og] at hu; cases hu), hu]
    rfl
  | out u =>
    have hu : es.getD u.toNat none = some false := beq_iff_eq.mp h
    show ((put es t.toNat b).getD u.toNat none == some false) = true
    rw [zfz t0 t1 hp.1, if_neg (fun e => by rw [e, og] at hu; cases hu), hu]
    rfl
  | least k its =>
    have h : k <= za1 (· == some true) es its := of_decide_eq_true h
    show decide (k <= za1 (· == some true) (put es t.toNat b) its) = true
    have := zst hp.1 t
    rw [decide_eq_true_iff, zms hp.1 t0 t1 ho]
    split <;> omega
  | most k its =>
    have h : za1 (fun e => !(e == some false)) es its <= k := of_decide_eq_true h
    show decide (za1 (fun e => !(e == some false)) (put es t.toNat b) its <= k) = true
    have := zst hp.1 t
    rw [decide_eq_true_iff, znn hp.1 t0 t1 ho]
    split <;> omega
theorem zv1 (es : List (Option Bool)) (p : Prt) : ((tps es p).map (·.1)).Nodup := by
  have one : ∀ (q : Bool) (z : Int × Bool), ((if q then [z] else []).map (·.1)).Nodup := fun q z => by
    cases q
    · exact List.nodup_nil
    · exact List.nodup_cons.mpr ⟨fun h => (List.not_mem_nil h).elim, List.nodup_nil⟩
  cases p with
  | inn t => exact one _ _
  | out t => exact one _ _
  | least k its =>
    show (((hv es its _).map fun t => (t, true)).map (·.1)).Nodup
    rw [List.map_map]
    exact (List.map_id (hv es its _)).symm ▸ zrw es its _
  | most k its =>
    show (((hv es its _).map fun t => (t, false)).map (·.1)).Nodup
    rw [List.map_map]
    exact (List.map_id (hv es its _)).symm ▸ zrw es its _
noncomputable def zmp (es : List (Option Bool)) (G : List Prt) : Option (List (Int × Bool)) -> Prop
  | none => ∀ p ∈ G, p.sure es = true
  | some l => (∃ p ∈ G, p.sure es = false) /\ (∀ z, z ∈ l ↔ ∀ p ∈ G, p.sure es = false -> z ∈ tps es p) /\ (l.map (·.1)).Nodup
theorem z01 (es : List (Option Bool)) (G : List Prt) : zmp es G (G.foldl (pst es) none) := by
  have go : ∀ (post pre : List Prt) (acc : Option (List (Int × Bool))), zmp es pre acc -> zmp es (pre ++ post) (post.foldl (pst es) acc) := by
    intro post
    induction post with
    | nil => intro pre acc h; rw [List.append_nil]; exact h
    | cons p post ih =>
      intro pre acc h
      have := ih (pre ++ [p]) (pst es acc p) ?_
      · rw [List.append_assoc] at this
        exact this
      unfold pst
      cases hs : p.sure es with
      | true =>
        rw [if_pos rfl]
        have hm : ∀ q, q ∈ pre ++ [p] -> q ∈ pre \/ q = p := fun q hq => (List.mem_append.mp hq).imp id fun e => by simpa using e
        cases acc with
        | none => exact fun q hq => (hm q hq).elim (h q) fun e => e ▸ hs
        | some l =>
          obtain ⟨⟨q, hq, hqs⟩, h2, h3⟩ := h
          refine ⟨⟨q, List.mem_append_left _ hq, hqs⟩, fun z => ?_, h3⟩
          rw [h2 z]
          exact ⟨fun a q hq e => (hm q hq).elim (fun w => a q w e) fun w => (by rw [w, hs] at e; cases e), fun a q hq => a q (List.mem_append_left _ hq)⟩
      | false =>
        rw [if_neg Bool.false_ne_true]
        have hp : p ∈ pre ++ [p] := by simp
        cases acc with
        | none =>
          refine ⟨⟨p, hp, hs⟩, fun z => ?_, zv1 es p⟩
          refine ⟨fun a q hq e => ?_, fun a => a p hp hs⟩
          rcases List.mem_append.mp hq with w | w
          · rw [h q w] at e; cases e
          · have : q = p := by simpa using w
            rw [this]; exact a
        | some l =>
          obtain ⟨_, h2, h3⟩ := h
          refine ⟨⟨p, hp, hs⟩, fun z => ?_, List.Nodup.sublist ((List.filter_sublist (p := fun z => decide (z ∈ tps es p))).map (·.1)) h3⟩
          show z ∈ l.filter _ ↔ _
          rw [List.mem_filter, h2 z, decide_eq_true_iff]
          refine ⟨fun ⟨a, b⟩ q hq e => ?_, fun a => ⟨fun q hq => a q (List.mem_append_left _ hq), a p hp hs⟩⟩
          rcases List.mem_append.mp hq with w | w
          · exact a q w e
          · have : q = p := by simpa using w
            rw [this]; exact b
  exact go G [] none fun p hp => (List.not_mem_nil hp).elim
theorem zk9 (r : Rul) (es : List (Option Bool)) : r.surely es = true ↔ ∀ p ∈ gdL r, p.sure es = true := by
  obtain ⟨w, hd, ps⟩ := r
  cases w with
  | may =>
    refine ⟨fun h => (by cases h), fun h => ?_⟩
    have := h (.least 1 []) List.mem_cons_self
    cases this
  | never => exact List.all_eq_true
  | make =>
    show ((es.getD hd.toNat none == some false) && ps.all fun p => p.sure es) = true ↔ ∀ p ∈ ps ++ [Prt.out hd], p.sure es = true
    rw [Bool.and_eq_true, List.all_eq_true]
    constructor
    · rintro ⟨a, b⟩ p hp
      rcases List.mem_append.mp hp with q | q
      · exact b p q
      · have : p = .out hd := by simpa using q
        rw [this]; exact a
    · intro h
      exact ⟨h (.out hd) (by simp), fun p hp => h p (List.mem_append_left _ hp)⟩
theorem zja {n : Nat} {r : Rul} (h : r.Ok n) : ∀ p ∈ gdL r, p.Ok n := by
  have hh := h.hd
  have hp := h.ps
  obtain ⟨w, hd, ps⟩ := r
  cases w with
  | may =>
    intro p q
    have : p = .least 1 [] := by simpa [gdL] using q
    rw [this]
    exact ⟨fun z hz => (List.not_mem_nil hz).elim, Nat.zero_le _⟩
  | never => exact hp
  | make =>
    intro p q
    rcases List.mem_append.mp (show p ∈ ps ++ [Prt.out hd] from q) with q | q
    · exact hp p q
    · have : p = .out hd := by simpa using q
      rw [this]
      exact hh fun z => by cases z
theorem z5b {n : Nat} {ns : List Int} (nd : ns.Nodup) (h : ∀ x ∈ ns, 0 <= x /\ x < (n : Int)) : ns.length <= n := by
  by_cases hl : ns.length <= n
  · exact hl
  · have hs : ∀ x ∈ ns, x ∈ (List.range n).map fun (i : Nat) => (i : Int) := fun x hx => by
      obtain ⟨a, b⟩ := h x hx
      exact List.mem_map.mpr ⟨x.toNat, List.mem_range.mpr (by omega), by omega⟩
    have p := zhn ns _ nd hs (by rw [List.length_map, List.length_range]; omega)
    have := p.length_eq
    rw [List.length_map, List.length_range] at this
    omega
theorem zwo {f : Int -> List (Int × Bool)} (hf : ∀ t, f t = [] \/ ∃ b, f t = [(t, b)]) {E : List Int} (hE : E.Pairwise (· < ·)) : ((E.flatMap f).map (·.1)).Pairwise (· < ·) := by
  have e : ∀ E : List Int, (E.flatMap f).map (·.1) = E.filter fun t => !(f t).isEmpty := by
    intro E
    induction E with
    | nil => rfl
    | cons t E ih =>
      rw [List.flatMap_cons, List.map_append, ih]
      rcases hf t with h | ⟨b, h⟩
      · rw [List.filter_cons_of_neg (by rw [h]; exact Bool.false_ne_true), h]; rfl
      · rw [List.filter_cons_of_pos (by rw [h]; rfl), h]; rfl
  rw [e]
  exact hE.filter _
theorem z5g (r : Rul) (es : List (Option Bool)) (t : Int) : prF r es t = [] \/ ∃ b, prF r es t = [(t, b)] := by
  unfold prF
  split
  · split
    · exact .inr ⟨_, rfl⟩
    · split
      · exact .inr ⟨_, rfl⟩
      · exact .inl rfl
  · exact .inl rfl
theorem zwm {r : Rul} {es : List (Option Bool)} {L : List Int} (hr : r.Ok es.length) (hs : r.surely es = false) (hL : ∀ k, k ∈ L ↔ nmR r k) (t : Int) (b : Bool) : (t, b) ∈ (zcz r es).flatMap (prF r es) ↔ (0 <= t /\ t < (es.length : Int)) /\ opn es t = true /\ r.surely (put es t.toNat (!b)) = true := by
  rw [<- zsr hr hs hL, List.mem_flatMap]
  have hd : ∀ k, (t, b) ∈ duF r es k ↔ t = k /\ opn es k = true /\ r.surely (put es k.toNat (!b)) = true := fun k => by
    unfold duF
    cases opn es k with
    | false => simp
    | true =>
      cases b <;> simp only [Bool.not_true, Bool.not_false] <;> cases r.surely (put es k.toNat false) <;> cases r.surely (put es k.toNat true) <;> simp
  constructor
  · rintro ⟨k, hk, q⟩
    obtain ⟨e, a, c⟩ := (hd k).mp q
    rw [<- e] at a c hk
    exact ⟨zht hr ((hL t).mp ((zdb t L).mp hk)), a, c⟩
  · rintro ⟨⟨t0, t1⟩, ho, hc⟩
    refine ⟨t, (zdb t L).mpr ((hL t).mpr (znz (es := es) ?_)), (hd t).mpr ⟨rfl, ho, hc⟩⟩
    by_cases q : t ∈ zcz r es
    · exact q
    · rw [znw rfl hr hs t0 q (!b) ho] at hc
      cases hc
theorem zyo {n : Int} (r : Rul) (es : List (Option Bool)) (h : RK n r) (n60 : n <= 60) (hes : (es.length : Int) = n) : zlu [r.toD, .lst (es.map shD)] = some (.lst (((zcz r es).flatMap (prF r es)).map prD)) := by
  have hok : r.Ok es.length := by rw [show es.length = n.toNat by omega]; exact h.ok
  obtain ⟨_, _, L, _, hL⟩ := zlk r h n60
  have eg := z1b r hok
  have ep := z0y (es := es) (gdL r) (zja hok)
  have pi := z01 es (gdL r)
  have rs : ((zcz r es).flatMap (prF r es)).map (·.1) |>.Pairwise (· < ·) := zwo (z5g r es) (zpm r es)
  apply zeg
  unfold b_28
  show wp _ [.im r.toD, .im (.lst (es.map shD))] _
  have ec : (zat m_9 (zab (zat zkj (zab (zaa 0) (fun _ => some []))) (zab (zaa 1) (fun _ => some [])))) [.im r.toD, .im (.lst (es.map shD))] = some (zfa (((gdL r).foldl (pst es) none).map fun l => l.map neg)) := zbr (zax (zbr (zax rfl rfl) eg) (zax rfl rfl)) ep
  generalize (gdL r).foldl (pst es) none = acc at pi ec
  refine zfp (d := ((zcz r es).flatMap (prF r es)).map prD) ?_ (zc7 rfl)
  have hg : ∀ z : Int × Bool, ∃ ys, prD z = .tup (.int z.1 :: ys) := fun z => ⟨_, rfl⟩
  cases acc with
  | none =>
    have hsu : r.surely es = true := (zk9 r es).mpr pi
    refine zq4 (zs := []) prD hg ?_ (by decide) List.nodup_nil rs fun z => ?_
    · unfold zil
      rw [ec]
      rfl
    · rw [zsa hsu]
      exact Iff.rfl
  | some l =>
    obtain ⟨⟨p0, hp0, hu0⟩, hm, nd⟩ := pi
    have hsu : r.surely es = false := by
      cases e : r.surely es with
      | false => rfl
      | true => rw [(zk9 r es).mp e p0 hp0] at hu0; cases hu0
    have hmem : ∀ z : Int × Bool, z ∈ l.map neg ↔ (0 <= z.1 /\ z.1 < (es.length : Int)) /\ opn es z.1 = true /\ r.surely (put es z.1.toNat (!z.2)) = true := fun z => by
      have e1 : z ∈ l.map neg ↔ (z.1, !z.2) ∈ l := by
        constructor
        · intro q
          obtain ⟨y, hy, e⟩ := List.mem_map.mp q
          rw [<- e]
          show (y.1, !!y.2) ∈ l
          rw [Bool.not_not]
          exact hy
        · intro q
          exact List.mem_map.mpr ⟨_, q, by show (z.1, !!z.2) = z; rw [Bool.not_not]⟩
      rw [e1, hm]
      constructor
      · intro q
        obtain ⟨a, b, c⟩ := (znq (zja hok p0 hp0) hu0 _ _).mp (q p0 hp0 hu0)
        refine ⟨a, b, (zk9 r _).mpr fun p hp => ?_⟩
        cases e : p.sure es with
        | true => exact zz0 (zja hok p hp) a.1 a.2 b _ e
        | false => exact ((znq (zja hok p hp) e _ _).mp (q p hp e)).2.2
      · rintro ⟨a, b, c⟩ p hp e
        exact (znq (zja hok p hp) e _ _).mpr ⟨a, b, (zk9 r _).mp c p hp⟩
    have nd2 : ((l.map neg).map (·.1)).Nodup := by rw [List.map_map]; exact nd
    have hl : (l.map neg).length <= es.length := by
      have := z5b (n := es.length) nd2 fun x hx => by
        obtain ⟨z, hz, rfl⟩ := List.mem_map.mp hx
        exact ((hmem z).mp hz).1
      rwa [List.length_map] at this
    refine zq4 (zs := l.map neg) prD hg ?_ (by omega) nd2 rs fun z => ?_
    · unfold zil
      rw [ec]
      show (zgx (.lst ((l.map neg).map prD))).bind (fun k => if k = true then some (D.lst ((l.map neg).map prD)) else some (D.lst [])) = _
      cases l with
      | nil => rfl
      | cons y l => rfl
    · rw [hmem z]
      exact zwm hok hsu hL z.1 z.2
theorem zr8 {α : Type} (f : Int -> List α) (k : Nat) (h : ∀ t, (f t).length <= k) : ∀ l : List Int, (l.flatMap f).length <= k * l.length
  | [] => Nat.le_refl _
  | t :: l => by
    rw [List.flatMap_cons, List.length_append, List.length_cons]
    have := h t
    have := zr8 f k h l
    rw [Nat.mul_succ]
    omega
theorem zxp (es : List (Option Bool)) (k : Nat) (b : Bool) (h : k < es.length) : ((es.drop (HT.sIx es.length 0 none)).take (HT.sIx es.length es.length (some (k : Int)) - HT.sIx es.length 0 none)) ++ [some b] ++ ((es.drop (HT.sIx es.length 0 (some ((k : Int) + 1)))).take (HT.sIx es.length es.length none - HT.sIx es.length 0 (some ((k : Int) + 1)))) = put es k b := by
  rw [show ((k : Int) + 1) = ((k + 1 : Nat) : Int) by omega, HT.sIx_none, HT.sIx_none, HT.sIx_nat, HT.sIx_nat, Nat.min_eq_left (Nat.le_of_lt h), Nat.min_eq_left (Nat.succ_le_of_lt h), List.drop_zero, Nat.sub_zero]
  unfold put
  have e : List.take (es.length - (k + 1)) (List.drop (k + 1) es) = List.drop (k + 1) es := List.take_of_length_le (by rw [List.length_drop]; exact Nat.le_refl _)
  rw [List.set_eq_take_append_cons_drop, if_pos h, e, List.append_assoc]
  rfl
noncomputable def cB (r : Rul) (es : List (Option Bool)) (t : Int) (b : Bool) : List (Int × Bool) := if r.surely (put es t.toNat (!b)) then [(t, b)] else []
theorem zmr (r : Rul) (es : List (Option Bool)) (t : Int) : duF r es t = if opn es t then [true, false].flatMap (cB r es t) else [] := by
  unfold duF
  rw [List.flatMap_cons, List.flatMap_cons, List.flatMap_nil, List.append_nil]
  rfl
theorem zl2 (r : Rul) (es : List (Option Bool)) (t : Int) (b : Bool) : (cB r es t b).length <= 1 := by
  unfold cB
  split
  · exact Nat.le_refl 1
  · exact Nat.zero_le _
theorem z3j (r : Rul) (es : List (Option Bool)) (t : Int) : (duF r es t).length <= 2 := by
  rw [zmr]
  split
  · have a := zl2 r es t true
    have b := zl2 r es t false
    rw [List.flatMap_cons, List.flatMap_cons, List.flatMap_nil, List.append_nil, List.length_append]
    omega
  · exact Nat.zero_le _
theorem zzz {n : Int} (r : Rul) (es : List (Option Bool)) (h : RK n r) (n60 : n <= 60) (hes : (es.length : Int) = n) : zog [r.toD, .lst (es.map shD)] = some (.lst (((zcz r es).flatMap (prF r es)).map prD)) := by
  have hok : r.Ok es.length := by rw [show es.length = n.toNat by omega]; exact h.ok
  obtain ⟨d, eN, L, rfl, hL⟩ := zlk r h n60
  have inN : ∀ k ∈ zay L, 0 <= k /\ k < (es.length : Int) := fun k hk => zht hok ((hL k).mp ((zdb k L).mp hk))
  have hsl := z5i (zfi L) inN
  apply zeg
  unfold b_22
  show wp _ [.im r.toD, .im (.lst (es.map shD)), .no, .no, .no] _
  walk_at "set"
  have es0 := zs4 r hok
  apply za0
  refine zbg (zjj (zbr rfl es0) rfl) (fun z => ?_) (fun z => zb3 ?_)
  · rw [zsa z]
    exact zgi rfl (zc7 rfl)
  walk_at "nrm"
  rw [<- zsr hok z hL]
  apply za0
  refine zd2 (zay L) D.int (fun pre ρ => ∃ v3 v4, ρ = [.im r.toD, .im (.lst (es.map shD)), .own ((pre.flatMap (duF r es)).map prD), v3, v4]) (zc2 (zbr rfl eN) rfl) ⟨_, _, rfl⟩ ?_ ?_
  · rintro pre t post ρ ex ⟨v3, v4, rfl⟩
    have ht : t ∈ zay L := by rw [ex]; simp
    have hpl : pre.length < (zay L).length := by rw [ex]; simp
    obtain ⟨t0, t1⟩ := inN t ht
    have lp := zr8 (duF r es) 2 (z3j r es) pre
    have eo : ∀ v4, mB (m2 dIs (mIx (zaf 1) (zaa 3)) (fun _ => some .non)) [.im r.toD, .im (.lst (es.map shD)), .own ((pre.flatMap (duF r es)).map prD), .im (.int t), v4] = some (opn es t) := fun v4 => zcb (zbi (zaw rfl rfl (zds t0 t1)) rfl (zks es t))
    refine ⟨_, rfl, ?_⟩
    walk_at "nrm"
    refine zbg (eo v4) (fun z => ?_) (fun z => zb3 ?_)
    · refine zd2 [true, false] D.bl (fun pr ρ => ∃ v4, ρ = [.im r.toD, .im (.lst (es.map shD)), .own ((pre.flatMap (duF r es) ++ pr.flatMap (cB r es t)).map prD), .im (.int t), v4]) rfl ⟨v4, by rw [List.flatMap_nil, List.append_nil]⟩ ?_ ?_
      · rintro pr b po ρ ex2 ⟨v4, rfl⟩
        have hpr : pr.length < 2 := by
          have : pr.length < [true, false].length := by rw [ex2]; simp
          exact this
        have sb := zs4 (es := put es t.toNat (!b)) r (by rw [zm7]; exact hok)
        have l2 : ((pre.flatMap (duF r es) ++ pr.flatMap (cB r es t)).map prD).length < 16777216 := by
          have : ∀ q : List Bool, (q.flatMap (cB r es t)).length <= q.length := fun q => by
            induction q with
            | nil => exact Nat.le_refl _
            | cons x q ih =>
              have := zl2 r es t x
              rw [List.flatMap_cons, List.length_append, List.length_cons]
              omega
          have := this pr
          rw [List.length_map, List.length_append]
          omega
        have esl : (zas (zef (zas (zef (zas (mSl (zaa 1) (fun _ => some none) (mPt (zaa 3)))) (zas (zab (zf3 (zaa 4)) (fun _ => some []))))) (zas (mSl (zaa 1) (mPt (m2 zbt (zaa 3) (fun _ => some (.int 1)))) (fun _ => some none))))) [.im r.toD, .im (.lst (es.map shD)), .own ((pre.flatMap (duF r es) ++ pr.flatMap (cB r es t)).map prD), .im (.int t), .im (.bl b)] = some (.lst ((put es t.toNat (!b)).map shD)) := by
          have c1 := zxp es t.toNat (!b) (by omega)
          rw [show ((t.toNat : Nat) : Int) = t by omega] at c1
          have s1 : mSl (zaa 1) (fun _ => some none) (mPt (zaa 3)) [.im r.toD, .im (.lst (es.map shD)), .own ((pre.flatMap (duF r es) ++ pr.flatMap (cB r es t)).map prD), .im (.int t), .im (.bl b)] = some (((es.drop (HT.sIx es.length 0 none)).take (HT.sIx es.length es.length (some t) - HT.sIx es.length 0 none)).map shD) := zft rfl rfl rfl
          have s2 : mSl (zaa 1) (mPt (m2 zbt (zaa 3) (fun _ => some (.int 1)))) (fun _ => some none) [.im r.toD, .im (.lst (es.map shD)), .own ((pre.flatMap (duF r es) ++ pr.flatMap (cB r es t)).map prD), .im (.int t), .im (.bl b)] = some (((es.drop (HT.sIx es.length 0 (some (t + 1)))).take (HT.sIx es.length es.length none - HT.sIx es.length 0 (some (t + 1)))).map shD) := zft rfl rfl rfl
          have k1 : ((es.drop (HT.sIx es.length 0 none)).take (HT.sIx es.length es.length (some t) - HT.sIx es.length 0 none)).length <= es.length := Nat.le_trans (List.length_take_le' _ _) (by rw [List.length_drop]; exact Nat.sub_le _ _)
          have k2 : ((es.drop (HT.sIx es.length 0 (some (t + 1)))).take (HT.sIx es.length es.length none - HT.sIx es.length 0 (some (t + 1)))).length <= es.length := Nat.le_trans (List.length_take_le' _ _) (by rw [List.length_drop]; exact Nat.sub_le _ _)
          have t1 := zlc (za8 s1) (za8 (f := zab (zf3 (zaa 4)) (fun _ => some [])) (ds := [.bl (!b)]) (zax (ztg rfl) rfl)) (by rw [List.length_map]; show _ + 1 <= _; omega)
          have t2 := zlc (za8 t1) (za8 s2) (by rw [List.length_append, List.length_map, List.length_map]; show _ + 1 + _ <= _; omega)
          refine (za8 t2).trans ?_
          rw [<- c1, List.map_append, List.map_append]
          rfl
        refine ⟨_, rfl, ?_⟩
        walk_at "nrm"
        refine zbg (zjj (zbr (zax rfl (zax esl rfl)) sb) rfl) (fun q => ?_) (fun q => zb3 ?_)
        · refine zgr rfl rfl l2 ?_
          refine ⟨.im (.bl b), ?_⟩
          rw [zj3, show cB r es t b = [(t, b)] by unfold cB; rw [if_pos q], <- List.append_assoc, List.map_append (l₂ := [(t, b)])]
          rfl
        · refine ⟨.im (.bl b), ?_⟩
          rw [zj3, show cB r es t b = [] by unfold cB; rw [if_neg (by rw [q]; exact Bool.false_ne_true)], List.append_nil]
      · rintro ρ ⟨v4, rfl⟩
        refine ⟨.im (.int t), v4, ?_⟩
        rw [zj3, zmr, if_pos z]
    · refine ⟨.im (.int t), v4, ?_⟩
      rw [zj3, zmr, if_neg (by rw [z]; exact Bool.false_ne_true), List.append_nil]
  · rintro ρ ⟨v3, v4, rfl⟩
    exact zgi rfl (zc7 rfl)
theorem z40 (zs : List (Int × Bool)) : zm4 [.lst (zs.map prD)] = some (.bl true) := by
  apply zeg
  unfold b_26
  show wp _ [.im (.lst (zs.map prD)), .no] _
  apply za0
  refine zbg (b := false) rfl (fun z => by cases z) (fun _ => zb3 ?_)
  walk_at "nrm"
  apply za0
  refine zd2 zs prD (fun _ ρ => ∃ v, ρ = [.im (.lst (zs.map prD)), v]) rfl ⟨_, rfl⟩ ?_ ?_
  · rintro pre z post ρ ex ⟨v, rfl⟩
    refine ⟨_, rfl, ?_⟩
    walk_at "nrm"
    apply za0
    refine zbg (b := false) rfl (fun z => by cases z) (fun _ => zb3 ?_)
    walk_at "nrm"
    refine zbg (b := false) rfl (fun z => by cases z) (fun _ => zb3 ?_)
    exact ⟨_, rfl⟩
  · rintro ρ ⟨v, rfl⟩
    exact zfo rfl (zdl rfl)
theorem z1y (zs : List (Int × Bool)) : zcd 20 (.lst (zs.map prD)) := by
  have : zcd 3 (.lst (zs.map prD)) := fun x hx => by
    obtain ⟨z, _, rfl⟩ := List.mem_map.mp hx
    intro y hy
    simp only [List.mem_cons, List.not_mem_nil, or_false] at hy
    rcases hy with rfl | rfl <;> exact rfl
  exact this.le (by decide)
theorem zv3 (r : Rul) (es : List (Option Bool)) : zcd 20 (.lst [r.toD, .lst (es.map shD)]) := by
  have : zcd 11 (.lst [r.toD, .lst (es.map shD)]) := fun x hx => by
    simp only [List.mem_cons, List.not_mem_nil, or_false] at hx
    rcases hx with rfl | rfl
    · exact (zyb r).le (by decide)
    · exact (z3m es).le (by decide)
  exact this.le (by decide)
theorem zvj (ns : List Int) (hns : ns.length <= 63) : m_1 [.kl (ns.map D.int)] = some (.bl true) := by
  apply zeg
  unfold b_1
  show wp _ [.im (.kl (ns.map D.int)), .no, .no, .no, .no, .no, .no, .no, .no, .no] _
  obtain ⟨c0, k0⟩ := zoj ns 0 (by decide)
  obtain ⟨c1, k1⟩ := zoj ns 1 (by decide)
  obtain ⟨d, em, hs, rfl, hl, hx⟩ := zi4 c0 2 (by decide) (by decide)
  obtain ⟨a0, h0, e0⟩ := zb5 (f := D.int) (xs := hs) (i := 0) (by decide) (by omega)
  obtain ⟨a1, h1, e1⟩ := zb5 (f := D.int) (xs := hs) (i := 1) (by decide) (by omega)
  walk_at "set"
  walk_at "set"
  have b0 : 0 <= a0 % 20 := Int.emod_nonneg _ (by decide)
  have b1 : a0 % 20 < 20 := Int.emod_lt_of_pos _ (by decide)
  have b2 : 0 <= a1 / 4 % 60 := Int.emod_nonneg _ (by decide)
  have b3 : a1 / 4 % 60 < 60 := Int.emod_lt_of_pos _ (by decide)
  refine zfs (fun ρ' => ∃ n : Int, 0 <= n /\ n <= 60 /\ ρ' = [.im (.kl (ns.map D.int)), .im (.lst (hs.map D.int)), .im (.int n), .no, .no, .no, .no, .no, .no, .no]) ?_ ?_
  · walk_at "if0"
    · intro _
      refine zbx (by walk_at "ev") ?_
      exact k_J ⟨1 + a1 / 4 % 60, by omega, by omega, rfl⟩
    · intro _
      apply zb3
      exact k_J ⟨(a0 % 20 + 2) / 3, by omega, by omega, rfl⟩
  · rintro ρ' ⟨n, n0, n60, rfl⟩
    obtain ⟨d, em1, ys, rfl, hly, hy⟩ := zi4 c1 n n0 (by omega)
    obtain ⟨es, ee, le0, _⟩ := zng (k := 1) (js := []) (fi := (zbc (zat m_0 (zab (zat m_2 (zab (zaa 0) (zab (fun _ => some (.int 1)) (fun _ => some [])))) (zab (zaa 2) (fun _ => some [])))))) (g := zav 0) (ft := fun _ => some true) (fe := (mIx (zab (fun _ => some (.bl true)) (zab (fun _ => some (.bl false)) (zab (fun _ => some .non) (zab (fun _ => some .non) (fun _ => some []))))) (m2 za3 (zaa 0) (fun _ => some (.int 4))))) (ρ := [.im (.kl (ns.map D.int)), .im (.lst (hs.map D.int)), .im (.int n), .no, .no, .no, .no, .no, .no, .no]) ys D.int shD (fun _ => True) (zc2 (zbr (by walk_at "ev") em1) rfl) (by omega) fun y _ => by
      obtain ⟨e, _, ee⟩ := zb5 (f := shD) (xs := [some true, some false, none, none]) (i := y % 4) (Int.emod_nonneg _ (by decide)) (Int.emod_lt_of_pos _ (by decide))
      exact ⟨e, trivial, zd6 rfl rfl (zaw rfl (zbi rfl rfl (zjs (by decide))) ee)⟩
    have hes : (es.length : Int) = n := by omega
    apply za0
    refine zbx (za8 ee) ?_
    walk_at "nrm"
    have hcl := List.length_take_le' (HT.sIx ns.length ns.length (some 62) - HT.sIx ns.length 0 (some 2)) (ns.drop (HT.sIx ns.length 0 (some 2)))
    rw [List.length_drop] at hcl
    generalize hcs : (ns.drop (HT.sIx ns.length 0 (some 2))).take (HT.sIx ns.length ns.length (some 62) - HT.sIx ns.length 0 (some 2)) = cs at hcl
    apply za0
    refine zd2 (List.range (c0 :: cs).length) (fun i => D.tup [.int (i : Nat), .int ((c0 :: cs).getD i 0)]) (fun _ ρ => ∃ (v4 v5 v6 v7 v8 v9 : Sl), ρ = [.im (.kl (ns.map D.int)), .im (.lst (hs.map D.int)), .im (.int n), .im (.lst (es.map shD)), v4, v5, v6, v7, v8, v9]) ?_ ⟨_, _, _, _, _, _, rfl⟩ ?_ ?_
    · refine ztt 0 (zax (za8 ?_) rfl)
      have s1 : mSl (zaa 0) (mPt (fun _ => some (.int 2))) (mPt (fun _ => some (.int 62))) [.im (.kl (ns.map D.int)), .im (.lst (hs.map D.int)), .im (.int n), .im (.lst (es.map shD)), .no, .no, .no, .no, .no, .no] = some (cs.map D.int) := by rw [<- hcs]; exact zs0 rfl rfl rfl
      exact zlc (a := [.int c0]) (za8 (zax (zbr rfl k0) rfl)) (za8 s1) (by rw [List.length_map]; show 1 + _ <= _; omega)
    · rintro pre i post ρ ex ⟨v4, v5, v6, v7, v8, v9, rfl⟩
      generalize hc : (c0 :: cs).getD i 0 = c
      obtain ⟨d, er, r0, rfl, hr0, hr3⟩ := zw9 c n n0 n60
      refine ⟨_, rfl, ?_⟩
      walk_at "nrm"
      apply za0
      refine zbx (zbr (zax rfl (zax rfl rfl)) er) ?_
      walk_at "nrm"
      refine zfs (fun ρ' => ∃ r : Rul, RK n r /\ ρ' = [.im (.kl (ns.map D.int)), .im (.lst (hs.map D.int)), .im (.int n), .im (.lst (es.map shD)), .im (.int (i : Nat)), .im (.int c), .im r.toD, v7, v8, v9]) ?_ ?_
      · refine zbg (zcb (zbi rfl rfl (zll _ _))) (fun _ => ?_) (fun _ => zb3 (k_J ⟨r0, hr0, rfl⟩))
        obtain ⟨d, el, r', rfl, hr'⟩ := zu1 r0 c n n0 n60 hr0 hr3
        exact zbx (zbr (zax rfl (zax rfl (zax rfl rfl))) el) (k_J ⟨r', hr', rfl⟩)
      · rintro ρ' ⟨r, hr, rfl⟩
        obtain ⟨d, en, es', rfl, hes'⟩ := z0w r es c hr n60 hes
        have ecp := z1k r hr
        have ep := zyo r es' hr n60 hes'
        have ed := zzz r es' hr n60 hes'
        have eq := z40 ((zcz r es').flatMap (prF r es'))
        apply za0
        refine zbx (zbr (zax rfl (zax rfl (zax rfl rfl))) en) ?_
        walk_at "nrm"
        apply za0
        refine zbx (d := .lst [r.toD, .lst (es'.map shD)]) (za8 (zax (zbr rfl ecp) (zax (za8 rfl) rfl))) ?_
        walk_at "nrm"
        apply za0
        refine zbx (zbr (zax (zaw rfl rfl rfl) (zax (zaw rfl rfl rfl) rfl)) ep) ?_
        walk_at "nrm"
        refine zbg (b := false) (zhd (znv (b := true) (zjj (zbr rfl eq) rfl)) (zhd (zcb (zbi rfl (zbr rfl ed) (zom (z1y _)))) (zcb (zbi rfl (za8 (zax rfl (zax rfl rfl))) (zom (zv3 r es')))))) (fun z => by cases z) (fun _ => zb3 ?_)
        exact ⟨_, _, _, _, _, _, rfl⟩
    · rintro ρ ⟨v4, v5, v6, v7, v8, v9, rfl⟩
      exact zfo rfl (zdl rfl)
section
variable {P : Program} {w : World} {K : PySem.W.Frag} {mg : Str -> Option Value} {base : Heap}
noncomputable def sp_law (K : PySem.W.Frag) : Sp := fun vs H Q _ => ∃ (a : Addr) (ns : List Int), vs = [.ref a] /\ SqL K H a (ns.map V.int) /\ ns.length <= 63 /\ ∀ H', Q (.bl true) H'
theorem sp_law_of {K : PySem.W.Frag} {H : Hp} {a : Addr} {ns : List Int} {E : XK} (hl : ns.length <= 63) (hS : SqL K H a (ns.map V.int)) : sp_law K [.ref a] H (fun v _ => v = .bl true) E := ⟨a, ns, rfl, hS, hl, fun _ => rfl⟩
theorem law_ok {a : Wa} (W : Wd K mg a) : zau P w K mg base CX0 7 a.f_1 a.fd_1 ["_law_script"] (sp_law K) := (z5l W).imp fun vs H Q E ⟨a, ns, ev, hS, hl, k⟩ =>
  ⟨H, [.kl (ns.map D.int)], .bl true, zan.refl _, ⟨.ref a, [], ev, ⟨a, _, rfl, hS, zae.ints ns⟩, rfl⟩, rfl, zvj ns hl, fun v Hf' H' x r => by rw [show v = V.bl true from r]; exact k H'⟩
end
section
variable {K : PySem.W.Frag} {mg : Str -> Option Value}
theorem zmi {P : List Value -> Prop} (h : P []) : ∀ us : List Value, us.length = 0 -> P us := fun us e => by
  rw [List.eq_nil_of_length_eq_zero e]
  exact h
theorem zh6 {n : Nat} {P : List Value -> Prop} (h : ∀ a (us : List Value), us.length = n -> P (a :: us)) : ∀ us : List Value, us.length = n + 1 -> P us := fun us e => by
  cases us with
  | nil => cases e
  | cons a us => exact h a us (Nat.succ.inj e)
theorem zfl {P : List Value -> Prop} (h : ∀ a0 : Value, P [a0]) : ∀ us : List Value, us.length = 1 -> P us := zh6 (P := fun us => P (us)) fun a0 => zmi (h a0)
theorem zch {P : List Value -> Prop} (h : ∀ a0 a1 : Value, P [a0, a1]) : ∀ us : List Value, us.length = 2 -> P us := zh6 (P := fun us => P (us)) fun a0 => zh6 (P := fun us => P (a0 :: us)) fun a1 => zmi (h a0 a1)
theorem zix {P : List Value -> Prop} (h : ∀ a0 a1 a2 : Value, P [a0, a1, a2]) : ∀ us : List Value, us.length = 3 -> P us := zh6 (P := fun us => P (us)) fun a0 => zh6 (P := fun us => P (a0 :: us)) fun a1 => zh6 (P := fun us => P (a0 :: a1 :: us)) fun a2 => zmi (h a0 a1 a2)
theorem all_mk {l : PySem.W.OpenLaw} {w : World} {h : Heap} {C_In : Addr} {C_Out : Addr} {C_Least : Addr} {C_Most : Addr} {f_27 : Addr} {od_27 an_27 : Option Addr} {sl_27 : Array (Option Value)} {oc_27 kV_27 dc_27 pm_27 cd_27 ct_27 : Value} {f_16 : Addr} {od_16 an_16 : Option Addr} {sl_16 : Array (Option Value)} {oc_16 kV_16 dc_16 pm_16 cd_16 ct_16 : Value} {f_17 : Addr} {od_17 an_17 : Option Addr} {sl_17 : Array (Option Value)} {oc_17 kV_17 dc_17 pm_17 cd_17 ct_17 : Value} {f_8 : Addr} {od_8 an_8 : Option Addr} {sl_8 : Array (Option Value)} {oc_8 kV_8 dc_8 pm_8 cd_8 ct_8 : Value} {f_21 : Addr} {od_21 an_21 : Option Addr} {sl_21 : Array (Option Value)} {oc_21 kV_21 dc_21 pm_21 cd_21 ct_21 : Value} {f_30 : Addr} {od_30 an_30 : Option Addr} {sl_30 : Array (Option Value)} {oc_30 kV_30 dc_30 pm_30 cd_30 ct_30 : Value} {f_24 : Addr} {od_24 an_24 : Option Addr} {sl_24 : Array (Option Value)} {oc_24 kV_24 dc_24 pm_24 cd_24 ct_24 : Value} {f_9 : Addr} {od_9 an_9 : Option Addr} {sl_9 : Array (Option Value)} {oc_9 kV_9 dc_9 pm_9 cd_9 ct_9 : Value} {f_28 : Addr} {od_28 an_28 : Option Addr} {sl_28 : Array (Option Value)} {oc_28 kV_28 dc_28 pm_28 cd_28 ct_28 : Value} {f_2 : Addr} {od_2 an_2 : Option Addr} {sl_2 : Array (Option Value)} {oc_2 kV_2 dc_2 pm_2 cd_2 ct_2 : Value} {f_0 : Addr} {od_0 an_0 : Option Addr} {sl_0 : Array (Option Value)} {oc_0 kV_0 dc_0 pm_0 cd_0 ct_0 : Value} {f_4 : Addr} {od_4 an_4 : Option Addr} {sl_4 : Array (Option Value)} {oc_4 kV_4 dc_4 pm_4 cd_4 ct_4 : Value} {f_18 : Addr} {od_18 an_18 : Option Addr} {sl_18 : Array (Option Value)} {oc_18 kV_18 dc_18 pm_18 cd_18 ct_18 : Value} {f_25 : Addr} {od_25 an_25 : Option Addr} {sl_25 : Array (Option Value)} {oc_25 kV_25 dc_25 pm_25 cd_25 ct_25 : Value} {f_19 : Addr} {od_19 an_19 : Option Addr} {sl_19 : Array (Option Value)} {oc_19 kV_19 dc_19 pm_19 cd_19 ct_19 : Value} {f_5 : Addr} {od_5 an_5 : Option Addr} {sl_5 : Array (Option Value)} {oc_5 kV_5 dc_5 pm_5 cd_5 ct_5 : Value} {f_3 : Addr} {od_3 an_3 : Option Addr} {sl_3 : Array (Option Value)} {oc_3 kV_3 dc_3 pm_3 cd_3 ct_3 : Value} {f_29 : Addr} {od_29 an_29 : Option Addr} {sl_29 : Array (Option Value)} {oc_29 kV_29 dc_29 pm_29 cd_29 ct_29 : Value} {f_20 : Addr} {od_20 an_20 : Option Addr} {sl_20 : Array (Option Value)} {oc_20 kV_20 dc_20 pm_20 cd_20 ct_20 : Value} {f_22 : Addr} {od_22 an_22 : Option Addr} {sl_22 : Array (Option Value)} {oc_22 kV_22 dc_22 pm_22 cd_22 ct_22 : Value} {f_26 : Addr} {od_26 an_26 : Option Addr} {sl_26 : Array (Option Value)} {oc_26 kV_26 dc_26 pm_26 cd_26 ct_26 : Value} {f_23 : Addr} {od_23 an_23 : Option Addr} {sl_23 : Array (Option Value)} {oc_23 kV_23 dc_23 pm_23 cd_23 ct_23 : Value} {f_1 : Addr} {od_1 an_1 : Option Addr} {sl_1 : Array (Option Value)} {oc_1 kV_1 dc_1 pm_1 cd_1 ct_1 : Value} {f_33 : Addr} {od_33 an_33 : Option Addr} {sl_33 : Array (Option Value)} {oc_33 kV_33 dc_33 pm_33 cd_33 ct_33 : Value} {f_10 : Addr} {od_10 an_10 : Option Addr} {sl_10 : Array (Option Value)} {oc_10 kV_10 dc_10 pm_10 cd_10 ct_10 : Value} {f_11 : Addr} {od_11 an_11 : Option Addr} {sl_11 : Array (Option Value)} {oc_11 kV_11 dc_11 pm_11 cd_11 ct_11 : Value} {f_31 : Addr} {od_31 an_31 : Option Addr} {sl_31 : Array (Option Value)} {oc_31 kV_31 dc_31 pm_31 cd_31 ct_31 : Value} {f_12 : Addr} {od_12 an_12 : Option Addr} {sl_12 : Array (Option Value)} {oc_12 kV_12 dc_12 pm_12 cd_12 ct_12 : Value} {f_13 : Addr} {od_13 an_13 : Option Addr} {sl_13 : Array (Option Value)} {oc_13 kV_13 dc_13 pm_13 cd_13 ct_13 : Value} {f_32 : Addr} {od_32 an_32 : Option Addr} {sl_32 : Array (Option Value)} {oc_32 kV_32 dc_32 pm_32 cd_32 ct_32 : Value} {f_14 : Addr} {od_14 an_14 : Option Addr} {sl_14 : Array (Option Value)} {oc_14 kV_14 dc_14 pm_14 cd_14 ct_14 : Value} {f_6 : Addr} {od_6 an_6 : Option Addr} {sl_6 : Array (Option Value)} {oc_6 kV_6 dc_6 pm_6 cd_6 ct_6 : Value} {f_34 : Addr} {od_34 an_34 : Option Addr} {sl_34 : Array (Option Value)} {oc_34 kV_34 dc_34 pm_34 cd_34 ct_34 : Value} {f_15 : Addr} {od_15 an_15 : Option Addr} {sl_15 : Array (Option Value)} {oc_15 kV_15 dc_15 pm_15 cd_15 ct_15 : Value} {f_7 : Addr} {od_7 an_7 : Option Addr} {sl_7 : Array (Option Value)} {oc_7 kV_7 dc_7 pm_7 cd_7 ct_7 : Value} {fa : Addr} (X : K.In h) (G : h.Ns mainGlobals mg) (hfa : mg "law" = some (.ref fa))
    (aC_In : PySem.W.nsIn K mainGlobals "In" = some (some (.ref C_In)))
    (aC_Out : PySem.W.nsIn K mainGlobals "Out" = some (some (.ref C_Out)))
    (aC_Least : PySem.W.nsIn K mainGlobals "Least" = some (some (.ref C_Least)))
    (aC_Most : PySem.W.nsIn K mainGlobals "Most" = some (some (.ref C_Most)))
    (a_27 : PySem.W.nsIn K mainGlobals "part_of" = some (some (.ref f_27)))
    (l_27 : K.lookup f_27 = some ⟨oc_27, od_27, .func (PySem.W.fnOf "part_of" "part_of" (zba zh7) (za4 zh7) (zak zh7) .none kV_27 dc_27 pm_27 an_27 cd_27 ct_27), sl_27⟩)
    (c_27 : PySem.W.codeIn K cd_27 "part_of" = true)
    (k_27 : PySem.W.keepIn K (.ref f_27) = true)
    (a_16 : PySem.W.nsIn K mainGlobals "worth_in" = some (some (.ref f_16)))
    (l_16 : K.lookup f_16 = some ⟨oc_16, od_16, .func (PySem.W.fnOf "worth_in" "worth_in" (zba zh9) (za4 zh9) (zak zh9) .none kV_16 dc_16 pm_16 an_16 cd_16 ct_16), sl_16⟩)
    (c_16 : PySem.W.codeIn K cd_16 "worth_in" = true)
    (k_16 : PySem.W.keepIn K (.ref f_16) = true)
    (a_17 : PySem.W.nsIn K mainGlobals "worth_not_out" = some (some (.ref f_17)))
    (l_17 : K.lookup f_17 = some ⟨oc_17, od_17, .func (PySem.W.fnOf "worth_not_out" "worth_not_out" (zba zhs) (za4 zhs) (zak zhs) .none kV_17 dc_17 pm_17 an_17 cd_17 ct_17), sl_17⟩)
    (c_17 : PySem.W.codeIn K cd_17 "worth_not_out" = true)
    (k_17 : PySem.W.keepIn K (.ref f_17) = true)
    (a_8 : PySem.W.nsIn K mainGlobals "heavy" = some (some (.ref f_8)))
    (l_8 : K.lookup f_8 = some ⟨oc_8, od_8, .func (PySem.W.fnOf "heavy" "heavy" (zba s_8) (za4 s_8) (zak s_8) .none kV_8 dc_8 pm_8 an_8 cd_8 ct_8), sl_8⟩)
    (c_8 : PySem.W.codeIn K cd_8 "heavy" = true)
    (k_8 : PySem.W.keepIn K (.ref f_8) = true)
    (a_21 : PySem.W.nsIn K mainGlobals "weights_of" = some (some (.ref f_21)))
    (l_21 : K.lookup f_21 = some ⟨oc_21, od_21, .func (PySem.W.fnOf "weights_of" "weights_of" (zba zhb) (za4 zhb) (zak zhb) .none kV_21 dc_21 pm_21 an_21 cd_21 ct_21), sl_21⟩)
    (c_21 : PySem.W.codeIn K cd_21 "weights_of" = true)
    (k_21 : PySem.W.keepIn K (.ref f_21) = true)
    (a_30 : PySem.W.nsIn K mainGlobals "body_of" = some (some (.ref f_30)))
    (l_30 : K.lookup f_30 = some ⟨oc_30, od_30, .func (PySem.W.fnOf "body_of" "body_of" (zba zg5) (za4 zg5) (zak zg5) .none kV_30 dc_30 pm_30 an_30 cd_30 ct_30), sl_30⟩)
    (c_30 : PySem.W.codeIn K cd_30 "body_of" = true)
    (k_30 : PySem.W.keepIn K (.ref f_30) = true)
    (a_24 : PySem.W.nsIn K mainGlobals "guard_of" = some (some (.ref f_24)))
    (l_24 : K.lookup f_24 = some ⟨oc_24, od_24, .func (PySem.W.fnOf "guard_of" "guard_of" (zba zhw) (za4 zhw) (zak zhw) .none kV_24 dc_24 pm_24 an_24 cd_24 ct_24), sl_24⟩)
    (c_24 : PySem.W.codeIn K cd_24 "guard_of" = true)
    (k_24 : PySem.W.keepIn K (.ref f_24) = true)
    (a_9 : PySem.W.nsIn K mainGlobals "pressed_by" = some (some (.ref f_9)))
    (l_9 : K.lookup f_9 = some ⟨oc_9, od_9, .func (PySem.W.fnOf "pressed_by" "pressed_by" (zba s_9) (za4 s_9) (zak s_9) .none kV_9 dc_9 pm_9 an_9 cd_9 ct_9), sl_9⟩)
    (c_9 : PySem.W.codeIn K cd_9 "pressed_by" = true)
    (k_9 : PySem.W.keepIn K (.ref f_9) = true)
    (a_28 : PySem.W.nsIn K mainGlobals "pressed" = some (some (.ref f_28)))
    (l_28 : K.lookup f_28 = some ⟨oc_28, od_28, .func (PySem.W.fnOf "pressed" "pressed" (zba zik) (za4 zik) (zak zik) .none kV_28 dc_28 pm_28 an_28 cd_28 ct_28), sl_28⟩)
    (c_28 : PySem.W.codeIn K cd_28 "pressed" = true)
    (k_28 : PySem.W.keepIn K (.ref f_28) = true)
    (a_2 : PySem.W.nsIn K mainGlobals "_law_cell_at" = some (some (.ref f_2)))
    (l_2 : K.lookup f_2 = some ⟨oc_2, od_2, .func (PySem.W.fnOf "_law_cell_at" "_law_cell_at" (zba s_2) (za4 s_2) (zak s_2) .none kV_2 dc_2 pm_2 an_2 cd_2 ct_2), sl_2⟩)
    (c_2 : PySem.W.codeIn K cd_2 "_law_cell_at" = true)
    (k_2 : PySem.W.keepIn K (.ref f_2) = true)
    (a_0 : PySem.W.nsIn K mainGlobals "_law_mixed" = some (some (.ref f_0)))
    (l_0 : K.lookup f_0 = some ⟨oc_0, od_0, .func (PySem.W.fnOf "_law_mixed" "_law_mixed" (zba s_0) (za4 s_0) (zak s_0) .none kV_0 dc_0 pm_0 an_0 cd_0 ct_0), sl_0⟩)
    (c_0 : PySem.W.codeIn K cd_0 "_law_mixed" = true)
    (k_0 : PySem.W.keepIn K (.ref f_0) = true)
    (a_4 : PySem.W.nsIn K mainGlobals "_law_worth" = some (some (.ref f_4)))
    (l_4 : K.lookup f_4 = some ⟨oc_4, od_4, .func (PySem.W.fnOf "_law_worth" "_law_worth" (zba s_4) (za4 s_4) (zak s_4) .none kV_4 dc_4 pm_4 an_4 cd_4 ct_4), sl_4⟩)
    (c_4 : PySem.W.codeIn K cd_4 "_law_worth" = true)
    (k_4 : PySem.W.keepIn K (.ref f_4) = true)
    (a_18 : PySem.W.nsIn K mainGlobals "_law_part" = some (some (.ref f_18)))
    (l_18 : K.lookup f_18 = some ⟨oc_18, od_18, .func (PySem.W.fnOf "_law_part" "_law_part" (zba zhf) (za4 zhf) (zak zhf) .none kV_18 dc_18 pm_18 an_18 cd_18 ct_18), sl_18⟩)
    (c_18 : PySem.W.codeIn K cd_18 "_law_part" = true)
    (k_18 : PySem.W.keepIn K (.ref f_18) = true)
    (a_25 : PySem.W.nsIn K mainGlobals "_law_rule" = some (some (.ref f_25)))
    (l_25 : K.lookup f_25 = some ⟨oc_25, od_25, .func (PySem.W.fnOf "_law_rule" "_law_rule" (zba zie) (za4 zie) (zak zie) .none kV_25 dc_25 pm_25 an_25 cd_25 ct_25), sl_25⟩)
    (c_25 : PySem.W.codeIn K cd_25 "_law_rule" = true)
    (k_25 : PySem.W.keepIn K (.ref f_25) = true)
    (a_19 : PySem.W.nsIn K mainGlobals "_law_longer" = some (some (.ref f_19)))
    (l_19 : K.lookup f_19 = some ⟨oc_19, od_19, .func (PySem.W.fnOf "_law_longer" "_law_longer" (zba zg2) (za4 zg2) (zak zg2) .none kV_19 dc_19 pm_19 an_19 cd_19 ct_19), sl_19⟩)
    (c_19 : PySem.W.codeIn K cd_19 "_law_longer" = true)
    (k_19 : PySem.W.keepIn K (.ref f_19) = true)
    (a_5 : PySem.W.nsIn K mainGlobals "_law_named" = some (some (.ref f_5)))
    (l_5 : K.lookup f_5 = some ⟨oc_5, od_5, .func (PySem.W.fnOf "_law_named" "_law_named" (zba s_5) (za4 s_5) (zak s_5) .none kV_5 dc_5 pm_5 an_5 cd_5 ct_5), sl_5⟩)
    (c_5 : PySem.W.codeIn K cd_5 "_law_named" = true)
    (k_5 : PySem.W.keepIn K (.ref f_5) = true)
    (a_3 : PySem.W.nsIn K mainGlobals "_law_near" = some (some (.ref f_3)))
    (l_3 : K.lookup f_3 = some ⟨oc_3, od_3, .func (PySem.W.fnOf "_law_near" "_law_near" (zba s_3) (za4 s_3) (zak s_3) .none kV_3 dc_3 pm_3 an_3 cd_3 ct_3), sl_3⟩)
    (c_3 : PySem.W.codeIn K cd_3 "_law_near" = true)
    (k_3 : PySem.W.keepIn K (.ref f_3) = true)
    (a_29 : PySem.W.nsIn K mainGlobals "_law_part_sure" = some (some (.ref f_29)))
    (l_29 : K.lookup f_29 = some ⟨oc_29, od_29, .func (PySem.W.fnOf "_law_part_sure" "_law_part_sure" (zba zh8) (za4 zh8) (zak zh8) .none kV_29 dc_29 pm_29 an_29 cd_29 ct_29), sl_29⟩)
    (c_29 : PySem.W.codeIn K cd_29 "_law_part_sure" = true)
    (k_29 : PySem.W.keepIn K (.ref f_29) = true)
    (a_20 : PySem.W.nsIn K mainGlobals "_law_broken" = some (some (.ref f_20)))
    (l_20 : K.lookup f_20 = some ⟨oc_20, od_20, .func (PySem.W.fnOf "_law_broken" "_law_broken" (zba zgu) (za4 zgu) (zak zgu) .none kV_20 dc_20 pm_20 an_20 cd_20 ct_20), sl_20⟩)
    (c_20 : PySem.W.codeIn K cd_20 "_law_broken" = true)
    (k_20 : PySem.W.keepIn K (.ref f_20) = true)
    (a_22 : PySem.W.nsIn K mainGlobals "_law_due" = some (some (.ref f_22)))
    (l_22 : K.lookup f_22 = some ⟨oc_22, od_22, .func (PySem.W.fnOf "_law_due" "_law_due" (zba zg7) (za4 zg7) (zak zg7) .none kV_22 dc_22 pm_22 an_22 cd_22 ct_22), sl_22⟩)
    (c_22 : PySem.W.codeIn K cd_22 "_law_due" = true)
    (k_22 : PySem.W.keepIn K (.ref f_22) = true)
    (a_26 : PySem.W.nsIn K mainGlobals "_law_pairs" = some (some (.ref f_26)))
    (l_26 : K.lookup f_26 = some ⟨oc_26, od_26, .func (PySem.W.fnOf "_law_pairs" "_law_pairs" (zba zhe) (za4 zhe) (zak zhe) .none kV_26 dc_26 pm_26 an_26 cd_26 ct_26), sl_26⟩)
    (c_26 : PySem.W.codeIn K cd_26 "_law_pairs" = true)
    (k_26 : PySem.W.keepIn K (.ref f_26) = true)
    (a_23 : PySem.W.nsIn K mainGlobals "_law_copy" = some (some (.ref f_23)))
    (l_23 : K.lookup f_23 = some ⟨oc_23, od_23, .func (PySem.W.fnOf "_law_copy" "_law_copy" (zba zhc) (za4 zhc) (zak zhc) .none kV_23 dc_23 pm_23 an_23 cd_23 ct_23), sl_23⟩)
    (c_23 : PySem.W.codeIn K cd_23 "_law_copy" = true)
    (k_23 : PySem.W.keepIn K (.ref f_23) = true)
    (a_1 : PySem.W.nsIn K mainGlobals "law" = some (some (.ref f_1)))
    (l_1 : K.lookup f_1 = some ⟨oc_1, od_1, .func (PySem.W.fnOf "law" "law" (zba s_1) (za4 s_1) (zak s_1) .none kV_1 dc_1 pm_1 an_1 cd_1 ct_1), sl_1⟩)
    (c_1 : PySem.W.codeIn K cd_1 "law" = true)
    (k_1 : PySem.W.keepIn K (.ref f_1) = true)
    (a_33 : PySem.W.findIn K (.ref C_In) "__init__" = some (some (.ref f_33)))
    (i_33 : PySem.W.isFn K (.ref f_33) = true)
    (l_33 : K.lookup f_33 = some ⟨oc_33, od_33, .func (PySem.W.fnOf "__init__" "In.__init__" (zba zg1) (za4 zg1) (zak zg1) .none kV_33 dc_33 pm_33 an_33 cd_33 ct_33), sl_33⟩)
    (c_33 : PySem.W.codeIn K cd_33 "In.__init__" = true)
    (k_33 : PySem.W.keepIn K (.ref f_33) = true)
    (a_10 : PySem.W.findIn K (.ref C_In) "sure" = some (some (.ref f_10)))
    (i_10 : PySem.W.isFn K (.ref f_10) = true)
    (l_10 : K.lookup f_10 = some ⟨oc_10, od_10, .func (PySem.W.fnOf "sure" "In.sure" (zba zhg) (za4 zhg) (zak zhg) .none kV_10 dc_10 pm_10 an_10 cd_10 ct_10), sl_10⟩)
    (c_10 : PySem.W.codeIn K cd_10 "In.sure" = true)
    (k_10 : PySem.W.keepIn K (.ref f_10) = true)
    (a_11 : PySem.W.findIn K (.ref C_In) "tips" = some (some (.ref f_11)))
    (i_11 : PySem.W.isFn K (.ref f_11) = true)
    (l_11 : K.lookup f_11 = some ⟨oc_11, od_11, .func (PySem.W.fnOf "tips" "In.tips" (zba zg6) (za4 zg6) (zak zg6) .none kV_11 dc_11 pm_11 an_11 cd_11 ct_11), sl_11⟩)
    (c_11 : PySem.W.codeIn K cd_11 "In.tips" = true)
    (k_11 : PySem.W.keepIn K (.ref f_11) = true)
    (a_31 : PySem.W.findIn K (.ref C_Out) "__init__" = some (some (.ref f_31)))
    (i_31 : PySem.W.isFn K (.ref f_31) = true)
    (l_31 : K.lookup f_31 = some ⟨oc_31, od_31, .func (PySem.W.fnOf "__init__" "Out.__init__" (zba zg0) (za4 zg0) (zak zg0) .none kV_31 dc_31 pm_31 an_31 cd_31 ct_31), sl_31⟩)
    (c_31 : PySem.W.codeIn K cd_31 "Out.__init__" = true)
    (k_31 : PySem.W.keepIn K (.ref f_31) = true)
    (a_12 : PySem.W.findIn K (.ref C_Out) "sure" = some (some (.ref f_12)))
    (i_12 : PySem.W.isFn K (.ref f_12) = true)
    (l_12 : K.lookup f_12 = some ⟨oc_12, od_12, .func (PySem.W.fnOf "sure" "Out.sure" (zba zg8) (za4 zg8) (zak zg8) .none kV_12 dc_12 pm_12 an_12 cd_12 ct_12), sl_12⟩)
    (c_12 : PySem.W.codeIn K cd_12 "Out.sure" = true)
    (k_12 : PySem.W.keepIn K (.ref f_12) = true)
    (a_13 : PySem.W.findIn K (.ref C_Out) "tips" = some (some (.ref f_13)))
    (i_13 : PySem.W.isFn K (.ref f_13) = true)
    (l_13 : K.lookup f_13 = some ⟨oc_13, od_13, .func (PySem.W.fnOf "tips" "Out.tips" (zba zh1) (za4 zh1) (zak zh1) .none kV_13 dc_13 pm_13 an_13 cd_13 ct_13), sl_13⟩)
    (c_13 : PySem.W.codeIn K cd_13 "Out.tips" = true)
    (k_13 : PySem.W.keepIn K (.ref f_13) = true)
    (a_32 : PySem.W.findIn K (.ref C_Least) "__init__" = some (some (.ref f_32)))
    (i_32 : PySem.W.isFn K (.ref f_32) = true)
    (l_32 : K.lookup f_32 = some ⟨oc_32, od_32, .func (PySem.W.fnOf "__init__" "Least.__init__" (zba zhi) (za4 zhi) (zak zhi) .none kV_32 dc_32 pm_32 an_32 cd_32 ct_32), sl_32⟩)
    (c_32 : PySem.W.codeIn K cd_32 "Least.__init__" = true)
    (k_32 : PySem.W.keepIn K (.ref f_32) = true)
    (a_14 : PySem.W.findIn K (.ref C_Least) "sure" = some (some (.ref f_14)))
    (i_14 : PySem.W.isFn K (.ref f_14) = true)
    (l_14 : K.lookup f_14 = some ⟨oc_14, od_14, .func (PySem.W.fnOf "sure" "Least.sure" (zba zgw) (za4 zgw) (zak zgw) .none kV_14 dc_14 pm_14 an_14 cd_14 ct_14), sl_14⟩)
    (c_14 : PySem.W.codeIn K cd_14 "Least.sure" = true)
    (k_14 : PySem.W.keepIn K (.ref f_14) = true)
    (a_6 : PySem.W.findIn K (.ref C_Least) "tips" = some (some (.ref f_6)))
    (i_6 : PySem.W.isFn K (.ref f_6) = true)
    (l_6 : K.lookup f_6 = some ⟨oc_6, od_6, .func (PySem.W.fnOf "tips" "Least.tips" (zba s_6) (za4 s_6) (zak s_6) .none kV_6 dc_6 pm_6 an_6 cd_6 ct_6), sl_6⟩)
    (c_6 : PySem.W.codeIn K cd_6 "Least.tips" = true)
    (k_6 : PySem.W.keepIn K (.ref f_6) = true)
    (a_34 : PySem.W.findIn K (.ref C_Most) "__init__" = some (some (.ref f_34)))
    (i_34 : PySem.W.isFn K (.ref f_34) = true)
    (l_34 : K.lookup f_34 = some ⟨oc_34, od_34, .func (PySem.W.fnOf "__init__" "Most.__init__" (zba zgz) (za4 zgz) (zak zgz) .none kV_34 dc_34 pm_34 an_34 cd_34 ct_34), sl_34⟩)
    (c_34 : PySem.W.codeIn K cd_34 "Most.__init__" = true)
    (k_34 : PySem.W.keepIn K (.ref f_34) = true)
    (a_15 : PySem.W.findIn K (.ref C_Most) "sure" = some (some (.ref f_15)))
    (i_15 : PySem.W.isFn K (.ref f_15) = true)
    (l_15 : K.lookup f_15 = some ⟨oc_15, od_15, .func (PySem.W.fnOf "sure" "Most.sure" (zba zh0) (za4 zh0) (zak zh0) .none kV_15 dc_15 pm_15 an_15 cd_15 ct_15), sl_15⟩)
    (c_15 : PySem.W.codeIn K cd_15 "Most.sure" = true)
    (k_15 : PySem.W.keepIn K (.ref f_15) = true)
    (a_7 : PySem.W.findIn K (.ref C_Most) "tips" = some (some (.ref f_7)))
    (i_7 : PySem.W.isFn K (.ref f_7) = true)
    (l_7 : K.lookup f_7 = some ⟨oc_7, od_7, .func (PySem.W.fnOf "tips" "Most.tips" (zba s_7) (za4 s_7) (zak s_7) .none kV_7 dc_7 pm_7 an_7 cd_7 ct_7), sl_7⟩)
    (c_7 : PySem.W.codeIn K cd_7 "Most.tips" = true)
    (k_7 : PySem.W.keepIn K (.ref f_7) = true)
    (pg_In : PySem.W.plainGet K C_In Str.empty = true)
    (hd_In : PySem.W.hasDictIn K C_In = true)
    (po_In : PySem.W.plainOver K C_In = true)
    (sa_In : PySem.W.findIn K (.ref C_In) "__setattr__" = some (some (.builtin "object.__setattr__")))
    (mk_In : PySem.W.makesIn K C_In = true)
    (kc_In : PySem.W.keepIn K (.ref C_In) = true)
    (na_In_thing : PySem.W.findIn K (.ref C_In) "thing" = some none)
    (pg_Out : PySem.W.plainGet K C_Out Str.empty = true)
    (hd_Out : PySem.W.hasDictIn K C_Out = true)
    (po_Out : PySem.W.plainOver K C_Out = true)
    (sa_Out : PySem.W.findIn K (.ref C_Out) "__setattr__" = some (some (.builtin "object.__setattr__")))
    (mk_Out : PySem.W.makesIn K C_Out = true)
    (kc_Out : PySem.W.keepIn K (.ref C_Out) = true)
    (na_Out_thing : PySem.W.findIn K (.ref C_Out) "thing" = some none)
    (pg_Least : PySem.W.plainGet K C_Least Str.empty = true)
    (hd_Least : PySem.W.hasDictIn K C_Least = true)
    (po_Least : PySem.W.plainOver K C_Least = true)
    (sa_Least : PySem.W.findIn K (.ref C_Least) "__setattr__" = some (some (.builtin "object.__setattr__")))
    (mk_Least : PySem.W.makesIn K C_Least = true)
    (kc_Least : PySem.W.keepIn K (.ref C_Least) = true)
    (na_Least_bound : PySem.W.findIn K (.ref C_Least) "bound" = some none)
    (na_Least_pieces : PySem.W.findIn K (.ref C_Least) "pieces" = some none)
    (pg_Most : PySem.W.plainGet K C_Most Str.empty = true)
    (hd_Most : PySem.W.hasDictIn K C_Most = true)
    (po_Most : PySem.W.plainOver K C_Most = true)
    (sa_Most : PySem.W.findIn K (.ref C_Most) "__setattr__" = some (some (.builtin "object.__setattr__")))
    (mk_Most : PySem.W.makesIn K C_Most = true)
    (kc_Most : PySem.W.keepIn K (.ref C_Most) = true)
    (na_Most_bound : PySem.W.findIn K (.ref C_Most) "bound" = some none)
    (na_Most_pieces : PySem.W.findIn K (.ref C_Most) "pieces" = some none)
    (kt_NoneType_bool : PySem.W.kitOne K (.type "NoneType") (.type "bool") = some false)
    (kt_bool_bool : PySem.W.kitOne K (.type "bool") (.type "bool") = some true)
    (kt_int_bool : PySem.W.kitOne K (.type "int") (.type "bool") = some false)
    (kt_str_bool : PySem.W.kitOne K (.type "str") (.type "bool") = some false)
    (kt_list_bool : PySem.W.kitOne K (.type "list") (.type "bool") = some false)
    (kt_tuple_bool : PySem.W.kitOne K (.type "tuple") (.type "bool") = some false)
    (kt_dict_bool : PySem.W.kitOne K (.type "dict") (.type "bool") = some false)
    (kt_NoneType_int : PySem.W.kitOne K (.type "NoneType") (.type "int") = some false)
    (kt_bool_int : PySem.W.kitOne K (.type "bool") (.type "int") = some true)
    (kt_int_int : PySem.W.kitOne K (.type "int") (.type "int") = some true)
    (kt_str_int : PySem.W.kitOne K (.type "str") (.type "int") = some false)
    (kt_list_int : PySem.W.kitOne K (.type "list") (.type "int") = some false)
    (kt_tuple_int : PySem.W.kitOne K (.type "tuple") (.type "int") = some false)
    (kt_dict_int : PySem.W.kitOne K (.type "dict") (.type "int") = some false)
    (kt_NoneType_list : PySem.W.kitOne K (.type "NoneType") (.type "list") = some false)
    (kt_bool_list : PySem.W.kitOne K (.type "bool") (.type "list") = some false)
    (kt_int_list : PySem.W.kitOne K (.type "int") (.type "list") = some false)
    (kt_str_list : PySem.W.kitOne K (.type "str") (.type "list") = some false)
    (kt_list_list : PySem.W.kitOne K (.type "list") (.type "list") = some true)
    (kt_tuple_list : PySem.W.kitOne K (.type "tuple") (.type "list") = some false)
    (kt_dict_list : PySem.W.kitOne K (.type "dict") (.type "list") = some false)
    (kt_NoneType_tuple : PySem.W.kitOne K (.type "NoneType") (.type "tuple") = some false)
    (kt_bool_tuple : PySem.W.kitOne K (.type "bool") (.type "tuple") = some false)
    (kt_int_tuple : PySem.W.kitOne K (.type "int") (.type "tuple") = some false)
    (kt_str_tuple : PySem.W.kitOne K (.type "str") (.type "tuple") = some false)
    (kt_list_tuple : PySem.W.kitOne K (.type "list") (.type "tuple") = some false)
    (kt_tuple_tuple : PySem.W.kitOne K (.type "tuple") (.type "tuple") = some true)
    (kt_dict_tuple : PySem.W.kitOne K (.type "dict") (.type "tuple") = some false)
    (z_all : PySem.W.nsIn K mainGlobals "all" = some none)
    (z_bool : PySem.W.nsIn K mainGlobals "bool" = some none)
    (z_enumerate : PySem.W.nsIn K mainGlobals "enumerate" = some none)
    (z_int : PySem.W.nsIn K mainGlobals "int" = some none)
    (z_isinstance : PySem.W.nsIn K mainGlobals "isinstance" = some none)
    (z_len : PySem.W.nsIn K mainGlobals "len" = some none)
    (z_list : PySem.W.nsIn K mainGlobals "list" = some none)
    (z_range : PySem.W.nsIn K mainGlobals "range" = some none)
    (z_set : PySem.W.nsIn K mainGlobals "set" = some none)
    (z_sorted : PySem.W.nsIn K mainGlobals "sorted" = some none)
    (z_sum : PySem.W.nsIn K mainGlobals "sum" = some none)
    (z_tuple : PySem.W.nsIn K mainGlobals "tuple" = some none)
    : ∃ fd : FuncData, (∀ (s : Shared) (v : Value), BindsTo s fd ⟨[v], []⟩ [("_law_script", v)]) /\ ∃ a : Wa, ∃ W : Wd K mg a, a.f_1 = fa /\ a.fd_1 = fd := by
  have e := hfa.symm.trans (PySem.W.mg_of X G a_1)
  cases e
  have F_27 := zbl (st := zh7) l_27 c_27 k_27
  have F_16 := zbl (st := zh9) l_16 c_16 k_16
  have F_17 := zbl (st := zhs) l_17 c_17 k_17
  have F_8 := zbl (st := s_8) l_8 c_8 k_8
  have F_21 := zbl (st := zhb) l_21 c_21 k_21
  have F_30 := zbl (st := zg5) l_30 c_30 k_30
  have F_24 := zbl (st := zhw) l_24 c_24 k_24
  have F_9 := zbl (st := s_9) l_9 c_9 k_9
  have F_28 := zbl (st := zik) l_28 c_28 k_28
  have F_2 := zbl (st := s_2) l_2 c_2 k_2
  have F_0 := zbl (st := s_0) l_0 c_0 k_0
  have F_4 := zbl (st := s_4) l_4 c_4 k_4
  have F_18 := zbl (st := zhf) l_18 c_18 k_18
  have F_25 := zbl (st := zie) l_25 c_25 k_25
  have F_19 := zbl (st := zg2) l_19 c_19 k_19
  have F_5 := zbl (st := s_5) l_5 c_5 k_5
  have F_3 := zbl (st := s_3) l_3 c_3 k_3
  have F_29 := zbl (st := zh8) l_29 c_29 k_29
  have F_20 := zbl (st := zgu) l_20 c_20 k_20
  have F_22 := zbl (st := zg7) l_22 c_22 k_22
  have F_26 := zbl (st := zhe) l_26 c_26 k_26
  have F_23 := zbl (st := zhc) l_23 c_23 k_23
  have F_1 := zbl (st := s_1) l_1 c_1 k_1
  have F_33 := zbl (st := zg1) l_33 c_33 k_33
  have F_10 := zbl (st := zhg) l_10 c_10 k_10
  have F_11 := zbl (st := zg6) l_11 c_11 k_11
  have F_31 := zbl (st := zg0) l_31 c_31 k_31
  have F_12 := zbl (st := zg8) l_12 c_12 k_12
  have F_13 := zbl (st := zh1) l_13 c_13 k_13
  have F_32 := zbl (st := zhi) l_32 c_32 k_32
  have F_14 := zbl (st := zgw) l_14 c_14 k_14
  have F_6 := zbl (st := s_6) l_6 c_6 k_6
  have F_34 := zbl (st := zgz) l_34 c_34 k_34
  have F_15 := zbl (st := zh0) l_15 c_15 k_15
  have F_7 := zbl (st := s_7) l_7 c_7 k_7
  exact ⟨PySem.W.fnOf "law" "law" (zba s_1) (za4 s_1) (zak s_1) .none kV_1 dc_1 pm_1 an_1 cd_1 ct_1, fun s v => .of_eq rfl, {
    f_27 := f_27,
    fd_27 := _,
    f_16 := f_16,
    fd_16 := _,
    f_17 := f_17,
    fd_17 := _,
    f_8 := f_8,
    fd_8 := _,
    f_21 := f_21,
    fd_21 := _,
    f_30 := f_30,
    fd_30 := _,
    f_24 := f_24,
    fd_24 := _,
    f_9 := f_9,
    fd_9 := _,
    f_28 := f_28,
    fd_28 := _,
    f_2 := f_2,
    fd_2 := _,
    f_0 := f_0,
    fd_0 := _,
    f_4 := f_4,
    fd_4 := _,
    f_18 := f_18,
    fd_18 := _,
    f_25 := f_25,
    fd_25 := _,
    f_19 := f_19,
    fd_19 := _,
    f_5 := f_5,
    fd_5 := _,
    f_3 := f_3,
    fd_3 := _,
    f_29 := f_29,
    fd_29 := _,
    f_20 := f_20,
    fd_20 := _,
    f_22 := f_22,
    fd_22 := _,
    f_26 := f_26,
    fd_26 := _,
    f_23 := f_23,
    fd_23 := _,
    f_1 := f_1,
    fd_1 := _,
    f_33 := f_33,
    fd_33 := _,
    f_10 := f_10,
    fd_10 := _,
    f_11 := f_11,
    fd_11 := _,
    f_31 := f_31,
    fd_31 := _,
    f_12 := f_12,
    fd_12 := _,
    f_13 := f_13,
    fd_13 := _,
    f_32 := f_32,
    fd_32 := _,
    f_14 := f_14,
    fd_14 := _,
    f_6 := f_6,
    fd_6 := _,
    f_34 := f_34,
    fd_34 := _,
    f_15 := f_15,
    fd_15 := _,
    f_7 := f_7,
    fd_7 := _,
    C_In := C_In,
    C_Out := C_Out,
    C_Least := C_Least,
    C_Most := C_Most }, {
    F_27 := F_27,
    b_27 := F_27.binds fun _ _ _ _ _ _ us hl => by
      revert us hl
      exact zfl fun _ => rfl,
    g_27 := PySem.W.mg_of X G a_27,
    F_16 := F_16,
    b_16 := F_16.binds fun _ _ _ _ _ _ us hl => by
      revert us hl
      exact zch fun _ _ => rfl,
    g_16 := PySem.W.mg_of X G a_16,
    F_17 := F_17,
    b_17 := F_17.binds fun _ _ _ _ _ _ us hl => by
      revert us hl
      exact zch fun _ _ => rfl,
    g_17 := PySem.W.mg_of X G a_17,
    F_8 := F_8,
    b_8 := F_8.binds fun _ _ _ _ _ _ us hl => by
      revert us hl
      exact zix fun _ _ _ => rfl,
    g_8 := PySem.W.mg_of X G a_8,
    F_21 := F_21,
    b_21 := F_21.binds fun _ _ _ _ _ _ us hl => by
      revert us hl
      exact zfl fun _ => rfl,
    g_21 := PySem.W.mg_of X G a_21,
    F_30 := F_30,
    b_30 := F_30.binds fun _ _ _ _ _ _ us hl => by
      revert us hl
      exact zfl fun _ => rfl,
    g_30 := PySem.W.mg_of X G a_30,
    F_24 := F_24,
    b_24 := F_24.binds fun _ _ _ _ _ _ us hl => by
      revert us hl
      exact zfl fun _ => rfl,
    g_24 := PySem.W.mg_of X G a_24,
    F_9 := F_9,
    b_9 := F_9.binds fun _ _ _ _ _ _ us hl => by
      revert us hl
      exact zch fun _ _ => rfl,
    g_9 := PySem.W.mg_of X G a_9,
    F_28 := F_28,
    b_28 := F_28.binds fun _ _ _ _ _ _ us hl => by
      revert us hl
      exact zch fun _ _ => rfl,
    g_28 := PySem.W.mg_of X G a_28,
    F_2 := F_2,
    b_2 := F_2.binds fun _ _ _ _ _ _ us hl => by
      revert us hl
      exact zch fun _ _ => rfl,
    g_2 := PySem.W.mg_of X G a_2,
    F_0 := F_0,
    b_0 := F_0.binds fun _ _ _ _ _ _ us hl => by
      revert us hl
      exact zch fun _ _ => rfl,
    g_0 := PySem.W.mg_of X G a_0,
    F_4 := F_4,
    b_4 := F_4.binds fun _ _ _ _ _ _ us hl => by
      revert us hl
      exact zfl fun _ => rfl,
    g_4 := PySem.W.mg_of X G a_4,
    F_18 := F_18,
    b_18 := F_18.binds fun _ _ _ _ _ _ us hl => by
      revert us hl
      exact zch fun _ _ => rfl,
    g_18 := PySem.W.mg_of X G a_18,
    F_25 := F_25,
    b_25 := F_25.binds fun _ _ _ _ _ _ us hl => by
      revert us hl
      exact zch fun _ _ => rfl,
    g_25 := PySem.W.mg_of X G a_25,
    F_19 := F_19,
    b_19 := F_19.binds fun _ _ _ _ _ _ us hl => by
      revert us hl
      exact zix fun _ _ _ => rfl,
    g_19 := PySem.W.mg_of X G a_19,
    F_5 := F_5,
    b_5 := F_5.binds fun _ _ _ _ _ _ us hl => by
      revert us hl
      exact zfl fun _ => rfl,
    g_5 := PySem.W.mg_of X G a_5,
    F_3 := F_3,
    b_3 := F_3.binds fun _ _ _ _ _ _ us hl => by
      revert us hl
      exact zix fun _ _ _ => rfl,
    g_3 := PySem.W.mg_of X G a_3,
    F_29 := F_29,
    b_29 := F_29.binds fun _ _ _ _ _ _ us hl => by
      revert us hl
      exact zch fun _ _ => rfl,
    g_29 := PySem.W.mg_of X G a_29,
    F_20 := F_20,
    b_20 := F_20.binds fun _ _ _ _ _ _ us hl => by
      revert us hl
      exact zch fun _ _ => rfl,
    g_20 := PySem.W.mg_of X G a_20,
    F_22 := F_22,
    b_22 := F_22.binds fun _ _ _ _ _ _ us hl => by
      revert us hl
      exact zch fun _ _ => rfl,
    g_22 := PySem.W.mg_of X G a_22,
    F_26 := F_26,
    b_26 := F_26.binds fun _ _ _ _ _ _ us hl => by
      revert us hl
      exact zfl fun _ => rfl,
    g_26 := PySem.W.mg_of X G a_26,
    F_23 := F_23,
    b_23 := F_23.binds fun _ _ _ _ _ _ us hl => by
      revert us hl
      exact zfl fun _ => rfl,
    g_23 := PySem.W.mg_of X G a_23,
    F_1 := F_1,
    b_1 := F_1.binds fun _ _ _ _ _ _ us hl => by
      revert us hl
      exact zfl fun _ => rfl,
    g_1 := PySem.W.mg_of X G a_1,
    F_33 := F_33,
    b_33 := F_33.binds fun _ _ _ _ _ _ us hl => by
      revert us hl
      exact zch fun _ _ => rfl,
    F_10 := F_10,
    b_10 := F_10.binds fun _ _ _ _ _ _ us hl => by
      revert us hl
      exact zch fun _ _ => rfl,
    F_11 := F_11,
    b_11 := F_11.binds fun _ _ _ _ _ _ us hl => by
      revert us hl
      exact zch fun _ _ => rfl,
    F_31 := F_31,
    b_31 := F_31.binds fun _ _ _ _ _ _ us hl => by
      revert us hl
      exact zch fun _ _ => rfl,
    F_12 := F_12,
    b_12 := F_12.binds fun _ _ _ _ _ _ us hl => by
      revert us hl
      exact zch fun _ _ => rfl,
    F_13 := F_13,
    b_13 := F_13.binds fun _ _ _ _ _ _ us hl => by
      revert us hl
      exact zch fun _ _ => rfl,
    F_32 := F_32,
    b_32 := F_32.binds fun _ _ _ _ _ _ us hl => by
      revert us hl
      exact zix fun _ _ _ => rfl,
    F_14 := F_14,
    b_14 := F_14.binds fun _ _ _ _ _ _ us hl => by
      revert us hl
      exact zch fun _ _ => rfl,
    F_6 := F_6,
    b_6 := F_6.binds fun _ _ _ _ _ _ us hl => by
      revert us hl
      exact zch fun _ _ => rfl,
    F_34 := F_34,
    b_34 := F_34.binds fun _ _ _ _ _ _ us hl => by
      revert us hl
      exact zix fun _ _ _ => rfl,
    F_15 := F_15,
    b_15 := F_15.binds fun _ _ _ _ _ _ us hl => by
      revert us hl
      exact zch fun _ _ => rfl,
    F_7 := F_7,
    b_7 := F_7.binds fun _ _ _ _ _ _ us hl => by
      revert us hl
      exact zch fun _ _ => rfl,
    g_In := PySem.W.mg_of X G aC_In,
    cl_In := ⟨pg_In, hd_In, po_In, sa_In⟩,
    mk_In := ⟨mk_In, a_33, i_33, kc_In⟩,
    na_In_thing := na_In_thing,
    m_10 := ⟨a_10, i_10, k_10⟩,
    m_11 := ⟨a_11, i_11, k_11⟩,
    g_Out := PySem.W.mg_of X G aC_Out,
    cl_Out := ⟨pg_Out, hd_Out, po_Out, sa_Out⟩,
    mk_Out := ⟨mk_Out, a_31, i_31, kc_Out⟩,
    na_Out_thing := na_Out_thing,
    m_12 := ⟨a_12, i_12, k_12⟩,
    m_13 := ⟨a_13, i_13, k_13⟩,
    g_Least := PySem.W.mg_of X G aC_Least,
    cl_Least := ⟨pg_Least, hd_Least, po_Least, sa_Least⟩,
    mk_Least := ⟨mk_Least, a_32, i_32, kc_Least⟩,
    na_Least_bound := na_Least_bound,
    na_Least_pieces := na_Least_pieces,
    m_14 := ⟨a_14, i_14, k_14⟩,
    m_6 := ⟨a_6, i_6, k_6⟩,
    g_Most := PySem.W.mg_of X G aC_Most,
    cl_Most := ⟨pg_Most, hd_Most, po_Most, sa_Most⟩,
    mk_Most := ⟨mk_Most, a_34, i_34, kc_Most⟩,
    na_Most_bound := na_Most_bound,
    na_Most_pieces := na_Most_pieces,
    m_15 := ⟨a_15, i_15, k_15⟩,
    m_7 := ⟨a_7, i_7, k_7⟩,
    kt_NoneType_bool := kt_NoneType_bool,
    kt_bool_bool := kt_bool_bool,
    kt_int_bool := kt_int_bool,
    kt_str_bool := kt_str_bool,
    kt_list_bool := kt_list_bool,
    kt_tuple_bool := kt_tuple_bool,
    kt_dict_bool := kt_dict_bool,
    kt_NoneType_int := kt_NoneType_int,
    kt_bool_int := kt_bool_int,
    kt_int_int := kt_int_int,
    kt_str_int := kt_str_int,
    kt_list_int := kt_list_int,
    kt_tuple_int := kt_tuple_int,
    kt_dict_int := kt_dict_int,
    kt_NoneType_list := kt_NoneType_list,
    kt_bool_list := kt_bool_list,
    kt_int_list := kt_int_list,
    kt_str_list := kt_str_list,
    kt_list_list := kt_list_list,
    kt_tuple_list := kt_tuple_list,
    kt_dict_list := kt_dict_list,
    kt_NoneType_tuple := kt_NoneType_tuple,
    kt_bool_tuple := kt_bool_tuple,
    kt_int_tuple := kt_int_tuple,
    kt_str_tuple := kt_str_tuple,
    kt_list_tuple := kt_list_tuple,
    kt_tuple_tuple := kt_tuple_tuple,
    kt_dict_tuple := kt_dict_tuple,
    z_all := PySem.W.mg_none_of X G z_all,
    z_bool := PySem.W.mg_none_of X G z_bool,
    z_enumerate := PySem.W.mg_none_of X G z_enumerate,
    z_int := PySem.W.mg_none_of X G z_int,
    z_isinstance := PySem.W.mg_none_of X G z_isinstance,
    z_len := PySem.W.mg_none_of X G z_len,
    z_list := PySem.W.mg_none_of X G z_list,
    z_range := PySem.W.mg_none_of X G z_range,
    z_set := PySem.W.mg_none_of X G z_set,
    z_sorted := PySem.W.mg_none_of X G z_sorted,
    z_sum := PySem.W.mg_none_of X G z_sum,
    z_tuple := PySem.W.mg_none_of X G z_tuple }, rfl, rfl⟩
end
end N_k31
theorem PySem.W.Fast.te11607135474431988517 : True := trivial
theorem PySem.W.Fast.te2567787439982115481 : True := trivial
theorem PySem.W.Fast.te2559799339300487312 : True := trivial
theorem PySem.W.Fast.te4958912622353811336 : True := trivial
theorem PySem.W.Fast.te6299822705718141425 : True := trivial
theorem PySem.W.Fast.te14434571112248232510 : True := trivial
theorem PySem.W.Fast.te3962497050356612229 : True := trivial
theorem PySem.W.Fast.te4909479835158734806 : True := trivial
open PySem PySem.W PyProof.Rows
set_option maxRecDepth 100000 in
set_option maxHeartbeats 0 in
theorem PySem.Challenge.cw_standstill_k31_pressed_holds : PySem.Challenge.rw_standstill_k31_pressed.Holds := by
  w_on; o_law; k_head; (case hw => w_witness2)
  k_fill
  refine L2.walk_ofK (l := PySem.Challenge.rw_standstill_k31_pressed) (n := 63) (k := 7) (x := "_law_script") (CX := L2.CX0) (sp := N_k31.sp_law) rfl (by decide) rfl ⟨rfl, by decide, by decide⟩ (fun w h Y => PySem.W.kIn_of Y) ?F (fun _ _ a ns hl _ hS => N_k31.sp_law_of hl hS) (fun _ _ _ _ z => z)
  case F =>
    intro w mg fa h KX G hmg
    have TT : ∃ fd : FuncData, (∀ (s : Shared) (v : Value), BindsTo s fd ⟨[v], []⟩ [("_law_script", v)]) /\ ∃ a : N_k31.Wa, ∃ W : N_k31.Wd (L2.KOf KX) mg a, a.f_1 = fa /\ a.fd_1 = fd := by
      dsimp only [L2.KOf]
      refine' N_k31.all_mk (l := PySem.Challenge.rw_standstill_k31_pressed) (w := w) KX G hmg ..
      all_goals first | k_is | kit_is | skip
    obtain ⟨fd, hb, a, W, e1, e2⟩ := TT
    subst e1 e2
    exact ⟨_, hb, fun base kb nb => N_k31.law_ok W⟩
