import PyProof.Rows.All
import Wide.All
import OpenK.AllK
import Wide.FinOn
import Lean
import PyProof.EqAt
import PyProof.EqKinds
import PyProof.TupleCall
import PyProof.NeKinds
import PySem.Challenge.RW_standstill_k81_ways
set_option Elab.async false
set_option genSizeOf false
set_option linter.all false
set_option maxRecDepth 100000
namespace L2
open PySem PySem.Spec PyProof.Rows
noncomputable abbrev Key := Sum Int Str
noncomputable def ze9 : Key -> Value -> Bool
  | .inl k, v => Value.isInt k v
  | .inr x, v => Value.isStrOf x v
noncomputable def zwr (w : World) : Key -> Int
  | .inl k => hashInt k
  | .inr x => hashStr w x
theorem zdf : ∀ {k : Key} {v : Value}, ze9 k v = true -> (∃ i t, k = Sum.inl i /\ v = Value.int i t) \/ (∃ x t, k = Sum.inr x /\ v = Value.str x t)
  | .inl i, v, h => by
    obtain ⟨t, e⟩ := Value.isInt_shape (k := i) (v := v) h
    exact .inl ⟨i, t, rfl, e⟩
  | .inr x, v, h => by
    obtain ⟨t, e⟩ := Value.isStrOf_shape (x := x) (v := v) h
    exact .inr ⟨x, t, rfl, e⟩
theorem zp5 (i : Int) (t : Tok) : ze9 (.inl i) (.int i t) = true := by simp [ze9, Value.isInt]
theorem zqk (x : Str) (t : Tok) : ze9 (.inr x) (.str x t) = true := by simp [ze9, Value.isStrOf]
theorem zpm (a b : Int) : decide ((Sum.inl a : Key) = Sum.inl b) = (a == b) := by
  by_cases e : a = b
  · subst e; simp
  · have h : ¬ (Sum.inl a : Key) = Sum.inl b := fun q => e (Sum.inl.inj q)
    rw [decide_eq_false h]
    exact (beq_eq_false_iff_ne.mpr e).symm
theorem zua (a b : Str) : decide ((Sum.inr a : Key) = Sum.inr b) = decide (a = b) := by
  by_cases e : a = b
  · subst e; simp
  · have h : ¬ (Sum.inr a : Key) = Sum.inr b := fun q => e (Sum.inr.inj q)
    rw [decide_eq_false h, decide_eq_false e]
theorem zq7 (a : Int) (b : Str) : decide ((Sum.inl a : Key) = Sum.inr b) = false := decide_eq_false (fun q => nomatch q)
theorem zr0 (a : Str) (b : Int) : decide ((Sum.inr a : Key) = Sum.inl b) = false := decide_eq_false (fun q => nomatch q)
noncomputable def zbb (prog : Program) (w : World) : PySem.KeyKind prog w Key where
  is := ze9
  hash := zwr w
  inj := fun v a b ha hb => by
    rcases zdf ha with ⟨i, t, rfl, rfl⟩ | ⟨x, t, rfl, rfl⟩
    · rcases zdf hb with ⟨j, u, rfl, e⟩ | ⟨y, u, rfl, e⟩
      · injection e with e1 _; rw [e1]
      · exact nomatch e
    · rcases zdf hb with ⟨j, u, rfl, e⟩ | ⟨y, u, rfl, e⟩
      · exact nomatch e
      · injection e with e1 _; rw [e1]
  byValue := fun k v h => by
    rcases zdf h with ⟨i, t, rfl, rfl⟩ | ⟨x, t, rfl, rfl⟩ <;> rfl
  pyHash := fun hv h => by
    rcases zdf hv with ⟨i, t, rfl, rfl⟩ | ⟨x, t, rfl, rfl⟩
    · exact wpAny_pyHash_int h
    · exact wpAny_pyHash_str h
  eqBool := fun hu hv h => by
    rcases zdf hu with ⟨i, t, rfl, rfl⟩ | ⟨x, t, rfl, rfl⟩
    · rcases zdf hv with ⟨j, u, rfl, rfl⟩ | ⟨y, u, rfl, rfl⟩
      · rw [zpm] at h; exact wpAny_eqBool_int h
      · rw [zq7] at h; exact SeqAt.EqAt.int_str i t y u _ _ _ _ h
    · rcases zdf hv with ⟨j, u, rfl, rfl⟩ | ⟨y, u, rfl, rfl⟩
      · rw [zr0] at h; exact SeqAt.EqAt.str_int x t j u _ _ _ _ h
      · rw [zua] at h; exact wpAny_eqBool_str h
  «strs» := fun k x t v h => by
    rcases zdf h with ⟨i, u, rfl, e⟩ | ⟨y, u, rfl, e⟩
    · exact nomatch e
    · injection e with e1 _
      subst e1
      cases v <;> rfl
theorem zlq (prog : Program) (w : World) (i : Int) (t : Tok) : (zbb prog w).is (.inl i) (.int i t) = true := zp5 i t
theorem zlr (prog : Program) (w : World) (x : Str) (t : Tok) : (zbb prog w).is (.inr x) (.str x t) = true := zqk x t
end L2
namespace L2
open PySem PySem.Spec PyProof.Rows
inductive V where
  | non | bl (b : Bool) | int (i : Int) | str (x : Str) | byt (b : Array UInt8) | flt (b : UInt64) | ref (a : Addr) | ty (n : String)
  deriving DecidableEq
noncomputable def zah : V -> Value -> Prop
  | .non, u => u = Value.none
  | .bl b, u => u = Value.bool b
  | .int i, u => ∃ t, u = Value.int i t
  | .str x, u => ∃ t, u = Value.str x t
  | .byt b, u => ∃ t, u = Value.bytes b t
  | .flt b, u => ∃ t, u = Value.float b t
  | .ref a, u => u = Value.ref a
  | .ty n, u => u = Value.type n
noncomputable abbrev zae : List V -> List Value -> Prop := Paired zah
theorem zae.length {xs : List V} {us : List Value} (r : zae xs us) : xs.length = us.length := Paired.length r
theorem zae.get : ∀ {xs : List V} {us : List Value} {i : Nat} {x : V}, zae xs us -> xs[i]? = some x -> ∃ u, us[i]? = some u /\ zah x u
  | _, _, _, _, .nil, e => by simp at e
  | _, _, 0, _, .cons r _, e => by simp at e; subst e; exact ⟨_, rfl, r⟩
  | _, _, i + 1, x, .cons _ t, e => by
    obtain ⟨u, h1, h2⟩ := zae.get (i := i) (x := x) t (by simpa using e)
    exact ⟨u, by simpa using h1, h2⟩
theorem zae.set {x : V} {u : Value} (r : zah x u) : ∀ {xs : List V} {us : List Value} (i : Nat), zae xs us -> zae (xs.set i x) (us.set i u)
  | _, _, _, .nil => .nil
  | _, _, 0, .cons _ t => .cons r t
  | _, _, i + 1, .cons q t => .cons q (zae.set r i t)
theorem zae.append : ∀ {xs ys : List V} {us ws : List Value}, zae xs us -> zae ys ws -> zae (xs ++ ys) (us ++ ws)
  | _, _, _, _, .nil, s => s
  | _, _, _, _, .cons r t, s => .cons r (zae.append t s)
theorem zae.take : ∀ {xs : List V} {us : List Value} (n : Nat), zae xs us -> zae (xs.take n) (us.take n)
  | _, _, 0, _ => .nil
  | _, _, _ + 1, .nil => .nil
  | _, _, n + 1, .cons r t => .cons r (zae.take n t)
theorem zae.drop : ∀ {xs : List V} {us : List Value} (n : Nat), zae xs us -> zae (xs.drop n) (us.drop n)
  | _, _, 0, r => r
  | _, _, _ + 1, .nil => .nil
  | _, _, n + 1, .cons _ t => zae.drop n t
noncomputable def zcw : Option V -> Option Value -> Prop
  | some v, some u => zah v u
  | none, none => True
  | _, _ => False
noncomputable def KV {κ : Type} : List (κ × V) -> List (κ × Value) -> Prop := Paired fun (p : κ × V) (q : κ × Value) => p.1 = q.1 /\ zah p.2 q.2
noncomputable def kV : Key -> V
  | .inl i => .int i
  | .inr x => .str x
inductive HO where
  | lst (xs : List V)
  | tup (xs : List V)
  | dK (kvs : List (Key × V)) | dT (kvs : List (List Key × V))
  | set (S : Int -> Bool) (n : Nat)
  | ins (C dx : Addr) (fs : List (Str × V))
  | own (x : Addr)
  | xd (fs : List (Str × V))
  | met (f x : Addr)
  | rng (lo hi : Int)
  | frz (o : Obj) (u : HO)
  | tbl (ps : Array Value)
  | ext (φ : Heap -> Prop)
noncomputable abbrev Hp := Addr -> Option HO
noncomputable def upd (H : Hp) (a : Addr) (o : HO) : Hp := fun b => if b = a then some o else H b
theorem zan {H : Hp} {a : Addr} {o : HO} : upd H a o a = some o := by unfold upd; rw [if_pos rfl]
theorem zag {H : Hp} {a b : Addr} {o : HO} (h : b ≠ a) : upd H a o b = H b := by unfold upd; rw [if_neg h]
theorem zsz {H : Hp} {a b : Addr} {o u : HO} (h : H a = some o) (h' : H b = some u) (d : o ≠ u) : a ≠ b := by
  intro e; subst e; rw [h] at h'; exact d (Option.some.inj h')
theorem zbh {H : Hp} {a b : Addr} {o : HO} (h : H a = some o) (h' : H b = none) : a ≠ b := by
  intro e; subst e; rw [h] at h'; cases h'
section
variable (P : Program) (w : World)
noncomputable def za0 (H : Hp) (h : Heap) (a : Addr) : HO -> Prop
  | .lst xs => xs.length <= sizeLine /\ ∃ (its : List Value) (n : Nat), zae xs its /\ h.get? a = some { cls := .type "list", data := .seq its.toArray n }
  | .tup xs => xs.length <= sizeLine /\ ∃ its : List Value, zae xs its /\ IsTup h a its.toArray
  | .dK kvs => kvs.length <= sizeLine /\ (a == sysModules) = false /\ ∃ vs, KV kvs vs /\ h.DictOf (zbb P w) a vs
  | .dT kvs => kvs.length <= sizeLine /\ (a == sysModules) = false /\ ∃ xs : List (List Key × Addr × Value),
      Paired (fun (p : List Key × V) (q : List Key × Addr × Value) => p.1 = q.1 /\ H q.2.1 = some (.tup (p.1.map kV)) /\ zah p.2 q.2.2) kvs xs /\
      ∃ o es ep, h.get? a = some o /\ o.ExactDict /\ o.data = .dict es ep /\ es.toList = xs.map (entryOfKey (tupleKind (zbb P w))) /\ (xs.map (·.1)).Nodup
  | .set S n => h.SetOf (intKind P w) a S n
  | .ins C dx fs => H dx = some (.own a) /\ fs.length <= 1000 /\ dx ≠ a /\ h.get? a = some (PySem.W.instObj C dx) /\
      ∃ mA, h.Ns1 dx mA /\ (∀ f, zcw (fs.lookup f) (mA f)) /\ PySem.Within mA (fs.map (·.1))
  | .own _ => ∃ o, h.get? a = some o
  | .xd fs => ∃ mA, h.Ns1 a mA /\ ∀ f, zcw (fs.lookup f) (mA f)
  | .rng lo hi => ∃ t u v, h.get? a = some { cls := .type "range", data := .fields #[.int lo t, .int hi u, .int 1 v] }
  | .frz o u => h.get? a = some o /\ za0 H h a u
  | .tbl ps => h.get? a = some { cls := .none, data := .fields ps }
  | .met f x => h.get? a = some (PySem.W.methodObj (.ref f) (.ref x))
  | .ext φ => φ h /\ (∃ o, h.get? a = some o) /\ ∀ h1 h2 : Heap, φ h1 -> (∀ o, h1.get? a = some o -> h2.get? a = some o) -> φ h2
noncomputable def HOk (H : Hp) (h : Heap) : Prop := ∀ a o, H a = some o -> za0 P w H h a o
end
section
variable {P : Program} {w : World} {H H' : Hp} {h h' : Heap} {a : Addr} {o : HO}
theorem za0.lt (x : za0 P w H h a o) : a < h.objs.size := by
  cases o with
  | lst xs => obtain ⟨_, _, _, _, e⟩ := x; exact Heap.lt_size e
  | tup xs => obtain ⟨_, _, _, p⟩ := x; exact p.lt
  | dK kvs => obtain ⟨_, _, _, _, o, _, _, e, _⟩ := x; exact Heap.lt_size e
  | dT kvs => obtain ⟨_, _, _, _, o, _, _, e, _⟩ := x; exact Heap.lt_size e
  | set S n => obtain ⟨o, _, _, _, e, _⟩ := x; exact Heap.lt_size e
  | ins C dx fs => obtain ⟨_, _, _, e, _⟩ := x; exact Heap.lt_size e
  | own y => obtain ⟨_, e⟩ := x; exact Heap.lt_size e
  | xd fs => obtain ⟨_, ⟨_, _, _, e, _⟩, _⟩ := x; exact Heap.lt_size e
  | rng lo hi => obtain ⟨_, _, _, e⟩ := x; exact Heap.lt_size e
  | frz ob u => obtain ⟨e, _⟩ := x; exact Heap.lt_size e
  | tbl ps => exact Heap.lt_size (show h.get? a = some _ from x)
  | met f y => exact Heap.lt_size (show h.get? a = some _ from x)
  | ext φ => obtain ⟨_, ⟨_, e⟩, _⟩ := x; exact Heap.lt_size e
theorem Paired.mapP {α β : Type} {F G : α -> β -> Prop} : ∀ {l₁ : List α} {l₂ : List β}, Paired F l₁ l₂ -> (∀ a b, F a b -> G a b) -> Paired G l₁ l₂
  | _, _, .nil, _ => .nil
  | _, _, .cons r t, f => .cons (f _ _ r) (Paired.mapP t f)
theorem za0.stay (x : za0 P w H h a o) (k : ∀ b u, (b = a \/ H b = some (.own a)) -> h.get? b = some u -> h'.get? b = some u)
    (ho : ∀ b, H b = some (.own a) -> H' b = some (.own a)) (ht : ∀ b xs, H b = some (.tup xs) -> H' b = some (.tup xs)) : za0 P w H' h' a o := by
  induction o with
  | lst xs => obtain ⟨z, its, n, r, e⟩ := x; exact ⟨z, its, n, r, k _ _ (.inl rfl) e⟩
  | tup xs => obtain ⟨z, its, r, ob, e, c⟩ := x; exact ⟨z, its, r, ob, k _ _ (.inl rfl) e, c⟩
  | dK kvs => obtain ⟨z, y, vs, r, ob, es, ep, e, c⟩ := x; exact ⟨z, y, vs, r, ob, es, ep, k _ _ (.inl rfl) e, c⟩
  | dT kvs =>
    obtain ⟨z, y, xs, r, ob, es, ep, e, c⟩ := x
    exact ⟨z, y, xs, Paired.mapP r fun p q z => ⟨z.1, ht _ _ z.2.1, z.2.2⟩, ob, es, ep, k _ _ (.inl rfl) e, c⟩
  | set S n => obtain ⟨ob, es, ep, t, e, c⟩ := x; exact ⟨ob, es, ep, t, k _ _ (.inl rfl) e, c⟩
  | ins C dx fs =>
    obtain ⟨d, z, ne, e, mA, ⟨od, es, ep, e2, c⟩, r⟩ := x
    exact ⟨ho _ d, z, ne, k _ _ (.inl rfl) e, mA, ⟨od, es, ep, k _ _ (.inr d) e2, c⟩, r⟩
  | own y => obtain ⟨ob, e⟩ := x; exact ⟨ob, k _ _ (.inl rfl) e⟩
  | xd fs => obtain ⟨mA, ⟨od, es, ep, e, c⟩, r⟩ := x; exact ⟨mA, ⟨od, es, ep, k _ _ (.inl rfl) e, c⟩, r⟩
  | rng lo hi => obtain ⟨t, u, v, e⟩ := x; exact ⟨t, u, v, k _ _ (.inl rfl) e⟩
  | frz ob u ih => obtain ⟨e, q⟩ := x; exact ⟨k _ _ (.inl rfl) e, ih q⟩
  | tbl ps =>
    have e : h.get? a = some { cls := .none, data := .fields ps } := x
    show h'.get? a = some { cls := .none, data := .fields ps }
    exact k a _ (.inl rfl) e
  | met f y =>
    have e : h.get? a = some (PySem.W.methodObj (.ref f) (.ref y)) := x
    show h'.get? a = some (PySem.W.methodObj (.ref f) (.ref y))
    exact k a _ (.inl rfl) e
  | ext φ => obtain ⟨p, ⟨o, e⟩, st⟩ := x; exact ⟨st _ _ p fun o q => k _ _ (.inl rfl) q, ⟨o, k _ _ (.inl rfl) e⟩, st⟩
theorem HOk.lt (x : HOk P w H h) (e : H a = some o) : a < h.objs.size := (x a o e).lt
theorem HOk.fresh (x : HOk P w H h) (e : h.objs.size <= a) : H a = none := by
  cases q : H a with
  | none => rfl
  | some u => exact absurd (Nat.lt_of_lt_of_le (x.lt q) e) (Nat.lt_irrefl _)
theorem HOk.kept (x : HOk P w H h) (k : ∀ b u, h.get? b = some u -> h'.get? b = some u) : HOk P w H h' := fun a o e =>
  (x a o e).stay (fun b u _ q => k b u q) (fun _ q => q) fun _ _ q => q
theorem HOk.laid (x : HOk P w H h) (k : ∀ b u, h.get? b = some u -> h'.get? b = some u) (hp : h.objs.size <= a) (new : za0 P w (upd H a o) h' a o) : HOk P w (upd H a o) h' := fun b u e => by
  have hn := x.fresh hp
  by_cases hb : b = a
  · subst hb; rw [zan] at e; cases e; exact new
  · rw [zag hb] at e
    exact (x b u e).stay (fun c v _ q => k c v q) (fun c q => by rw [zag (zbh q hn)]; exact q) fun c xs q => by rw [zag (zbh q hn)]; exact q
end
noncomputable def Rd (H : Hp) (a : Addr) (u : HO) : Prop := H a = some u \/ ∃ o, H a = some (.frz o u)
theorem Rd.of {H : Hp} {a : Addr} {u : HO} (h : H a = some u) : Rd H a u := .inl h
theorem Rd.ok {P : Program} {w : World} {H : Hp} {h : Heap} {a : Addr} {u : HO} (r : Rd H a u) (x : HOk P w H h) : za0 P w H h a u := by
  rcases r with r | ⟨o, r⟩
  · exact x a u r
  · obtain ⟨_, q⟩ := x a _ r
    exact q
noncomputable def Mut : Option HO -> Prop
  | some (.lst _) => True
  | some (.dK _) => True
  | some (.dT _) => True
  | some (.set _ _) => True
  | some (.ins _ _ _) => True
  | some (.ext _) => True
  | _ => False
section
variable {P : Program} {w : World} {H : Hp} {h h' : Heap} {x e : Addr} {o' : HO}
theorem HOk.write (ok : HOk P w H h) (mu : Mut (H x)) (he : e = x \/ H e = some (.own x)) (k : ∀ b u, b ≠ e -> h.get? b = some u -> h'.get? b = some u) (heo : ∃ u, h'.get? e = some u)
    (new : za0 P w (upd H x o') h' x o') : HOk P w (upd H x o') h' := fun b u q => by
  have nown : ∀ c y, H c = some (.own y) -> c ≠ x := fun c y r z => by subst z; rw [r] at mu; exact mu
  have ntup : ∀ c xs, H c = some (.tup xs) -> c ≠ x := fun c xs r z => by subst z; rw [r] at mu; exact mu
  by_cases hb : b = x
  · subst hb; rw [zan] at q; cases q; exact new
  · rw [zag hb] at q
    by_cases hbe : b = e
    · have q' : H b = some (.own x) := by
        rcases he with z | z
        · exact absurd (hbe.trans z) hb
        · rw [hbe]; exact z
      rw [q] at q'; cases q'
      obtain ⟨v, hv⟩ := heo
      exact ⟨v, by rw [hbe]; exact hv⟩
    · refine (ok b u q).stay (fun c v hc r => k c v ?_ r) (fun c r => by rw [zag (nown c b r)]; exact r) fun c xs r => by rw [zag (ntup c xs r)]; exact r
      rcases hc with rfl | hc
      · exact hbe
      · rintro rfl
        rcases he with z | z
        · exact nown c b hc z
        · rw [hc] at z; cases z; exact hb rfl
end
structure Un (fs ex : List Addr) (H H' : Hp) (h h' : Heap) : Prop where
  keep : ∀ b o, h.get? b = some o -> H b = none -> b ∉ fs -> b ∉ ex -> h'.get? b = some o
  slot : ∀ b o, h.get? b = some o -> H b = none -> b ∈ fs -> b ∉ ex -> ∃ sl, h'.get? b = some { o with slots := sl }
  free : ∀ b o, h.get? b = some o -> H b = none -> b ∉ ex -> H' b = none
  there : ∀ b o, h.get? b = some o -> b ∉ ex -> ∃ o', h'.get? b = some o'
  tups : ∀ b xs, H b = some (.tup xs) -> H' b = some (.tup xs)
  frzs : ∀ b o u, H b = some (.frz o u) -> H' b = some (.frz o u)
  tbls : ∀ b ps, H b = some (.tbl ps) -> ∃ more, H' b = some (.tbl (ps ++ more))
section
variable {fs fs' ex ex' : List Addr} {H H1 H2 : Hp} {h h1 h2 h' : Heap} {a x e : Addr} {o : HO}
theorem Un.any (u : Un fs ex H H1 h h1) {b : Addr} {ob : Obj} (q : h.get? b = some ob) (n : H b = none) (hx : b ∉ ex) : ∃ sl, h1.get? b = some { ob with slots := sl } := by
  by_cases hb : b ∈ fs
  · exact u.slot b ob q n hb hx
  · exact ⟨ob.slots, u.keep b ob q n hb hx⟩
theorem Un.trans (a : Un fs ex H H1 h h1) (b : Un fs ex H1 H2 h1 h2) : Un fs ex H H2 h h2 where
  keep := fun c ob q n hc hx => b.keep c ob (a.keep c ob q n hc hx) (a.free c ob q n hx) hc hx
  slot := fun c ob q n hc hx => by
    obtain ⟨sl, e1⟩ := a.slot c ob q n hc hx
    obtain ⟨sl', e2⟩ := b.slot c _ e1 (a.free c ob q n hx) hc hx
    exact ⟨sl', e2⟩
  free := fun c ob q n hx => by
    obtain ⟨o', e1⟩ := a.there c ob q hx
    exact b.free c o' e1 (a.free c ob q n hx) hx
  there := fun c ob q hx => by
    obtain ⟨o', e1⟩ := a.there c ob q hx
    exact b.there c o' e1 hx
  tups := fun c xs q => b.tups c xs (a.tups c xs q)
  frzs := fun c ob xs q => b.frzs c ob xs (a.frzs c ob xs q)
  tbls := fun c ps q => by
    obtain ⟨m1, e1⟩ := a.tbls c ps q
    obtain ⟨m2, e2⟩ := b.tbls c _ e1
    exact ⟨m1 ++ m2, by rw [e2, Array.append_assoc]⟩
theorem Un.kept (k : ∀ b u, h.get? b = some u -> h'.get? b = some u) : Un fs ex H H h h' :=
  ⟨fun b ob q _ _ _ => k b ob q, fun b ob q _ _ _ => ⟨ob.slots, k b ob q⟩, fun _ _ _ n _ => n, fun b ob q _ => ⟨ob, k b ob q⟩, fun _ _ q => q, fun _ _ _ q => q, fun _ ps q => ⟨#[], by rw [q]; simp⟩⟩
theorem Un.refl : Un fs ex H H h h := Un.kept fun _ _ q => q
theorem Un.laid (k : ∀ b u, h.get? b = some u -> h'.get? b = some u) (hp : h.objs.size <= a) (hn : H a = none) : Un fs ex H (upd H a o) h h' where
  keep := fun b u q _ _ _ => k b u q
  slot := fun b u q _ _ _ => ⟨u.slots, k b u q⟩
  free := fun b u q n _ => by rw [zag (Nat.ne_of_lt (Nat.lt_of_lt_of_le (Heap.lt_size q) hp))]; exact n
  there := fun b u q _ => ⟨u, k b u q⟩
  tups := fun b xs q => by rw [zag (zbh q hn)]; exact q
  frzs := fun b u xs q => by rw [zag (zbh q hn)]; exact q
  tbls := fun b ps q => ⟨#[], by rw [zag (zbh q hn), q]; simp⟩
theorem Un.write (mu : Mut (H x)) (he : e = x \/ H e = some (.own x)) (k : ∀ b u, b ≠ e -> h.get? b = some u -> h'.get? b = some u) (heo : ∃ u, h'.get? e = some u) : Un fs ex H (upd H x o) h h' := by
  have hx : ∀ b, H b = none -> b ≠ x := fun b n z => by subst z; rw [n] at mu; exact mu
  have hb : ∀ b, H b = none -> b ≠ e := fun b n z => by
    subst z
    rcases he with r | r
    · exact hx b n r
    · rw [n] at r; cases r
  have hm : ∀ b u, H b = some u -> ¬ Mut (some u) -> b ≠ x := fun b u q nm z => by subst z; rw [q] at mu; exact nm mu
  refine ⟨fun b u q n _ _ => k b u (hb b n) q, fun b u q n _ _ => ⟨u.slots, k b u (hb b n) q⟩, fun b u q n _ => by rw [zag (hx b n)]; exact n, fun b u q _ => ?_,
    fun b xs q => by rw [zag (hm b _ q fun z => z)]; exact q, fun b u xs q => by rw [zag (hm b _ q fun z => z)]; exact q, fun b ps q => ⟨#[], by rw [zag (hm b _ q fun z => z), q]; simp⟩⟩
  by_cases hbe : b = e
  · subst hbe; exact heo
  · exact ⟨u, k b u hbe q⟩
theorem Un.mono (u : Un fs ex H H1 h h1) (hs : ∀ b ∈ fs, b ∈ fs') (hx : ∀ b ∈ ex, b ∈ ex') : Un fs' ex' H H1 h h1 :=
  ⟨fun b ob q n hb he => u.keep b ob q n (fun z => hb (hs b z)) fun z => he (hx b z), fun _ _ q n _ he => u.any q n fun z => he (hx _ z), fun b ob q n he => u.free b ob q n fun z => he (hx b z), fun b ob q he => u.there b ob q fun z => he (hx b z), u.tups, u.frzs, u.tbls⟩
end
noncomputable def trk (h : Heap) (H : Hp) : List Addr := (List.range h.objs.size).filter fun a => (H a).isSome
noncomputable def zdi (h : Heap) (H : Hp) : Heap := PySem.W.hideAll h (trk h H)
theorem zsu (h : Heap) (H : Hp) : (zdi h H).objs.size = h.objs.size := PySem.W.hideAll_size _ _
theorem zv2 {h : Heap} {H : Hp} {b : Addr} {o : Obj} (e : h.get? b = some o) (n : H b = none) : (zdi h H).get? b = some o :=
  PySem.W.hideAll_get _ e fun hm => by
    have q : (H b).isSome = true := (List.mem_filter.mp hm).2
    rw [n] at q; simp at q
theorem zqy {h : Heap} {H : Hp} {b : Addr} {o : Obj} (e : (zdi h H).get? b = some o) : h.get? b = some o /\ H b = none := by
  have e' : h.get? b = some o := PySem.W.of_hideAll (trk h H) e
  refine ⟨e', ?_⟩
  cases q : H b with
  | none => rfl
  | some x =>
    have hm : b ∈ trk h H := List.mem_filter.mpr ⟨List.mem_range.mpr (Heap.lt_size e'), by simp [q]⟩
    have z : (zdi h H).get? b = none := PySem.W.hideAll_none (trk h H) hm
    rw [z] at e; cases e
noncomputable def zrd (g h : Heap) (L : Addr) : List (Addr × Obj) := (List.range h.objs.size).filterMap fun a => if a = L \/ (g.get? a).isSome = true then none else (h.get? a).map fun o => (a, o)
noncomputable def zam (g h : Heap) (L d : Addr) : List (Addr × Obj) := (zrd g h L).filter fun p => decide (p.1 ≠ d)
end L2
namespace L2
open PySem PySem.Spec PyProof.Rows
structure Mod (K : PySem.W.Frag) (mg : Str -> Option Value) (base : Heap) : Prop where
  kin : K.In base
  glob : base.Ns mainGlobals mg
  blt : ∃ mb, base.Ns builtinsNs mb /\ ∀ x : Str, x ≠ "__name__" -> mb x = bootBuiltins x
  nolimit : base.NoLimit
set_option genInjectivity false in
structure Cx where
  prog : Program
  w : World
  K : PySem.W.Frag
  mg : Str -> Option Value
  base : Heap
  A : Around
  N : List Str
  s₀ : Shared
  H₀ : Hp
  env : Env
  outer : List Env
  stack : List Env
  ex : List Addr
  fn : Str -> Bool
  calm : Bool
  pn : List (Addr × Obj)
  xe : Value -> Shared -> Prop
noncomputable def frs (l : List Env) : List Addr := l.filterMap (·.frame)
noncomputable abbrev Cx.fs (X : Cx) : List Addr := frs X.outer
noncomputable def Vis (sc : Scope) (x : Str) : Prop := sc.names.lookup x = some .local \/ sc.names.lookup x = some .cell \/ sc.names.lookup x = some .free
noncomputable def Loc (sc : Scope) (x : Str) : Prop := sc.names.lookup x = some .local \/ sc.names.lookup x = some .cell
noncomputable def zq5 (env : Env) (h : Heap) (m : Str -> Option Value) (x : Str) (u : Value) : Prop :=
  (env.kindOf x = some .local /\ m x = some u) \/ ((env.kindOf x = some .cell \/ env.kindOf x = some .free) /\ ∃ c, env.cells.lookup x = some c /\ h.IsCell c (some u))
structure Cx.Ok (X : Cx) : Prop where
  mod : Mod X.K X.mg X.base
  kind : X.env.scope.kind = .function
  glob : X.env.globals = mainGlobals
  blt : X.env.builtins = builtinsNs
  above : X.s₀.heap.objs.size <= X.env.locals
  inj : ∀ x y c, X.env.cells.lookup x = some c -> X.env.cells.lookup y = some c -> x = y
  has : ∀ x, (X.env.kindOf x = some .cell \/ X.env.kindOf x = some .free) -> ∃ c, X.env.cells.lookup x = some c
  cab : ∀ x c, X.fn x = true -> X.env.cells.lookup x = some c -> X.s₀.heap.objs.size <= c
  hd : X.calm = true -> X.A.handled = none
  frames : X.A.frames = some X.stack
  stk : X.stack = X.outer \/ (X.stack = X.env :: X.outer /\ X.env.frame = some X.env.locals)
  exf : ∀ b ∈ X.ex, b ≠ X.env.locals /\ ∀ x c, X.env.cells.lookup x = some c -> c ≠ b
  bs : ∀ b o, X.base.get? b = some o -> X.s₀.heap.get? b = some o /\ X.H₀ b = none
  bsz : X.base.objs.size <= X.s₀.heap.objs.size
  noex : ∀ b o, X.base.get? b = some o -> b ∉ X.ex
  exfs : ∀ b ∈ X.ex, b ∉ X.fs
  funs : X.s₀.heap.FunFrames X.base X.outer
  frf : ∀ b ∈ X.fs, X.H₀ b = none
structure Inv (X : Cx) (pins : List (Addr × Obj)) (σ : List (Option V)) (H : Hp) (s : Shared) : Prop where
  ok : X.Ok
  os : s.os = X.s₀.os
  bare : AllBare s.gens
  base : Un X.fs X.ex X.H₀ H X.s₀.heap s.heap
  loc : ∃ m, s.heap.Ns X.env.locals m /\ ∀ (i : Nat) (x : Str) (v : V), X.N[i]? = some x -> σ[i]? = some (some v) -> Vis X.env.scope x -> ∃ u, zah v u /\ zq5 X.env s.heap m x u
  cell : ∀ x c, X.env.cells.lookup x = some c -> ∃ v, s.heap.IsCell c v
  free : H X.env.locals = none
  freeC : ∀ x c, X.env.cells.lookup x = some c -> H c = none
  pin : ∀ p ∈ X.pn ++ pins, s.heap.get? p.1 = some p.2 /\ H p.1 = none /\ p.1 ≠ X.env.locals /\ p.1 ∉ X.fs /\ ∀ v, p.2.data ≠ .cell v
  hok : HOk X.prog X.w H s.heap
  len : σ.length = X.N.length
section
variable {X : Cx} {pins : List (Addr × Obj)} {σ : List (Option V)} {H H' : Hp} {s : Shared} {h' : Heap}
theorem Cx.Ok.nofr (ok : X.Ok) {b : Addr} {o : Obj} (e : X.base.get? b = some o) : b ∉ X.fs := fun hb => by
  have := (ok.funs.mem hb).1
  rw [e] at this; cases this
theorem Inv.bs (I : Inv X pins σ H s) : ∀ b o, X.base.get? b = some o -> s.heap.get? b = some o /\ H b = none := fun b o e =>
  ⟨I.base.keep b o (I.ok.bs b o e).1 (I.ok.bs b o e).2 (I.ok.nofr e) (I.ok.noex b o e), I.base.free b o (I.ok.bs b o e).1 (I.ok.bs b o e).2 (I.ok.noex b o e)⟩
theorem Inv.bk (I : Inv X pins σ H s) : ∀ b o, X.base.get? b = some o -> s.heap.get? b = some o := fun b o e => (I.bs b o e).1
theorem Inv.mod (I : Inv X pins σ H s) : Mod X.K X.mg X.base := I.ok.mod
theorem Inv.kIn (I : Inv X pins σ H s) : X.K.In s.heap := I.ok.mod.kin.keeps I.bk
theorem Inv.nolimit (I : Inv X pins σ H s) : s.heap.NoLimit := I.ok.mod.nolimit.keeps I.bk
theorem Inv.fr (I : Inv X pins σ H s) : ∃ m, Fr X.base X.env.locals s.heap m :=
  let ⟨m, hn, _⟩ := I.loc
  ⟨m, hn, I.bk, Nat.le_trans I.ok.bsz I.ok.above⟩
theorem Inv.lt (I : Inv X pins σ H s) : X.env.locals < s.heap.objs.size := let ⟨_, hn, _⟩ := I.loc; hn.lt
theorem Inv.sz (I : Inv X pins σ H s) : X.s₀.heap.objs.size <= s.heap.objs.size := Nat.le_trans I.ok.above (Nat.le_of_lt I.lt)
theorem Inv.nofs (I : Inv X pins σ H s) {a : Addr} (h : s.heap.objs.size <= a) : a ∉ X.fs := fun hb => by
  obtain ⟨_, o, ho, _⟩ := I.ok.funs.mem hb
  exact absurd (Nat.lt_of_lt_of_le (Heap.lt_size ho) (Nat.le_trans I.sz h)) (Nat.lt_irrefl _)
theorem Inv.cne (I : Inv X pins σ H s) : ∀ x c, X.env.cells.lookup x = some c -> c ≠ X.env.locals := fun x c e z => by
  obtain ⟨v, o, ho, hd⟩ := I.cell x c e
  obtain ⟨m, ⟨o', es, ep, ho', hd', _⟩, _⟩ := I.loc
  rw [z, ho'] at ho; cases ho; rw [hd'] at hd; cases hd
theorem Inv.funs (I : Inv X pins σ H s) : s.heap.FunFrames X.base X.outer := by
  have all : ∀ (l : List Env), (∀ b ∈ frs l, b ∈ X.fs) -> X.s₀.heap.FunFrames X.base l -> s.heap.FunFrames X.base l := by
    intro l
    induction l with
    | nil => intro _ _; trivial
    | cons env r ih =>
      intro hs hl
      obtain ⟨hk, ⟨L, o, hf, hn, ho, hd⟩, hr⟩ := hl
      have hL : L ∈ X.fs := hs L (by unfold frs; rw [List.filterMap_cons, hf]; exact List.mem_cons_self)
      obtain ⟨sl, e⟩ := I.base.slot L o ho (I.ok.frf L hL) hL fun z => I.ok.exfs L z hL
      exact ⟨hk, ⟨L, _, hf, hn, e, hd⟩, ih (fun b hb => hs b (by unfold frs; rw [List.filterMap_cons, hf]; exact List.mem_cons_of_mem _ hb)) hr⟩
  exact all X.outer (fun _ hb => hb) I.ok.funs
theorem Inv.stack (I : Inv X pins σ H s) : s.heap.FunFrames X.base X.stack := by
  rcases I.ok.stk with e | ⟨e, hf⟩
  · rw [e]; exact I.funs
  · rw [e]
    obtain ⟨m, hn, _⟩ := I.loc
    refine .cons (by rw [I.ok.kind]; decide) hf hn ?_ I.funs
    exact Heap.get?_none_of_le (Nat.le_trans I.ok.bsz I.ok.above)
theorem Inv.stkSub (I : Inv X pins σ H s) : ∀ b ∈ frs X.stack, b ∈ X.env.locals :: X.fs := fun b hb => by
  rcases I.ok.stk with e | ⟨e, hf⟩
  · rw [e] at hb; exact List.mem_cons_of_mem _ hb
  · rw [e] at hb
    unfold frs at hb
    rw [List.filterMap_cons, hf] at hb
    exact hb
theorem Inv.stkFree (I : Inv X pins σ H s) : ∀ b ∈ frs X.stack, H b = none := fun b hb => by
  rcases List.mem_cons.mp (I.stkSub b hb) with e | hb
  · rw [e]; exact I.free
  · obtain ⟨_, o, ho, _⟩ := I.ok.funs.mem hb
    exact I.base.free b o ho (I.ok.frf b hb) fun z => I.ok.exfs b z hb
theorem Inv.step {g' : Array GenState} {t' : Nat} {d' : Drawn} {ch : List Addr} (I : Inv X pins σ H s)
    (hch : ∀ b ∈ ch, (b ∈ X.ex \/ X.s₀.heap.objs.size <= b) /\ b ≠ X.env.locals /\ (∀ x c, X.env.cells.lookup x = some c -> c ≠ b) /\ ∀ p ∈ X.pn ++ pins, p.1 ≠ b)
    (keep : ∀ b o, b ≠ X.env.locals -> b ∉ X.fs -> b ∉ ch -> s.heap.get? b = some o -> H b = none -> h'.get? b = some o)
    (slot : ∀ b o, b ≠ X.env.locals -> b ∈ X.fs -> b ∉ ch -> s.heap.get? b = some o -> H b = none -> ∃ sl, h'.get? b = some { o with slots := sl }) (free : ∀ b o, b ∉ ch -> s.heap.get? b = some o -> H b = none -> H' b = none)
    (there : ∀ b o, b ∉ ch -> s.heap.get? b = some o -> ∃ o', h'.get? b = some o')
    (tups : ∀ b xs, H b = some (.tup xs) -> H' b = some (.tup xs)) (frzs : ∀ b o u, H b = some (.frz o u) -> H' b = some (.frz o u)) (tbls : ∀ b ps, H b = some (.tbl ps) -> ∃ more, H' b = some (.tbl (ps ++ more)))
    (ns : ∀ m, s.heap.Ns X.env.locals m -> h'.Ns X.env.locals m) (hok : HOk X.prog X.w H' h') (hg : AllBare g') :
    Inv X pins σ H' { s with heap := h', gens := g', drawn := d', toks := t' } := by
  have neL : ∀ b o, X.s₀.heap.get? b = some o -> b ≠ X.env.locals := fun b o e => Nat.ne_of_lt (Nat.lt_of_lt_of_le (Heap.lt_size e) I.ok.above)
  have neC : ∀ b o, X.s₀.heap.get? b = some o -> b ∉ X.ex -> b ∉ ch := fun b o e hx hb => by
    rcases (hch b hb).1 with z | z
    · exact hx z
    · exact absurd (Nat.lt_of_lt_of_le (Heap.lt_size e) z) (Nat.lt_irrefl _)
  have cellK : ∀ x c, X.env.cells.lookup x = some c -> ∀ v, s.heap.IsCell c v -> h'.IsCell c v := fun x c e v ⟨o, ho, hd⟩ => by
    have nch : c ∉ ch := fun z => (hch c z).2.2.1 x c e rfl
    by_cases hc : c ∈ X.fs
    · obtain ⟨sl, q⟩ := slot c o (I.cne x c e) hc nch ho (I.freeC x c e)
      exact ⟨_, q, hd⟩
    · exact ⟨o, keep c o (I.cne x c e) hc nch ho (I.freeC x c e), hd⟩
  refine ⟨I.ok, I.os, hg, ⟨fun b o e n hb hx => ?_, fun b o e n hb hx => ?_, fun b o e n hx => ?_, fun b o e hx => ?_, fun b xs e => tups b xs (I.base.tups b xs e), fun b o xs e => frzs b o xs (I.base.frzs b o xs e), fun b ps e => ?_⟩, ?_, fun x c e => ?_, ?_, fun x c e => ?_, fun p hp => ?_, hok, I.len⟩
  · exact keep b o (neL b o e) hb (neC b o e hx) (I.base.keep b o e n hb hx) (I.base.free b o e n hx)
  · obtain ⟨sl, e1⟩ := I.base.slot b o e n hb hx
    obtain ⟨sl', e2⟩ := slot b _ (neL b o e) hb (neC b o e hx) e1 (I.base.free b o e n hx)
    exact ⟨sl', e2⟩
  · obtain ⟨o', e1⟩ := I.base.there b o e hx
    exact free b o' (neC b o e hx) e1 (I.base.free b o e n hx)
  · obtain ⟨o', e1⟩ := I.base.there b o e hx
    exact there b o' (neC b o e hx) e1
  · obtain ⟨m1, e1⟩ := I.base.tbls b ps e
    obtain ⟨m2, e2⟩ := tbls b _ e1
    exact ⟨m1 ++ m2, by rw [e2, Array.append_assoc]⟩
  · obtain ⟨m, hn, hl⟩ := I.loc
    refine ⟨m, ns m hn, fun i x v e1 e2 e3 => ?_⟩
    obtain ⟨u, r, l⟩ := hl i x v e1 e2 e3
    refine ⟨u, r, ?_⟩
    rcases l with l | ⟨k, c, e, z⟩
    · exact .inl l
    · exact .inr ⟨k, c, e, cellK x c e _ z⟩
  · obtain ⟨v, z⟩ := I.cell x c e
    exact ⟨v, cellK x c e v z⟩
  · obtain ⟨m, ⟨o, _, _, ho, _⟩, _⟩ := I.loc
    exact free _ o (fun z => (hch _ z).2.1 rfl) ho I.free
  · obtain ⟨v, o, ho, hd⟩ := I.cell x c e
    exact free c o (fun z => (hch c z).2.2.1 x c e rfl) ho (I.freeC x c e)
  · obtain ⟨e, n, ne, nf, d⟩ := I.pin p hp
    have nch : p.1 ∉ ch := fun z => (hch p.1 z).2.2.2 p hp rfl
    exact ⟨keep p.1 p.2 ne nf nch e n, free p.1 p.2 nch e n, ne, nf, d⟩
theorem Inv.un {t' : Nat} (I : Inv X pins σ H s) (u : Un X.fs [] H H' s.heap h') (hok : HOk X.prog X.w H' h') : Inv X pins σ H' { s with heap := h', toks := t' } := by
  obtain ⟨m, ⟨o, es, ep, ho, r⟩, _⟩ := id I.loc
  obtain ⟨sl, hL⟩ := u.any ho I.free (by simp)
  exact I.step (g' := s.gens) (d' := s.drawn) (ch := []) (fun _ z => nomatch z) (fun b o _ hb _ e n => u.keep b o e n hb (by simp)) (fun b o _ hb _ e n => u.slot b o e n hb (by simp)) (fun b o _ e n => u.free b o e n (by simp)) (fun b o _ e => u.there b o e (by simp)) u.tups u.frzs u.tbls (fun m' hm => by
    obtain ⟨o', es', ep', ho', r'⟩ := hm
    rw [ho] at ho'; cases ho'
    exact ⟨_, es', ep', hL, r'⟩) hok I.bare
theorem Inv.call {g' : Array GenState} {t' : Nat} {d' : Drawn} {ch : List Addr} (I : Inv X pins σ H s) (u : Un (frs X.stack) ch H H' s.heap h') (hok : HOk X.prog X.w H' h') (hg : AllBare g')
    (hch : ∀ b ∈ ch, (b ∈ X.ex \/ X.s₀.heap.objs.size <= b) /\ b ≠ X.env.locals /\ (∀ x c, X.env.cells.lookup x = some c -> c ≠ b) /\ ∀ p ∈ X.pn ++ pins, p.1 ≠ b) :
    Inv X pins σ H' { s with heap := h', gens := g', drawn := d', toks := t' } := by
  obtain ⟨m, ⟨o, es, ep, ho, r⟩, _⟩ := id I.loc
  obtain ⟨sl, hL⟩ := u.any ho I.free fun z => (hch _ z).2.1 rfl
  exact I.step (ch := ch) hch (fun b o hL hb hc e n => u.keep b o e n (fun z => (List.mem_cons.mp (I.stkSub b z)).elim hL hb) hc) (fun b o _ _ hc e n => u.any e n hc) (fun b o hc e n => u.free b o e n hc) (fun b o hc e => u.there b o e hc) u.tups u.frzs u.tbls (fun m' hm => by
    obtain ⟨o', es', ep', ho', r'⟩ := hm
    rw [ho] at ho'; cases ho'
    exact ⟨_, es', ep', hL, r'⟩) hok hg
theorem Inv.turned {t' : Nat} {it : Addr} (I : Inv X pins σ H s) (k : ∀ b o, b ≠ it -> s.heap.get? b = some o -> h'.get? b = some o) (hn : H it = none) (hL : it ≠ X.env.locals)
    (h1 : it ∈ X.ex \/ X.s₀.heap.objs.size <= it) (h2 : ∀ x c, X.env.cells.lookup x = some c -> c ≠ it) (h3 : ∀ p ∈ X.pn ++ pins, p.1 ≠ it) : Inv X pins σ H { s with heap := h', toks := t' } := by
  have nit : ∀ b u, H b = some u -> b ≠ it := fun b u e z => by rw [z, hn] at e; cases e
  refine I.step (g' := s.gens) (d' := s.drawn) (ch := [it]) (fun b hb => ?_) (fun b o _ _ hc e _ => k b o (fun z => hc (by simp [z])) e) (fun b o _ _ hc e _ => ⟨o.slots, k b o (fun z => hc (by simp [z])) e⟩) (fun _ _ _ _ n => n)
    (fun b o hc e => ⟨o, k b o (fun z => hc (by simp [z])) e⟩) (fun _ _ e => e) (fun _ _ _ e => e) (fun b ps e => ⟨#[], by rw [e]; simp⟩) (fun m hm => ?_) (fun b u e => ?_) I.bare
  · have e : b = it := by simpa using hb
    subst e
    exact ⟨h1, hL, h2, h3⟩
  · obtain ⟨o, es, ep, ho, r⟩ := hm
    exact ⟨o, es, ep, k _ o (Ne.symm hL) ho, r⟩
  · refine (I.hok b u e).stay (fun c v hc q => k c v ?_ q) (fun _ q => q) fun _ _ q => q
    rcases hc with z | z
    · rw [z]; exact nit b u e
    · exact nit c _ z
theorem Inv.tok (I : Inv X pins σ H s) (t : Nat) : Inv X pins σ H { s with toks := t } := I.un (h' := s.heap) (t' := t) Un.refl I.hok
theorem Inv.kept {t' : Nat} (I : Inv X pins σ H s) (k : ∀ b u, s.heap.get? b = some u -> h'.get? b = some u) : Inv X pins σ H { s with heap := h', toks := t' } := I.un (Un.kept k) (I.hok.kept k)
theorem Inv.laid {a : Addr} {o : HO} {t' : Nat} (I : Inv X pins σ H s) (k : ∀ b u, s.heap.get? b = some u -> h'.get? b = some u) (hp : s.heap.objs.size <= a) (new : za0 X.prog X.w (upd H a o) h' a o) :
    Inv X pins σ (upd H a o) { s with heap := h', toks := t' } := I.un (Un.laid k hp (I.hok.fresh hp)) (I.hok.laid k hp new)
theorem Inv.write {x e : Addr} {o : HO} {t' : Nat} (I : Inv X pins σ H s) (mu : Mut (H x)) (he : e = x \/ H e = some (.own x)) (k : ∀ b u, b ≠ e -> s.heap.get? b = some u -> h'.get? b = some u) (heo : ∃ u, h'.get? e = some u)
    (new : za0 X.prog X.w (upd H x o) h' x o) : Inv X pins σ (upd H x o) { s with heap := h', toks := t' } := I.un (Un.write mu he k heo) (I.hok.write mu he k heo new)
theorem Inv.weak {σ' : List (Option V)} (I : Inv X pins σ H s) (hl : σ'.length = σ.length) (w : ∀ (i : Nat) v, σ'[i]? = some (some v) -> σ[i]? = some (some v)) : Inv X pins σ' H s :=
  ⟨I.ok, I.os, I.bare, I.base, let ⟨m, hn, hl'⟩ := I.loc; ⟨m, hn, fun i x v e1 e2 e3 => hl' i x v e1 (w i v e2) e3⟩, I.cell, I.free, I.freeC, I.pin, I.hok, hl.trans I.len⟩
theorem Inv.pins_of {pins' : List (Addr × Obj)} (I : Inv X pins σ H s) (h : ∀ p ∈ pins', s.heap.get? p.1 = some p.2 /\ H p.1 = none /\ p.1 ≠ X.env.locals /\ p.1 ∉ X.fs /\ ∀ v, p.2.data ≠ .cell v) : Inv X pins' σ H s :=
  ⟨I.ok, I.os, I.bare, I.base, I.loc, I.cell, I.free, I.freeC, fun p hp => (List.mem_append.mp hp).elim (fun z => I.pin p (List.mem_append_left _ z)) (h p), I.hok, I.len⟩
theorem zl9 {N : List Str} (hN : N.Nodup) {i j : Nat} {x : Str} (a : N[i]? = some x) (b : N[j]? = some x) : i = j := by
  obtain ⟨h1, e1⟩ := List.getElem?_eq_some_iff.mp a
  obtain ⟨h2, e2⟩ := List.getElem?_eq_some_iff.mp b
  exact (List.getElem_inj hN).mp (e1.trans e2.symm)
theorem zsn {M : Model} {A : Around} {E : Value -> Shared -> Prop} {i : Nat} {x : Str} {v : V} {u : Value} {Q : Unit -> Shared -> Prop} (I : Inv X pins σ H s) (hN : X.N.Nodup) (hi : X.N[i]? = some x) (hx : Loc X.env.scope x) (r : zah v u)
    (h : ∀ s', Inv X pins (σ.set i (some v)) H s' -> (∃ a, Heap.SameBut a s.heap s'.heap /\ (a = X.env.locals \/ X.env.cells.lookup x = some a)) -> Q () s') (hf : X.fn x = true \/ X.env.scope.names.lookup x = some .local := by first | exact .inl rfl | exact .inr rfl | assumption) : wpAny M A (storeName X.env x u) Q E s := by
  obtain ⟨m, hn, hl⟩ := id I.loc
  have hcls : (X.env.scope.kind == .class || (X.env.scope.kind == .module && X.env.locals != X.env.globals)) = false := by rw [I.ok.kind]; rfl
  have hiσ : i < σ.length := by rw [I.len]; exact (List.getElem?_eq_some_iff.mp hi).1
  have cne := I.cne
  have tracked : ∀ {a : Addr} {h' : Heap}, (∃ o, s.heap.get? a = some o /\ H a = none) -> Heap.SameBut a s.heap h' -> HOk X.prog X.w H h' := fun {a h'} ha hs b ob e => by
    obtain ⟨_, _, hfree⟩ := ha
    refine (I.hok b ob e).stay (fun c w' hc q => (hs.2 c ?_).trans q) (fun _ q => q) fun _ _ q => q
    rintro rfl
    rcases hc with rfl | hc
    · rw [hfree] at e; cases e
    · rw [hfree] at hc; cases hc
  rcases hx with hk | hk
  · refine wpAny_storeName_local hk hn (fun h' hn' hs => ?_) hcls
    obtain ⟨oL, _, _, hoL, _⟩ := id hn
    refine h _ ⟨I.ok, I.os, I.bare, ⟨fun b o e n hb hx => ?_, fun b o e n hb hx => ?_, I.base.free, fun b o e hx => ?_, I.base.tups, I.base.frzs, I.base.tbls⟩, ⟨_, hn', fun j y v' e1 e2 e3 => ?_⟩, fun y c e => ?_, I.free, I.freeC, fun p hp => ?_, tracked ⟨oL, hoL, I.free⟩ hs, by simpa using I.len⟩ ⟨_, hs, .inl rfl⟩
    · exact (hs.2 b (Nat.ne_of_lt (Nat.lt_of_lt_of_le (Heap.lt_size e) I.ok.above))).trans (I.base.keep b o e n hb hx)
    · obtain ⟨sl, e1⟩ := I.base.slot b o e n hb hx
      exact ⟨sl, (hs.2 b (Nat.ne_of_lt (Nat.lt_of_lt_of_le (Heap.lt_size e) I.ok.above))).trans e1⟩
    · obtain ⟨o', e1⟩ := I.base.there b o e hx
      exact ⟨o', (hs.2 b (Nat.ne_of_lt (Nat.lt_of_lt_of_le (Heap.lt_size e) I.ok.above))).trans e1⟩
    · by_cases hj : j = i
      · subst hj
        rw [hi] at e1; cases e1
        rw [List.getElem?_set_self hiσ] at e2
        cases e2
        exact ⟨u, r, .inl ⟨hk, by simp⟩⟩
      · rw [List.getElem?_set_ne (Ne.symm hj)] at e2
        obtain ⟨u', r', q⟩ := hl j y v' e1 e2 e3
        refine ⟨u', r', ?_⟩
        rcases q with ⟨k, e⟩ | ⟨k, c, e, z⟩
        · refine .inl ⟨k, ?_⟩
          have : y ≠ x := fun e => hj (zl9 hN e1 (e ▸ hi))
          simp [this, e]
        · exact .inr ⟨k, c, e, z.sameBut hs (cne y c e)⟩
    · obtain ⟨w', z⟩ := I.cell y c e
      exact ⟨w', z.sameBut hs (cne y c e)⟩
    · obtain ⟨e, n, ne, nf, d⟩ := I.pin p hp
      exact ⟨(hs.2 p.1 ne).trans e, n, ne, nf, d⟩
  · have hfn : X.fn x = true := by
      rcases hf with z | z
      · exact z
      · rw [z] at hk; cases hk
    obtain ⟨c, hc⟩ := I.ok.has x (.inl hk)
    obtain ⟨w', z⟩ := I.cell x c hc
    refine wpAny_storeName_cell I.ok.kind hk hc z (fun h' hc' hs => ?_)
    obtain ⟨oc, hoc, hocd⟩ := id z
    refine h { s with heap := h' } ⟨I.ok, I.os, I.bare, ⟨fun b o e n hb hx => ?_, fun b o e n hb hx => ?_, I.base.free, fun b o e hx => ?_, I.base.tups, I.base.frzs, I.base.tbls⟩, ⟨m, hn.sameBut hs (Ne.symm (cne x c hc)), fun j y v' e1 e2 e3 => ?_⟩, fun y c' e => ?_, I.free, I.freeC, fun p hp => ?_, tracked ⟨oc, hoc, I.freeC x c hc⟩ hs, by simpa using I.len⟩ ⟨c, hs, .inr hc⟩
    · exact (hs.2 b (Nat.ne_of_lt (Nat.lt_of_lt_of_le (Heap.lt_size e) (I.ok.cab x c hfn hc)))).trans (I.base.keep b o e n hb hx)
    · obtain ⟨sl, e1⟩ := I.base.slot b o e n hb hx
      exact ⟨sl, (hs.2 b (Nat.ne_of_lt (Nat.lt_of_lt_of_le (Heap.lt_size e) (I.ok.cab x c hfn hc)))).trans e1⟩
    · obtain ⟨o', e1⟩ := I.base.there b o e hx
      exact ⟨o', (hs.2 b (Nat.ne_of_lt (Nat.lt_of_lt_of_le (Heap.lt_size e) (I.ok.cab x c hfn hc)))).trans e1⟩
    · by_cases hj : j = i
      · subst hj
        rw [hi] at e1; cases e1
        rw [List.getElem?_set_self hiσ] at e2
        cases e2
        exact ⟨u, r, .inr ⟨.inl hk, c, hc, hc'⟩⟩
      · rw [List.getElem?_set_ne (Ne.symm hj)] at e2
        obtain ⟨u', r', q⟩ := hl j y v' e1 e2 e3
        refine ⟨u', r', ?_⟩
        rcases q with q | ⟨k, c', e, z'⟩
        · exact .inl q
        · refine .inr ⟨k, c', e, z'.sameBut hs ?_⟩
          rintro rfl
          exact hj (zl9 hN e1 (I.ok.inj _ _ _ e hc ▸ hi))
    · by_cases hcc : c' = c
      · subst hcc; exact ⟨_, hc'⟩
      · obtain ⟨w2, z2⟩ := I.cell y c' e
        exact ⟨w2, z2.sameBut hs hcc⟩
    · obtain ⟨e, n, ne, nf, d⟩ := I.pin p hp
      refine ⟨(hs.2 p.1 ?_).trans e, n, ne, nf, d⟩
      intro q
      rw [q, hoc] at e
      have q' : oc = p.2 := Option.some.inj e
      exact d w' (by rw [<- q']; exact hocd)
theorem zit {M : Model} {A : Around} {E : Value -> Shared -> Prop} {i : Nat} {x : Str} {v : V} {u : Value} {Q : Unit -> Shared -> Prop} (I : Inv X pins σ H s) (hN : X.N.Nodup) (hi : X.N[i]? = some x) (hx : Loc X.env.scope x) (r : zah v u)
    (h : ∀ s', Inv X pins (σ.set i (some v)) H s' -> Q () s') (hf : X.fn x = true \/ X.env.scope.names.lookup x = some .local := by first | exact .inl rfl | exact .inr rfl | assumption) : wpAny M A (storeName X.env x u) Q E s :=
  zsn I hN hi hx r (fun s' I' _ => h s' I') hf
theorem Inv.call' {s' : Shared} {ch : List Addr} (I : Inv X pins σ H s) (ho : s'.os = s.os) (u : Un (frs X.stack) ch H H' s.heap s'.heap) (hok : HOk X.prog X.w H' s'.heap) (hg : AllBare s'.gens)
    (hch : ∀ b ∈ ch, (b ∈ X.ex \/ X.s₀.heap.objs.size <= b) /\ b ≠ X.env.locals /\ (∀ x c, X.env.cells.lookup x = some c -> c ≠ b) /\ ∀ p ∈ X.pn ++ pins, p.1 ≠ b) : Inv X pins σ H' s' := by
  obtain ⟨h', g', d', t', o'⟩ := s'
  have e : o' = s.os := ho
  subst e
  exact I.call (g' := g') (t' := t') (d' := d') u hok hg hch
end
noncomputable abbrev XK := Value -> Option Addr -> Hp -> Prop
noncomputable abbrev St := List (Option V)
noncomputable abbrev VK := V -> Hp -> Prop
noncomputable abbrev TE := St -> Hp -> VK -> Prop
noncomputable abbrev TT := St -> Hp -> (Bool -> Hp -> Prop) -> Prop
noncomputable abbrev TA := St -> Hp -> (List V -> Hp -> Prop) -> Prop
structure zcy where
  nx : St -> Hp -> Prop
  rt : VK
  bk : St -> Hp -> Prop := fun _ _ => False
  ct : St -> Hp -> Prop := fun _ _ => False
noncomputable abbrev TS := zcy -> St -> Hp -> Prop
noncomputable def EP (X : Cx) (pins : List (Addr × Obj)) (σ : St) (Q : VK) (u : Value) (s' : Shared) : Prop := ∃ v H', Inv X pins σ H' s' /\ zah v u /\ Q v H'
noncomputable def TP (X : Cx) (pins : List (Addr × Obj)) (σ : St) (Q : Bool -> Hp -> Prop) (b : Bool) (s' : Shared) : Prop := ∃ H', Inv X pins σ H' s' /\ Q b H'
noncomputable def AP (X : Cx) (pins : List (Addr × Obj)) (σ : St) (Q : List V -> Hp -> Prop) (us : List Value) (s' : Shared) : Prop := ∃ vs H', Inv X pins σ H' s' /\ zae vs us /\ Q vs H'
noncomputable def SP (X : Cx) (pins : List (Addr × Obj)) (D : zcy) (f : Flow) (s' : Shared) : Prop :=
  match f with
  | .next => ∃ σ' H', Inv X pins σ' H' s' /\ D.nx σ' H'
  | .brk => ∃ σ' H', Inv X pins σ' H' s' /\ D.bk σ' H'
  | .cont => ∃ σ' H', Inv X pins σ' H' s' /\ D.ct σ' H'
  | .ret u => ∃ v σ' H', Inv X pins σ' H' s' /\ zah v u /\ D.rt v H'
noncomputable def PE (X : Cx) (e : Expr) (t : TE) : Prop :=
  ∀ (pins : List (Addr × Obj)) (s : Shared) (σ : St) (H : Hp) (Q : VK), Inv X pins σ H s -> t σ H Q -> wpAny (model X.prog X.w) X.A (eval e X.env) (EP X pins σ Q) X.xe s
noncomputable def PT (X : Cx) (e : Expr) (t : TT) : Prop :=
  ∀ (pins : List (Addr × Obj)) (s : Shared) (σ : St) (H : Hp) (Q : Bool -> Hp -> Prop), Inv X pins σ H s -> t σ H Q -> wpAny (model X.prog X.w) X.A (isTrue e X.env (eval e X.env)) (TP X pins σ Q) X.xe s
noncomputable def PW (X : Cx) (e : Expr) (t : TT) : Prop :=
  ∀ (whole : Sem Value) (pins : List (Addr × Obj)) (s : Shared) (σ : St) (H : Hp) (Q : Bool -> Hp -> Prop), Inv X pins σ H s -> t σ H Q -> wpAny (model X.prog X.w) X.A (isTrue e X.env whole) (TP X pins σ Q) X.xe s
theorem PW.pt {X : Cx} {e : Expr} {t : TT} (h : PW X e t) : PT X e t := h _
noncomputable def PA (X : Cx) (es : List Expr) (t : TA) : Prop :=
  ∀ (pos : Pos) (pins : List (Addr × Obj)) (s : Shared) (σ : St) (H : Hp) (Q : List V -> Hp -> Prop), Inv X pins σ H s -> t σ H Q -> wpAny (model X.prog X.w) X.A (spliced (backTo pos (starEach es X.env))) (AP X pins σ Q) X.xe s
noncomputable def PS (X : Cx) (st : Stmt) (t : TS) : Prop :=
  ∀ (pins : List (Addr × Obj)) (s : Shared) (σ : St) (H : Hp) (D : zcy), Inv X pins σ H s -> t D σ H -> wpAny (model X.prog X.w) X.A (exec st X.env) (SP X pins D) X.xe s
noncomputable def PSs (X : Cx) (st : List Stmt) (t : TS) : Prop :=
  ∀ (pins : List (Addr × Obj)) (s : Shared) (σ : St) (H : Hp) (D : zcy), Inv X pins σ H s -> t D σ H -> wpAny (model X.prog X.w) X.A (execs st X.env) (SP X pins D) X.xe s
theorem thn {α : Type} {t : Sem α} {Q Q' : α -> Shared -> Prop} {M : Model} {A : Around} {E : Value -> Shared -> Prop} {s : Shared} (h : wpAny M A t Q E s) (hQ : ∀ a s, Q a s -> Q' a s) : wpAny M A t Q' E s := wpAny_mono h hQ fun _ _ x => x
end L2
namespace L2
open PySem PySem.Spec PyProof.Rows
section
variable {X : Cx}
noncomputable def zbt (i : Nat) : TE := fun σ H Q => ∃ v, σ[i]? = some (some v) /\ Q v H
noncomputable def tC (v : V) : TE := fun _ H Q => Q v H
theorem zc4 {i : Nat} {x : Str} {pos : Pos} (hN : X.N[i]? = some x) (hv : Vis X.env.scope x) (hd : (x == ("__debug__" : Str)) = false := by decide) (hcd : (x == ("__classdict__" : Str)) = false := by decide) : PE X (.Name x pos) (zbt i) := by
  intro pins s σ H Q I h
  obtain ⟨v, e, h⟩ := h
  obtain ⟨m, hn, hl⟩ := I.loc
  obtain ⟨u, r, l⟩ := hl i x v hN e hv
  have fin : EP X pins σ Q u s := ⟨v, H, I, r, h⟩
  rcases l with ⟨hk, hm⟩ | ⟨hk, c, hc, hcell⟩
  · exact wpAny_Name (wpAny_loadName_local I.ok.kind hk hn hm fin) hd
  · rcases hk with hk | hk
    · exact wpAny_Name (wpAny_loadName_cell I.ok.kind hk hc hcell fin) hd
    · exact wpAny_Name (wpAny_loadName_free I.ok.kind hk hc hcell fin hcd) hd
theorem zlb {i j pos} : PE X (.Constant (.int i) j pos) (tC (.int i)) := fun _ _ _ H _ I h => wpAny_Constant_int ⟨.int i, H, I.tok _, ⟨_, rfl⟩, h⟩
theorem ztl {b j pos} : PE X (.Constant (.bool b) j pos) (tC (.bl b)) := fun _ _ _ H _ I h => Constant_bool ⟨.bl b, H, I, rfl, h⟩
theorem zss {x j pos} : PE X (.Constant (.str x) j pos) (tC (.str x)) := fun _ _ _ H _ I h => Calls.Constant_str ⟨.str x, H, I.tok _, ⟨_, rfl⟩, h⟩
noncomputable def Gl (X : Cx) (x : Str) : Prop := X.env.kindOf x = some .globalImplicit
theorem zsd {E : Value -> Shared -> Prop} {pins : List (Addr × Obj)} {s : Shared} {σ : St} {H : Hp} {x : Str} {u : Value} {pos : Pos} {Q : Value -> Shared -> Prop} (I : Inv X pins σ H s) (hg : Gl X x) (hm : X.mg x = some u) (h : Q u s)
    (hd : (x == ("__debug__" : Str)) = false := by decide) : wpAny (model X.prog X.w) X.A (eval (.Name x pos) X.env) Q E s :=
  Calls.Name_function_global I.ok.kind hg (Calls.loadGlobal_global (by rw [I.ok.glob]; exact I.mod.glob.keeps I.bk) hm h) hd
theorem zfm {E : Value -> Shared -> Prop} {pins : List (Addr × Obj)} {s : Shared} {σ : St} {H : Hp} {x : Str} {u : Value} {pos : Pos} {Q : Value -> Shared -> Prop} (I : Inv X pins σ H s) (hg : Gl X x) (hm : X.mg x = none) (hv : bootBuiltins x = some u) (h : Q u s)
    (hn : x ≠ "__name__" := by decide) (hd : (x == ("__debug__" : Str)) = false := by decide) : wpAny (model X.prog X.w) X.A (eval (.Name x pos) X.env) Q E s := by
  obtain ⟨mb, h1, h2⟩ := I.mod.blt
  exact Calls.Name_function_global I.ok.kind hg (Calls.loadGlobal_builtin (by rw [I.ok.glob]; exact I.mod.glob.keeps I.bk) hm (by rw [I.ok.blt]; exact h1.keeps I.bk) ((h2 x hn).trans hv) h) hd
theorem zpo {x : Str} {v : V} {u : Value} {pos : Pos} (hg : Gl X x) (hm : X.mg x = none) (hv : bootBuiltins x = some u) (r : zah v u) (hn : x ≠ "__name__" := by decide) (hd : (x == ("__debug__" : Str)) = false := by decide) : PE X (.Name x pos) (tC v) :=
  fun _ _ _ H _ I h => zfm I hg hm hv ⟨v, H, I, r, h⟩ hn hd
variable {a b : Expr} {ta tb : TE} {pos : Pos}
variable {tA tB' : TT} {zam : List Expr}
noncomputable def zq9 (t u : TT) : TT := fun σ H Q => t σ H fun c H1 => if c = true then u σ H1 Q else Q false H1
noncomputable def tOr (t u : TT) : TT := fun σ H Q => t σ H fun c H1 => if c = true then Q true H1 else u σ H1 Q
noncomputable def zqc (t : TT) : TT := fun σ H Q => t σ H fun c H1 => Q (!c) H1
theorem zup (ha : PT X a tA) : PW X (.BoolOp .And [a] pos) tA := by
  intro wh pins s σ H Q I h
  refine isTrue_and (thn (ha pins s σ H Q I h) fun c s1 e => ?_)
  cases c with
  | true => exact isTrue_and_nil e
  | false => exact e
theorem zwu (ha : PT X a tA) : PW X (.BoolOp .Or [a] pos) tA := by
  intro wh pins s σ H Q I h
  refine isTrue_or (thn (ha pins s σ H Q I h) fun c s1 e => ?_)
  cases c with
  | false => exact isTrue_or_nil e
  | true => exact e
theorem zt7 (ha : PT X a tA) (hb : PW X (.BoolOp .And (b :: zam) pos) tB') : PW X (.BoolOp .And (a :: b :: zam) pos) (zq9 tA tB') := by
  intro wh pins s σ H Q I h
  refine isTrue_and (thn (ha pins s σ H _ I h) fun c s1 ⟨H1, I1, q1⟩ => ?_)
  cases c with
  | true => exact hb wh pins s1 σ H1 Q I1 q1
  | false => exact ⟨H1, I1, q1⟩
theorem zvf (ha : PT X a tA) (hb : PW X (.BoolOp .Or (b :: zam) pos) tB') : PW X (.BoolOp .Or (a :: b :: zam) pos) (tOr tA tB') := by
  intro wh pins s σ H Q I h
  refine isTrue_or (thn (ha pins s σ H _ I h) fun c s1 ⟨H1, I1, q1⟩ => ?_)
  cases c with
  | true => exact ⟨H1, I1, q1⟩
  | false => exact hb wh pins s1 σ H1 Q I1 q1
theorem zvz (ha : PT X a tA) : PT X (.UnaryOp .Not a pos) (zqc tA) := by
  intro pins s σ H Q I h
  exact isTrue_not (ha pins s σ H (fun c H1 => Q (!c) H1) I h)
noncomputable def zt8 (ta tb : TE) : TE := fun σ H Q => ta σ H fun x H1 => ∃ c, x = .bl c /\ if c = true then tb σ H1 Q else Q (.bl false) H1
theorem zsm {op} {t : TE} (h : PE X a t) : PE X (.BoolOp op [a] pos) t := fun pins s σ H Q I hw => BoolOp_one (h pins s σ H Q I hw)
theorem ztg (ha : PE X a ta) (hb : PE X (.BoolOp .And (b :: zam) pos) tb) : PE X (.BoolOp .And (a :: b :: zam) pos) (zt8 ta tb) := by
  intro pins s σ H Q I h
  refine BoolOp_and (thn (ha pins s σ H _ I h) fun v s1 ⟨x, H1, I1, r1, q1⟩ => ?_)
  obtain ⟨c, rfl, q1⟩ := q1
  cases r1
  refine wpAny_truthy_bool ?_
  cases c with
  | true => exact hb pins s1 σ H1 Q I1 q1
  | false => exact ⟨.bl false, H1, I1, rfl, q1⟩
end
end L2
namespace L2
open PySem PySem.Spec PyProof.Rows
noncomputable def SqL (K : PySem.W.Frag) (H : Hp) (a : Addr) (xs : List V) : Prop :=
  Rd H a (.lst xs) \/
    ∃ (o : Obj) (its : Array Value) (n : Nat), K.lookup a = some o /\ o.cls = .type "list" /\ o.dict = none /\ o.data = .seq its n /\ its.size <= sizeLine /\ zae xs its.toList
noncomputable def SqT (K : PySem.W.Frag) (H : Hp) (a : Addr) (xs : List V) : Prop :=
  Rd H a (.tup xs) \/
    ∃ (o : Obj) (its : Array Value) (n : Nat), K.lookup a = some o /\ o.cls = .type "tuple" /\ o.data = .seq its n /\ its.size <= sizeLine /\ zae xs its.toList
noncomputable def zvk : Value -> Option V
  | .none => some .non
  | .bool b => some (.bl b)
  | .int i _ => some (.int i)
  | .str x _ => some (.str x)
  | .bytes b _ => some (.byt b)
  | .float b _ => some (.flt b)
  | .ref a => some (.ref a)
  | .type n => some (.ty n)
  | _ => none
theorem zah.abs {x : V} {u : Value} (r : zah x u) : zvk u = some x := by
  cases x with
  | non => cases r; rfl
  | bl _ => cases r; rfl
  | int _ => obtain ⟨t, rfl⟩ := r; rfl
  | str _ => obtain ⟨t, rfl⟩ := r; rfl
  | byt _ => obtain ⟨t, rfl⟩ := r; rfl
  | flt _ => obtain ⟨t, rfl⟩ := r; rfl
  | ref _ => cases r; rfl
  | ty _ => cases r; rfl
theorem zah.inj {x y : V} {u : Value} (r : zah x u) (q : zah y u) : x = y := Option.some.inj (r.abs.symm.trans q.abs)
theorem zae.inj : ∀ {xs ys : List V} {us : List Value}, zae xs us -> zae ys us -> xs = ys
  | _, _, _, .nil, .nil => rfl
  | _, _, _, .cons r t, .cons r' t' => by rw [r.inj r', zae.inj t t']
section
variable {X : Cx} {pins : List (Addr × Obj)} {σ : St} {H : Hp} {s : Shared} {a : Addr} {xs ys : List V}
theorem SqL.of {K : PySem.W.Frag} (h : H a = some (.lst xs)) : SqL K H a xs := .inl (.inl h)
theorem SqT.of {K : PySem.W.Frag} (h : H a = some (.tup xs)) : SqT K H a xs := .inl (.inl h)
theorem Inv.list (I : Inv X pins σ H s) (h : SqL X.K H a xs) : ∃ its : List Value, zae xs its /\ PlainL s.heap a its.toArray /\ xs.length <= sizeLine := by
  rcases h with h | ⟨o, its, n, hk, hc, hd, hs, hz, r⟩
  · obtain ⟨z, its, n, r, e⟩ := h.ok I.hok
    exact ⟨its, r, ⟨_, n, e, rfl, rfl, rfl⟩, z⟩
  · refine ⟨its.toList, r, ⟨o, n, I.kIn a o hk, hc, hd, by simpa using hs⟩, ?_⟩
    have e := r.length
    simp only [Array.length_toList] at e
    omega
theorem Inv.tuple (I : Inv X pins σ H s) (h : SqT X.K H a xs) : ∃ its : List Value, zae xs its /\ IsTup s.heap a its.toArray /\ xs.length <= sizeLine := by
  rcases h with h | ⟨o, its, n, hk, hc, hs, hz, r⟩
  · obtain ⟨z, its, r, p⟩ := h.ok I.hok
    exact ⟨its, r, p, z⟩
  · refine ⟨its.toList, r, ⟨o, I.kIn a o hk, hc, n, by simpa using hs⟩, ?_⟩
    have e := r.length
    simp only [Array.length_toList] at e
    omega
theorem Inv.list_inj (I : Inv X pins σ H s) (h : SqL X.K H a xs) (h' : SqL X.K H a ys) : xs = ys := by
  obtain ⟨its, r, ⟨o, n, e, _, _, d⟩, _⟩ := I.list h
  obtain ⟨its', r', ⟨o', n', e', _, _, d'⟩, _⟩ := I.list h'
  rw [e] at e'; cases e'
  rw [d] at d'
  injection d' with d1 _
  have : its = its' := by simpa using congrArg Array.toList d1
  subst this
  exact r.inj r'
theorem Inv.tuple_inj (I : Inv X pins σ H s) (h : SqT X.K H a xs) (h' : SqT X.K H a ys) : xs = ys := by
  obtain ⟨its, r, ⟨o, e, _, n, d⟩, _⟩ := I.tuple h
  obtain ⟨its', r', ⟨o', e', _, n', d'⟩, _⟩ := I.tuple h'
  rw [e] at e'; cases e'
  rw [d] at d'
  injection d' with d1 _
  have : its = its' := by simpa using congrArg Array.toList d1
  subst this
  exact r.inj r'
end
noncomputable abbrev Cx.wish (X : Cx) (E : Value -> Shared -> Prop) : Cx := { X with xe := E }
noncomputable abbrev Cx.nox (X : Cx) : Cx := X.wish fun _ _ => False
theorem Cx.Ok.wish {X : Cx} (ok : X.Ok) (E : Value -> Shared -> Prop) : (X.wish E).Ok :=
  ⟨ok.mod, ok.kind, ok.glob, ok.blt, ok.above, ok.inj, ok.has, ok.cab, ok.hd, ok.frames, ok.stk, ok.exf, ok.bs, ok.bsz, ok.noex, ok.exfs, ok.funs, ok.frf⟩
theorem Cx.Ok.unwish {X : Cx} {E : Value -> Shared -> Prop} (ok : (X.wish E).Ok) : X.Ok :=
  ⟨ok.mod, ok.kind, ok.glob, ok.blt, ok.above, ok.inj, ok.has, ok.cab, ok.hd, ok.frames, ok.stk, ok.exf, ok.bs, ok.bsz, ok.noex, ok.exfs, ok.funs, ok.frf⟩
section
variable {X : Cx} {pins : List (Addr × Obj)} {σ : St} {H : Hp} {s : Shared} {E : Value -> Shared -> Prop}
theorem Inv.wish (I : Inv X pins σ H s) (E : Value -> Shared -> Prop) : Inv (X.wish E) pins σ H s := ⟨I.ok.wish E, I.os, I.bare, I.base, I.loc, I.cell, I.free, I.freeC, I.pin, I.hok, I.len⟩
theorem Inv.unwish (I : Inv (X.wish E) pins σ H s) : Inv X pins σ H s := ⟨I.ok.unwish, I.os, I.bare, I.base, I.loc, I.cell, I.free, I.freeC, I.pin, I.hok, I.len⟩
theorem SP.unwish {D : zcy} {f : Flow} {s' : Shared} (h : SP (X.wish E) pins D f s') : SP X pins D f s' := by
  cases f with
  | next => obtain ⟨σ', H', I, q⟩ := h; exact ⟨σ', H', I.unwish, q⟩
  | brk => obtain ⟨σ', H', I, q⟩ := h; exact ⟨σ', H', I.unwish, q⟩
  | cont => obtain ⟨σ', H', I, q⟩ := h; exact ⟨σ', H', I.unwish, q⟩
  | ret u => obtain ⟨v, σ', H', I, r, q⟩ := h; exact ⟨v, σ', H', I.unwish, r, q⟩
theorem PE.nox {e : Expr} {t : TE} (h : PE X.nox e t) : PE X e t := fun pins s σ H Q I hw =>
  wpAny_mono (h pins s σ H Q (I.wish _) hw) (fun _ _ ⟨v, H', I', r, q⟩ => ⟨v, H', I'.unwish, r, q⟩) fun _ _ z => False.elim z
theorem PT.nox {e : Expr} {t : TT} (h : PT X.nox e t) : PT X e t := fun pins s σ H Q I hw =>
  wpAny_mono (h pins s σ H Q (I.wish _) hw) (fun _ _ ⟨H', I', q⟩ => ⟨H', I'.unwish, q⟩) fun _ _ z => False.elim z
theorem PSs.nox {st : List Stmt} {t : TS} (h : PSs X.nox st t) : PSs X st t := fun pins s σ H D I hw =>
  wpAny_mono (h pins s σ H D (I.wish _) hw) (fun _ _ q => q.unwish) fun _ _ z => False.elim z
end
section
variable {X : Cx} {st : Stmt} {zam : List Stmt} {t u : TS} {e : Expr} {te : TE} {pos : Pos}
noncomputable def zph : TS := fun D σ H => D.nx σ H
noncomputable def zw6 (t u : TS) : TS := fun D σ H => t { D with nx := u D } σ H
theorem zv6 : PSs X [] zph := fun _ _ σ H _ I h => wpAny_execs_nil ⟨σ, H, I, h⟩
theorem zpw (h1 : PS X st t) (h2 : PSs X zam u) : PSs X (st :: zam) (zw6 t u) := by
  intro pins s σ H D I h
  refine wpAny_execs_cons (thn (h1 pins s σ H { D with nx := u D } I h) fun f s1 q => ?_)
  cases f with
  | next =>
    obtain ⟨σ', H', I', q⟩ := q
    exact h2 pins s1 σ' H' D I' q
  | ret v => exact q
  | brk => exact q
  | cont => exact q
theorem zp4 (h1 : PS X st t) : PSs X [st] t := by
  intro pins s σ H D I h
  refine wpAny_execs_cons (thn (h1 pins s σ H D I h) fun f s1 q => ?_)
  cases f with
  | next => exact wpAny_execs_nil q
  | ret v => exact q
  | brk => exact q
  | cont => exact q
theorem Inv.quiet {pins : List (Addr × Obj)} {σ : St} {H : Hp} {s : Shared} (I : Inv X pins σ H s) : interactive X.env = false := by simp [interactive, I.ok.kind]
noncomputable def zfa (te : TE) : TS := fun D σ H => te σ H fun _ H1 => D.nx σ H1
theorem zek (he : PE X e te) (hs : swapsWith e none pos.line X.env = pure false := by rfl) : PS X (.Expr e pos) (zfa te) := by
  intro pins s σ H D I h
  exact wpAny_Expr_any (thn (he pins s σ H _ I h) fun v s1 ⟨x, H1, I1, r1, q1⟩ => ⟨σ, H1, I1, q1⟩) I.quiet hs
noncomputable def zps (te : TE) : TS := fun D σ H => te σ H D.rt
theorem zf9 (he : PE X e te) : PS X (.Return (some e) pos) (zps te) := by
  intro pins s σ H D I h
  exact wpAny_Return_some (thn (he pins s σ H _ I h) fun v s1 ⟨x, H1, I1, r1, q1⟩ => ⟨x, σ, H1, I1, r1, q1⟩)
noncomputable def zrm (c : TT) (t u : TS) : TS := fun D σ H => c σ H fun b H1 => if b = true then t D σ H1 else u D σ H1
theorem zo1 {c : Expr} {a b : List Stmt} {tc : TT} (hc : PT X c tc) (ha : PSs X a t) (hb : PSs X b u) : PS X (.If c a b pos) (zrm tc t u) := by
  intro pins s σ H D I h
  refine wpAny_If (thn (hc pins s σ H _ I h) fun d s1 ⟨H1, I1, q1⟩ => ?_)
  cases d with
  | true => exact ha pins s1 σ H1 D I1 q1
  | false => exact hb pins s1 σ H1 D I1 q1
end
noncomputable abbrev TG := V -> St -> Hp -> (St -> Hp -> Prop) -> Prop
noncomputable abbrev TGs := List V -> St -> Hp -> (St -> Hp -> Prop) -> Prop
noncomputable def PG (X : Cx) (target : Expr) (t : TG) : Prop :=
  ∀ (pins : List (Addr × Obj)) (s : Shared) (σ : St) (H : Hp) (v : V) (u : Value) (Q : St -> Hp -> Prop), Inv X pins σ H s -> zah v u -> t v σ H Q ->
    wpAny (model X.prog X.w) X.A (assign target X.env u) (fun _ s' => ∃ σ' H', Inv X pins σ' H' s' /\ Q σ' H') X.xe s
noncomputable def PGs (X : Cx) (ts : List Expr) (t : TGs) : Prop :=
  ∀ (pins : List (Addr × Obj)) (s : Shared) (σ : St) (H : Hp) (vs : List V) (us : List Value) (Q : St -> Hp -> Prop), Inv X pins σ H s -> zae vs us -> t vs σ H Q ->
    wpAny (model X.prog X.w) X.A (assignInOrder ((assignEach ts X.env).map (·.2)) us) (fun _ s' => ∃ σ' H', Inv X pins σ' H' s' /\ Q σ' H') X.xe s
noncomputable abbrev zjo := V -> V -> V -> Hp -> (Hp -> Prop) -> Prop
noncomputable def zom (X : Cx) (t : zjo) : Prop :=
  ∀ (pins : List (Addr × Obj)) (s : Shared) (σ : St) (H : Hp) (o i v : V) (ov iv u : Value) (Q : Hp -> Prop), Inv X pins σ H s -> zah o ov -> zah i iv -> zah v u -> t o i v H Q ->
    wpAny (model X.prog X.w) X.A (setItem ov iv u) (fun _ s' => ∃ H', Inv X pins σ H' s' /\ Q H') X.xe s
noncomputable abbrev TIp := V -> V -> Hp -> VK -> Prop
noncomputable def PIp (X : Cx) (op : Operator) (t : TIp) : Prop :=
  ∀ (pins : List (Addr × Obj)) (s : Shared) (σ : St) (H : Hp) (x y : V) (v u : Value) (Q : VK), Inv X pins σ H s -> zah x v -> zah y u -> t x y H Q ->
    wpAny (model X.prog X.w) X.A (inplaceOp op v u) (EP X pins σ Q) X.xe s
section
variable {X : Cx} {pos : Pos}
noncomputable def ze7 (i : Nat) : TG := fun v σ H Q => Q (σ.set i (some v)) H
theorem zlw {i : Nat} {x : Str} (hN : X.N.Nodup) (hi : X.N[i]? = some x) (hx : Loc X.env.scope x) (hf : X.fn x = true \/ X.env.scope.names.lookup x = some .local := by first | exact .inl rfl | exact .inr rfl | assumption) : PG X (.Name x pos) (ze7 i) := by
  intro pins s σ H v u Q I r h
  exact wpAny_assign_Name (zit I hN hi hx r (fun s' I' => ⟨_, H, I', h⟩) hf)
noncomputable def zvt : TGs := fun vs σ H Q => vs = [] /\ Q σ H
noncomputable def zti (t : TG) (u : TGs) : TGs := fun vs σ H Q => ∃ v r, vs = v :: r /\ t v σ H fun σ' H' => u r σ' H' Q
theorem ztb : PGs X [] zvt := by
  intro pins s σ H vs us Q I r h
  obtain ⟨e, h⟩ := h
  subst e
  cases r
  exact assignInOrder_nil ⟨σ, H, I, h⟩
theorem zrl {e : Expr} {es : List Expr} {t : TG} {u : TGs} (h1 : PG X e t) (h2 : PGs X es u)
    (hs : (assignEach (e :: es) X.env).map (·.2) = assign e X.env :: (assignEach es X.env).map (·.2) := by rfl) : PGs X (e :: es) (zti t u) := by
  intro pins s σ H vs us Q I r h
  obtain ⟨v, vr, e1, h⟩ := h
  subst e1
  cases r with
  | cons r rr =>
    rw [hs]
    refine assignInOrder_cons (thn (h1 pins s σ H _ _ _ I r h) fun _ s1 ⟨σ1, H1, I1, q1⟩ => ?_)
    exact h2 pins s1 σ1 H1 _ _ Q I1 rr q1
noncomputable def zp0 (K : PySem.W.Frag) (n : Nat) (t : TGs) : TG := fun v σ H Q => ∃ a xs, v = .ref a /\ SqT K H a xs /\ xs.length = n /\ t xs σ H Q
theorem zwv {es : List Expr} {k : Nat} {t : TGs} {n : Nat} (hc : X.calm = true) (h : PGs X es t)
    (hn : (assignEach es X.env).length = n := by rfl) (hst : (assignEach es X.env).findIdx? (·.1) = none := by rfl) : PG X (.Tuple es k pos) (zp0 X.K n t) := by
  intro pins s σ H v u Q I r hw
  obtain ⟨a, xs, e1, hq, hl, hw⟩ := hw
  subst e1
  cases r
  obtain ⟨its, rv, ht, hz⟩ := I.tuple hq
  refine assign_Tuple_tuple (I.ok.hd hc) ht (by simp [hn, <- hl, rv.length]) hst fun h' hx => ?_
  have I1 : Inv X pins σ H { s with heap := h' } := I.kept (t' := s.toks) fun b o e => hx b o (Nat.ne_of_lt (Heap.lt_size e)) e
  exact h pins _ σ H xs _ Q I1 (by simpa using rv) hw
noncomputable def zm0 (to ti : TE) (t : zjo) : TG := fun v σ H Q => to σ H fun o H1 => ti σ H1 fun i H2 => t o i v H2 fun H3 => Q σ H3
theorem zr2 {o i : Expr} {to ti : TE} {t : zjo} (ho : PE X o to) (hi : PE X i ti) (hs : zom X t)
    (ha : ∀ v, assign (.Subscript o i pos) X.env v = (do
      let ov <- holding [v] (eval o X.env)
      let iv <- holding [v, ov] (eval i X.env)
      standAt pos
      holding [v, ov, iv] (setItem ov iv v)
      release [v, ov, iv] []) := by intro _; rfl) : PG X (.Subscript o i pos) (zm0 to ti t) := by
  intro pins s σ H v u Q I r h
  rw [ha]
  refine wpAny_bind (wpAny_holding (thn (ho pins s σ H _ I h) fun ov s1 ⟨x, H1, I1, r1, q1⟩ => ?_))
  refine wpAny_bind (wpAny_holding (thn (hi pins s1 σ H1 _ I1 q1) fun iv s2 ⟨y, H2, I2, r2, q2⟩ => ?_))
  refine wpAny_bind (wpAny_standAt (wpAny_bind (wpAny_holding (thn (hs pins s2 σ H2 x y v ov iv u _ I2 r1 r2 r q2) fun _ s3 ⟨H3, I3, q3⟩ => ?_))))
  exact wpAny_release ⟨σ, H3, I3, q3⟩
noncomputable def zfy (te : TE) (g : TG) : TS := fun D σ H => te σ H fun x H1 => g x σ H1 D.nx
theorem zlp {tg e : Expr} {te : TE} {g : TG} (he : PE X e te) (hg : PG X tg g) (hs : swapsWithSole [tg] e pos.line X.env = pure false := by rfl) (hw : swappedStores [tg] e X.env = pure none := by rfl)
    (h1 : (assignEach [tg] X.env).map (·.2) = [assign tg X.env] := by rfl) : PS X (.Assign [tg] e pos) (zfy te g) := by
  intro pins s σ H D I h
  refine wpAny_Assign_stores (thn (he pins s σ H _ I h) fun v s1 ⟨x, H1, I1, r1, q1⟩ => ?_) hs hw
  rw [h1]
  exact thn (hg pins s1 σ H1 x v _ I1 r1 q1) fun _ s2 q => q
theorem zft {i : Nat} {x : Str} {e : Expr} {te : TE} {pos' : Pos} (hN : X.N.Nodup) (hi : X.N[i]? = some x) (hx : Loc X.env.scope x) (he : PE X e te) (hs : swapsWith e (some (.Name x pos')) pos.line X.env = pure false := by rfl) (hf : X.fn x = true \/ X.env.scope.names.lookup x = some .local := by first | exact .inl rfl | exact .inr rfl | assumption) :
    PS X (.Assign [.Name x pos'] e pos) (zfy te (ze7 i)) := by
  intro pins s σ H D I h
  refine wpAny_Assign_Name (thn (he pins s σ H _ I h) fun v s1 ⟨y, H1, I1, r1, q1⟩ => ?_) hs
  exact zit I1 hN hi hx r1 (fun s2 I2 => ⟨_, H1, I2, q1⟩) hf
noncomputable def zqv (i : Nat) (te : TE) (ti : TIp) : TS := fun D σ H => ∃ x, σ[i]? = some (some x) /\ te σ H fun y H1 => ti x y H1 fun z H2 => D.nx (σ.set i (some z)) H2
theorem zwl {i : Nat} {x : Str} {e : Expr} {te : TE} {op : Operator} {ti : TIp} {pos' : Pos} (hN : X.N.Nodup) (hi : X.N[i]? = some x) (hx : Loc X.env.scope x) (he : PE X e te) (ho : PIp X op ti) (hf : X.fn x = true \/ X.env.scope.names.lookup x = some .local := by first | exact .inl rfl | exact .inr rfl | assumption) :
    PS X (.AugAssign (.Name x pos') op e pos) (zqv i te ti) := by
  intro pins s σ H D I h
  obtain ⟨v, e1, h⟩ := h
  obtain ⟨m, hn, hl⟩ := I.loc
  have vis : Vis X.env.scope x := by rcases hx with k | k; exact .inl k; exact .inr (.inl k)
  obtain ⟨u, r, l⟩ := hl i x v hi e1 vis
  refine wpAny_AugAssign_Name ?_
  have go : wpAny (model X.prog X.w) X.A (eval e X.env) (fun w s₂ => wpAny (model X.prog X.w) X.A (inplaceOp op u w) (fun r s₃ => wpAny (model X.prog X.w) X.A (storeName X.env x r) (fun _ => SP X pins D .next) X.xe s₃) X.xe s₂) X.xe s := by
    refine thn (he pins s σ H _ I h) fun w s1 ⟨y, H1, I1, r1, q1⟩ => ?_
    refine thn (ho pins s1 σ H1 v y u w _ I1 r r1 q1) fun z s2 ⟨zv, H2, I2, r2, q2⟩ => ?_
    exact zit I2 hN hi hx r2 (fun s3 I3 => ⟨_, H2, I3, q2⟩) hf
  rcases l with ⟨hk, hm⟩ | ⟨hk, c, hc, hcell⟩
  · exact wpAny_loadName_local I.ok.kind hk hn hm go
  · rcases hk with hk | hk
    · exact wpAny_loadName_cell I.ok.kind hk hc hcell go
    · rcases hx with k | k
      · have : X.env.scope.names.lookup x = some .free := hk
        rw [k] at this; cases this
      · have : X.env.scope.names.lookup x = some .free := hk
        rw [k] at this; cases this
noncomputable def ipI (f : Int -> Int -> Int) : TIp := fun x y H Q => ∃ i j, x = .int i /\ y = .int j /\ Q (.int (f i j)) H
theorem zuh : PIp X .Add (ipI fun i j => i + j) := by
  intro pins s σ H x y v u Q I r1 r2 h
  obtain ⟨i, j, e1, e2, q⟩ := h
  subst e1; subst e2
  obtain ⟨t, rfl⟩ := r1
  obtain ⟨t', rfl⟩ := r2
  exact iadd_int ⟨.int _, H, I.tok _, ⟨_, rfl⟩, q⟩
end
section
variable {X : Cx} {pos : Pos}
end
structure It where
  go : Nat -> Hp -> Prop
  yld : Nat -> Hp -> V -> Hp -> Prop
  stop : Nat -> Hp -> Prop
noncomputable def zcu (X : Cx) (pins : List (Addr × Obj)) (H : Hp) (b : Addr) : Prop :=
  H b = none /\ b ≠ X.env.locals /\ b ∉ X.fs /\ (b ∈ X.ex \/ X.s₀.heap.objs.size <= b) /\ (∀ x c, X.env.cells.lookup x = some c -> c ≠ b) /\ ∀ p ∈ X.pn ++ pins, p.1 ≠ b
theorem Inv.fpOk {X : Cx} {pins : List (Addr × Obj)} {σ : St} {H H' : Hp} {s : Shared} {b : Addr} (I : Inv X pins σ H s) (hb : s.heap.objs.size <= b) (hn : H' b = none) : zcu X pins H' b := by
  refine ⟨hn, Nat.ne_of_gt (Nat.lt_of_lt_of_le I.lt hb), I.nofs hb, .inr (Nat.le_trans I.sz hb), fun x c e z => ?_, fun p hp z => ?_⟩
  · obtain ⟨v, q⟩ := I.cell x c e
    exact absurd (Nat.lt_of_lt_of_le q.lt (by rw [z]; exact hb)) (Nat.lt_irrefl _)
  · exact absurd (Nat.lt_of_lt_of_le (Heap.lt_size (I.pin p hp).1) (by rw [z]; exact hb)) (Nat.lt_irrefl _)
structure zef (P : Program) (w : World) (K : PySem.W.Frag) (tg : Expr) (J : It) (fp : List Addr) (it : Addr) (tn : Nat -> Heap -> Prop) : Prop where
  mem : it ∈ fp
  obj : ∀ i h, tn i h -> ∀ b ∈ fp, ∃ o, h.get? b = some o /\ ∀ v, o.data ≠ .cell v
  keep : ∀ i h h', tn i h -> (∀ b ∈ fp, ∀ o, h.get? b = some o -> h'.get? b = some o) -> tn i h'
  item : ∀ (X : Cx), X.prog = P -> X.w = w -> X.K = K -> X.calm = true -> ∀ (i : Nat) (pins : List (Addr × Obj)) (s : Shared) (σ : St) (H : Hp) (E : Value -> Shared -> Prop), Inv X pins σ H s -> (∀ b ∈ fp, zcu X pins H b) -> tn i s.heap -> J.go i H ->
    wpAny (model P w) X.A (pyNext (.ref it)) (fun r s1 => ∃ u, r = some u /\
      wpAny (model P w) X.A (letOwnedTupleGo tg (.ref it) u) (fun _ s2 => ∃ x H', Inv X pins σ H' s2 /\ zah x u /\ J.yld i H x H' /\ tn (i + 1) s2.heap /\ ∀ b ∈ fp, H' b = none) E s1) E s
  done : ∀ (X : Cx), X.prog = P -> X.w = w -> X.K = K -> X.calm = true -> ∀ (i : Nat) (pins : List (Addr × Obj)) (s : Shared) (σ : St) (H : Hp) (E : Value -> Shared -> Prop), Inv X pins σ H s -> (∀ b ∈ fp, zcu X pins H b) -> tn i s.heap -> J.stop i H ->
    wpAny (model P w) X.A (pyNext (.ref it)) (fun r s1 => r = none /\ Inv X pins σ H s1) E s
  self : ∀ (A : Around) (i : Nat) (s : Shared) (Q : Value -> Shared -> Prop) (E : Value -> Shared -> Prop), tn i s.heap -> Q (.ref it) s -> wpAny (model P w) A (pyIter (.ref it)) Q E s
noncomputable abbrev TI := St -> Hp -> (It -> Hp -> Prop) -> Prop
noncomputable def PIE (X : Cx) (pins : List (Addr × Obj)) (σ : St) (tg : Expr) (R : It -> Hp -> Prop) (itv : Value) (s2 : Shared) : Prop :=
  ∃ (it : Addr) (fp : List Addr) (tn : Nat -> Heap -> Prop) (J : It) (H' : Hp), itv = .ref it /\ Inv X pins σ H' s2 /\ zef X.prog X.w X.K tg J fp it tn /\ tn 0 s2.heap /\ (∀ b ∈ fp, zcu X pins H' b) /\ R J H'
noncomputable def PI (X : Cx) (tg iter : Expr) (wi : TI) : Prop :=
  ∀ (pins : List (Addr × Obj)) (s : Shared) (σ : St) (H : Hp) (R : It -> Hp -> Prop), Inv X pins σ H s -> wi σ H R ->
    wpAny (model X.prog X.w) X.A (eval iter X.env) (fun v s1 => wpAny (model X.prog X.w) X.A (pyIter v) (PIE X pins σ tg R) X.xe s1) X.xe s
theorem zhp {M : Model} {A : Around} {E : Value -> Shared -> Prop} {s : Shared} {tg : Expr} {it : Addr} {u : Value} {o : Obj} {n : String} {vs : Array Value} {Q : Unit -> Shared -> Prop} (ho : s.heap.get? it = some o) (hc : o.cls = .type n) (hd : o.data = .fields vs)
    (hn : ["enumerate", "zip", "dict_itemiterator", "dict_reverseitemiterator", "odict_iterator", "itertools.zip_longest", "itertools.pairwise"].contains n = false) (hQ : Q () s) : wpAny M A (letOwnedTupleGo tg (.ref it) u) Q E s := by
  unfold letOwnedTupleGo
  cases tg <;> first
    | exact wpAny_pure hQ
    | (cases u <;> first
        | exact wpAny_pure hQ
        | (refine wpAny_bind (wpAny_load ho ?_)
           rw [hc, hd]
           show wpAny M A (if (["enumerate", "zip", "dict_itemiterator", "dict_reverseitemiterator", "odict_iterator", "itertools.zip_longest", "itertools.pairwise"].contains n && vs[0]? == some (rawInt _)) = true then _ else _) Q E s
           rw [if_neg (by intro h; rw [hn, Bool.false_and] at h; cases h)]
           exact wpAny_pure hQ))
noncomputable def Itl (K : PySem.W.Frag) (a : Addr) : It :=
  ⟨fun i H => ∃ xs x, SqL K H a xs /\ xs[i]? = some x, fun i H x H' => H' = H /\ ∀ xs, SqL K H a xs -> xs[i]? = some x, fun i H => ∃ xs, SqL K H a xs /\ xs.length <= i⟩
noncomputable def Itt (K : PySem.W.Frag) (a : Addr) : It :=
  ⟨fun i H => ∃ xs x, SqT K H a xs /\ xs[i]? = some x, fun i H x H' => H' = H /\ ∀ xs, SqT K H a xs -> xs[i]? = some x, fun i H => ∃ xs, SqT K H a xs /\ xs.length <= i⟩
noncomputable def Itr (lo : Int) (n : Nat) : It := ⟨fun i _ => i < n, fun i H x H' => H' = H /\ x = .int (lo + i), fun i _ => n <= i⟩
theorem zva {P : Program} {w : World} {K : PySem.W.Frag} {tg : Expr} (a it : Addr) : zef P w K tg (Itl K a) [it] it (fun i h => h.IsListIter it a i) where
  mem := by simp
  obj := fun i h st b hb => by
    have e : b = it := by simpa using hb
    subst e
    obtain ⟨o, e, c, d⟩ := st
    exact ⟨o, e, fun v z => by rw [d] at z; cases z⟩
  keep := fun i h h' st k => st.at fun o e => k it (by simp) o e
  item := by
    intro X hP hw hK hc i pins s σ H E I hf st hg
    subst hP hw hK
    obtain ⟨xs, x, hq, hx⟩ := hg
    obtain ⟨its, rv, p, hz⟩ := I.list hq
    obtain ⟨u, hu, ru⟩ := rv.get hx
    obtain ⟨f0, f1, f2, f3, f4, f5⟩ := hf it (by simp)
    refine wpAny_pyNext_list_item st p.isList (x := u) (by simpa using hu) fun h' st' sb => ?_
    have I1 : Inv X pins σ H { s with heap := h' } := I.turned (t' := s.toks) (fun b o hb e => (sb.2 b hb).trans e) f0 f1 f3 f4 f5
    obtain ⟨o, e, c, d⟩ := id st'
    exact ⟨u, rfl, zhp (s := { s with heap := h' }) e c d (by decide) ⟨x, H, I1, ru, ⟨rfl, fun ys hy => by rw [I.list_inj hy hq]; exact hx⟩, st', fun b hb => (hf b hb).1⟩⟩
  done := by
    intro X hP hw hK hc i pins s σ H E I hf st hg
    subst hP hw hK
    obtain ⟨xs, hq, hx⟩ := hg
    obtain ⟨its, rv, p, hz⟩ := I.list hq
    obtain ⟨f0, f1, f2, f3, f4, f5⟩ := hf it (by simp)
    have hl := rv.length
    exact wpAny_pyNext_list_end (I.ok.hd hc) st p.isList (by simp; omega) fun h' eb => ⟨rfl, I.turned (t' := s.toks) (fun b o hb e => eb b o hb e) f0 f1 f3 f4 f5⟩
  self := fun _ _ _ _ _ st h => wpAny_pyIter_listiter st h
theorem zpv {P : Program} {w : World} {K : PySem.W.Frag} {tg : Expr} (a it : Addr) : zef P w K tg (Itt K a) [it] it (fun i h => h.IsTupleIter it a i) where
  mem := by simp
  obj := fun i h st b hb => by
    have e : b = it := by simpa using hb
    subst e
    obtain ⟨o, e, c, d⟩ := st
    exact ⟨o, e, fun v z => by rw [d] at z; cases z⟩
  keep := fun i h h' st k => st.at fun o e => k it (by simp) o e
  item := by
    intro X hP hw hK hc i pins s σ H E I hf st hg
    subst hP hw hK
    obtain ⟨xs, x, hq, hx⟩ := hg
    obtain ⟨its, rv, p, hz⟩ := I.tuple hq
    obtain ⟨u, hu, ru⟩ := rv.get hx
    obtain ⟨f0, f1, f2, f3, f4, f5⟩ := hf it (by simp)
    refine wpAny_pyNext_tuple_item st (show s.heap.IsTuple a its.toArray from p) (x := u) (by simpa using hu) fun h' st' sb => ?_
    have I1 : Inv X pins σ H { s with heap := h' } := I.turned (t' := s.toks) (fun b o hb e => (sb.2 b hb).trans e) f0 f1 f3 f4 f5
    obtain ⟨o, e, c, d⟩ := id st'
    exact ⟨u, rfl, zhp (s := { s with heap := h' }) e c d (by decide) ⟨x, H, I1, ru, ⟨rfl, fun ys hy => by rw [I.tuple_inj hy hq]; exact hx⟩, st', fun b hb => (hf b hb).1⟩⟩
  done := by
    intro X hP hw hK hc i pins s σ H E I hf st hg
    subst hP hw hK
    obtain ⟨xs, hq, hx⟩ := hg
    obtain ⟨its, rv, p, hz⟩ := I.tuple hq
    obtain ⟨f0, f1, f2, f3, f4, f5⟩ := hf it (by simp)
    have hl := rv.length
    exact wpAny_pyNext_tuple_end (I.ok.hd hc) st (show s.heap.IsTuple a its.toArray from p) (by simp; omega) fun h' eb => ⟨rfl, I.turned (t' := s.toks) (fun b o hb e => eb b o hb e) f0 f1 f3 f4 f5⟩
  self := fun _ _ _ _ _ st h => wpAny_pyIter_tupleiter st h
theorem zp2 {P : Program} {w : World} {K : PySem.W.Frag} {tg : Expr} (it : Addr) (lo : Int) (n : Nat) : zef P w K tg (Itr lo n) [it] it (fun i h => IsRangeIter h it (lo + (i : Nat) * 1) ((n : Int) - (i : Nat)) 1) where
  mem := by simp
  obj := fun i h st b hb => by
    have e : b = it := by simpa using hb
    subst e
    exact ⟨_, st, fun v z => by
      have z' : Data.fields _ = Data.cell v := z
      cases z'⟩
  keep := fun i h h' st k => k it (by simp) _ st
  item := by
    intro X hP hw hK hc i pins s σ H E I hf st hg
    subst hP hw hK
    obtain ⟨f0, f1, f2, f3, f4, f5⟩ := hf it (by simp)
    have W := Walks.range (prog := X.prog) (w := X.w) (I.ok.hd hc) it lo 1 n
    refine W.item i s _ _ hg st fun v h' tk hv st' kk => ?_
    obtain ⟨t, rfl⟩ := hv
    have I1 : Inv X pins σ H { s with heap := h', toks := tk } := I.turned (fun b o hb e => kk b o (by simpa using hb) e) f0 f1 f3 f4 f5
    refine ⟨_, rfl, zhp (s := { s with heap := h', toks := tk }) (n := "range_iterator") st' rfl rfl (by decide) ⟨.int (lo + i), H, I1, ⟨t, ?_⟩, ⟨rfl, rfl⟩, st', fun b hb => (hf b hb).1⟩⟩
    rw [Int.mul_one]
  done := by
    intro X hP hw hK hc i pins s σ H E I hf st hg
    subst hP hw hK
    obtain ⟨f0, f1, f2, f3, f4, f5⟩ := hf it (by simp)
    exact wpAny_pyNext_range_end (I.ok.hd hc) st (by have : n <= i := hg; omega) fun h' eb => ⟨rfl, I.turned (t' := s.toks) (fun b o hb e => eb b o hb e) f0 f1 f3 f4 f5⟩
  self := fun _ _ _ _ _ st h => wpAny_pyIter_rangeiter st h
end L2
namespace L2
open PySem PySem.Spec PyProof.Rows
section
variable {X : Cx} {tg : Expr}
noncomputable def zso (K : PySem.W.Frag) (tl : TE) : TI := fun σ H R => tl σ H fun x H1 => ∃ a, x = .ref a /\ (∃ xs, SqL K H1 a xs) /\ R (Itl K a) H1
noncomputable def zwi (K : PySem.W.Frag) (tl : TE) : TI := fun σ H R => tl σ H fun x H1 => ∃ a, x = .ref a /\ (∃ xs, SqT K H1 a xs) /\ R (Itt K a) H1
theorem zpu {l : Expr} {tl : TE} (hl : PE X l tl) : PI X tg l (zso X.K tl) := by
  intro pins s σ H R I h
  refine thn (hl pins s σ H _ I h) fun v s1 ⟨x, H1, I1, r1, q1⟩ => ?_
  obtain ⟨a, e, ⟨xs, hq⟩, q⟩ := q1
  subst e
  cases r1
  obtain ⟨its, rv, p, hz⟩ := I1.list hq
  refine wpAny_pyIter_list p.isList ?_
  refine ⟨s1.heap.objs.size, [s1.heap.objs.size], _, _, H1, rfl, I1.kept (t' := s1.toks) fun b o e => Heap.get?_push_of_some _ e, zva a _, ⟨_, Heap.get?_push_size _ rfl, rfl, rfl⟩, fun b hb => ?_, q⟩
  have e : b = s1.heap.objs.size := by simpa using hb
  subst e
  exact I1.fpOk (Nat.le_refl _) (I1.hok.fresh (Nat.le_refl _))
theorem zwk {l : Expr} {tl : TE} (hl : PE X l tl) : PI X tg l (zwi X.K tl) := by
  intro pins s σ H R I h
  refine thn (hl pins s σ H _ I h) fun v s1 ⟨x, H1, I1, r1, q1⟩ => ?_
  obtain ⟨a, e, ⟨xs, hq⟩, q⟩ := q1
  subst e
  cases r1
  obtain ⟨its, rv, p, hz⟩ := I1.tuple hq
  refine wpAny_pyIter_tuple (show s1.heap.IsTuple a its.toArray from p) ?_
  refine ⟨s1.heap.objs.size, [s1.heap.objs.size], _, _, H1, rfl, I1.kept (t' := s1.toks) fun b o e => Heap.get?_push_of_some _ e, zpv a _, ⟨_, Heap.get?_push_size _ rfl, rfl, rfl⟩, fun b hb => ?_, q⟩
  have e : b = s1.heap.objs.size := by simpa using hb
  subst e
  exact I1.fpOk (Nat.le_refl _) (I1.hok.fresh (Nat.le_refl _))
theorem zu6 {pins : List (Addr × Obj)} {σ : St} {H : Hp} {s : Shared} {R : It -> Hp -> Prop} {E : Value -> Shared -> Prop} {lo hi : Int} {t u v : Tok} {tk : Nat} (I : Inv X pins σ H s) (h1 : -(2 ^ 62) <= lo) (h2 : lo < 2 ^ 62) (h3 : -(2 ^ 62) <= hi) (h4 : hi < 2 ^ 62)
    (q : R (Itr lo (hi - lo).toNat) H) : wpAny (model X.prog X.w) X.A (pyIter (.ref s.heap.objs.size)) (PIE X pins σ tg R) E { s with heap := s.heap.push { cls := .type "range", data := .fields #[.int lo t, .int hi u, .int 1 v] }, toks := tk } := by
  refine wpAny_pyIter_range (IsRange.new ..) (small_one h1 h2 h3 h4) ?_
  have I1 : Inv X pins σ H { s with heap := s.heap.push { cls := .type "range", data := .fields #[.int lo t, .int hi u, .int 1 v] }, toks := tk } := I.kept fun b o e => Heap.get?_push_of_some _ e
  refine ⟨(s.heap.push { cls := .type "range", data := .fields #[.int lo t, .int hi u, .int 1 v] }).objs.size, [(s.heap.push { cls := .type "range", data := .fields #[.int lo t, .int hi u, .int 1 v] }).objs.size], _, _, H, rfl,
    I1.kept (t' := tk) fun b o e => Heap.get?_push_of_some _ e, zp2 _ lo (hi - lo).toNat, ?_, fun b hb => ?_, q⟩
  · have e1 : lo + ((0 : Nat) : Int) * 1 = lo := by simp
    have e2 : (((hi - lo).toNat : Nat) : Int) - ((0 : Nat) : Int) = Builtin.Range.rangeSize lo hi 1 := by rw [rangeSize_one]; split <;> omega
    show IsRangeIter _ _ (lo + ((0 : Nat) : Int) * 1) ((((hi - lo).toNat : Nat) : Int) - ((0 : Nat) : Int)) 1
    rw [e1, e2]
    exact Heap.get?_push_size _ rfl
  · have e : b = (s.heap.push { cls := .type "range", data := .fields #[.int lo t, .int hi u, .int 1 v] }).objs.size := by simpa using hb
    subst e
    exact I1.fpOk (Nat.le_refl _) (I1.hok.fresh (Nat.le_refl _))
noncomputable def zvc (ta : TA) : TI := fun σ H R => ta σ H fun vs H1 => ∃ j : Int, vs = [.int j] /\ -(2 ^ 62) <= j /\ j < 2 ^ 62 /\ R (Itr 0 j.toNat) H1
theorem zmc {a : Expr} {ta : TA} {p pos : Pos} (hg : Gl X "range") (hm : X.mg "range" = none) (ha : PA X [a] ta) (hs : starEach [a] X.env = [(false, eval a X.env)] := by rfl) : PI X tg (.Call (.Name "range" p) [a] [] pos) (zvc ta) := by
  intro pins s σ H R I h
  refine Call_ (zfm I hg hm boot_range (PyProof.Rows.callWith_type1 (thn (ha pos pins s σ H _ I h) fun us s1 ⟨vs, H1, I1, r1, q1⟩ => ?_) hs rfl))
  obtain ⟨j, e, q1, q2, q⟩ := q1
  subst e
  cases r1 with
  | cons r rr =>
    cases rr
    obtain ⟨t, rfl⟩ := r
    exact call_range_1 (zu6 I1 (by omega) (by omega) q1 q2 (by simpa using q))
noncomputable def zts (wi : TI) (g : TG) (tb : TS) : TS := fun D σ H => wi σ H fun J H1 => ∃ W : Nat -> Nat -> St -> Hp -> Prop, (∃ m, W 0 m σ H1) /\ ∀ i m σ H, W i m σ H ->
  (J.stop i H /\ D.nx σ H) \/ (J.go i H /\ ∃ N : St -> Hp -> Prop, (∀ σ' H', N σ' H' -> ∃ m', m' < m /\ W (i + 1) m' σ' H') /\ ∀ x H', J.yld i H x H' -> g x σ H' fun σ2 H2 => tb { D with nx := N, ct := N, bk := D.nx } σ2 H2)
noncomputable def zf7 (fp : List Addr) (h : Heap) : List (Addr × Obj) := fp.filterMap fun b => (h.get? b).map fun o => (b, o)
theorem zh5 {fp : List Addr} {h : Heap} {b : Addr} {o : Obj} (hb : b ∈ fp) (e : h.get? b = some o) : (b, o) ∈ zf7 fp h := List.mem_filterMap.mpr ⟨b, hb, by rw [e]; rfl⟩
theorem zto {fp : List Addr} {h : Heap} {p : Addr × Obj} (hp : p ∈ zf7 fp h) : p.1 ∈ fp /\ h.get? p.1 = some p.2 := by
  obtain ⟨b, hb, e⟩ := List.mem_filterMap.mp hp
  cases q : h.get? b with
  | none => rw [q] at e; cases e
  | some o =>
    rw [q] at e
    have e' : (b, o) = p := Option.some.inj e
    subst e'
    exact ⟨hb, q⟩
theorem Inv.pinned {pins : List (Addr × Obj)} {σ : St} {H : Hp} {s : Shared} {fp : List Addr} (I : Inv X pins σ H s) (hf : ∀ b ∈ fp, zcu X pins H b) (ho : ∀ b ∈ fp, ∃ o, s.heap.get? b = some o /\ ∀ v, o.data ≠ .cell v) : Inv X (pins ++ zf7 fp s.heap) σ H s :=
  I.pins_of fun p hp => (List.mem_append.mp hp).elim (fun z => I.pin p (List.mem_append_right _ z)) fun z => by
    obtain ⟨hb, e⟩ := zto z
    obtain ⟨f0, f1, f2, _⟩ := hf p.1 hb
    obtain ⟨o, e', d⟩ := ho p.1 hb
    rw [e] at e'; cases e'
    exact ⟨e, f0, f1, f2, d⟩
theorem Inv.unpinned {pins pl : List (Addr × Obj)} {σ : St} {H : Hp} {s : Shared} (I : Inv X (pins ++ pl) σ H s) : Inv X pins σ H s := I.pins_of fun p hp => I.pin p (List.mem_append_right _ (List.mem_append_left _ hp))
theorem zob {iter : Expr} {body : List Stmt} {wi : TI} {g : TG} {tb : TS} {pos : Pos} (hp : PassesOwn (model X.prog X.w) X.A X.env X.xe) (hc : X.calm = true) (hi : PI X tg iter wi) (hg : PG X tg g) (hb : PSs X body tb)
    (hs : ∀ x, foldedSetIterable iter X.env x = pure x := by intro _; rfl) : PS X (.For tg iter body [] pos) (zts wi g tb) := by
  intro pins s σ H D I h
  refine wpAny_For (thn (hi pins s σ H _ I h) fun v s1 h1 => thn h1 fun itv s2 h2 => ?_) hs
  obtain ⟨it, fp, tn, J, H2, e, I2, T, st2, f2, W, ⟨m0, w0⟩, turn⟩ := h2
  subst e
  have stat : ∀ {H' : Hp}, (∀ b ∈ fp, H' b = none) -> ∀ b ∈ fp, zcu X pins H' b := fun hn b hb => ⟨hn b hb, (f2 b hb).2⟩
  refine codeAny_forLoop_any (fun n s' => ∃ i σ' H', Inv X pins σ' H' s' /\ tn i s'.heap /\ (∀ b ∈ fp, H' b = none) /\ W i n σ' H') ?_ m0 ⟨0, σ, H2, I2, st2, fun b hb => (f2 b hb).1, w0⟩
  rintro n s3 ⟨i, σ3, H3, I3, st3, fr3, w3⟩
  rcases turn i n σ3 H3 w3 with ⟨stop, qn⟩ | ⟨go, N, hN, step⟩
  · refine wpAny_passesOwn hp (thn (T.done X rfl rfl rfl hc i pins s3 σ3 H3 X.xe I3 (stat fr3) st3 stop) fun r s4 ⟨hr, I4⟩ => ?_)
    subst hr
    exact wpAny_execs_nil ⟨σ3, H3, I4, qn⟩
  · refine wpAny_passesOwn hp (thn (T.item X rfl rfl rfl hc i pins s3 σ3 H3 X.xe I3 (stat fr3) st3 go) fun r s4 ⟨u, hr, h4⟩ => ?_)
    subst hr
    refine wpAny_passesOwn hp (thn h4 fun _ s5 ⟨x, H5, I5, r5, y5, st5, fr5⟩ => ?_)
    have I5' := I5.pinned (stat fr5) (T.obj _ _ st5)
    refine wpAny_passesOwn hp (thn (hg _ s5 σ3 H5 x u _ I5' r5 (step x H5 y5)) fun _ s6 ⟨σ6, H6, I6, q6⟩ => ?_)
    refine wpAny_passesOwn hp (thn (hb _ s6 σ6 H6 _ I6 q6) fun f s7 q7 => ?_)
    have again : ∀ {σ7 : St} {H7 : Hp}, Inv X (pins ++ zf7 fp s5.heap) σ7 H7 s7 -> N σ7 H7 -> ∃ m, m < n /\ ∃ i σ' H', Inv X pins σ' H' s7 /\ tn i s7.heap /\ (∀ b ∈ fp, H' b = none) /\ W i m σ' H' := fun {σ7 H7} I7 n7 => by
      obtain ⟨m', hm, w7⟩ := hN σ7 H7 n7
      refine ⟨m', hm, i + 1, σ7, H7, I7.unpinned, T.keep _ _ _ st5 fun b hb o e => (I7.pin (b, o) (List.mem_append_right _ (List.mem_append_right _ (zh5 hb e)))).1, fun b hb => ?_, w7⟩
      obtain ⟨o, e, d⟩ := T.obj _ _ st5 b hb
      exact (I7.pin (b, o) (List.mem_append_right _ (List.mem_append_right _ (zh5 hb e)))).2.1
    cases f with
    | next => obtain ⟨σ7, H7, I7, n7⟩ := q7; exact again I7 n7
    | cont => obtain ⟨σ7, H7, I7, n7⟩ := q7; exact again I7 n7
    | brk => obtain ⟨σ7, H7, I7, q7⟩ := q7; exact ⟨σ7, H7, I7.unpinned, q7⟩
    | ret v => obtain ⟨x7, σ7, H7, I7, r7, q7⟩ := q7; exact ⟨x7, σ7, H7, I7.unpinned, r7, q7⟩
end
end L2
namespace L2
open PySem PySem.Spec PyProof.Rows
noncomputable abbrev R2 := V -> V -> Hp -> VK -> Prop
noncomputable def OpR (X : Cx) (f : Value -> Value -> Sem Value) (r : R2) : Prop :=
  ∀ (pins : List (Addr × Obj)) (s : Shared) (σ : St) (H : Hp) (x y : V) (v u : Value) (Q : VK), Inv X pins σ H s -> zah x v -> zah y u -> r x y H Q ->
    wpAny (model X.prog X.w) X.A (f v u) (EP X pins σ Q) X.xe s
noncomputable def UnR (X : Cx) (f : Value -> Sem Value) (r : V -> Hp -> VK -> Prop) : Prop :=
  ∀ (pins : List (Addr × Obj)) (s : Shared) (σ : St) (H : Hp) (x : V) (v : Value) (Q : VK), Inv X pins σ H s -> zah x v -> r x H Q ->
    wpAny (model X.prog X.w) X.A (f v) (EP X pins σ Q) X.xe s
noncomputable def zbq (X : Cx) (f : Value) (r : List V -> Hp -> VK -> Prop) : Prop :=
  ∀ (pins : List (Addr × Obj)) (s : Shared) (σ : St) (H : Hp) (xs : List V) (us : List Value) (Q : VK), Inv X pins σ H s -> zae xs us -> r xs H Q ->
    wpAny (model X.prog X.w) X.A (call f us) (EP X pins σ Q) X.xe s
noncomputable def zqo (X : Cx) (r : V -> Hp -> (Bool -> Hp -> Prop) -> Prop) : Prop :=
  ∀ (pins : List (Addr × Obj)) (s : Shared) (σ : St) (H : Hp) (x : V) (v : Value) (Q : Bool -> Hp -> Prop), Inv X pins σ H s -> zah x v -> r x H Q ->
    wpAny (model X.prog X.w) X.A (truthy v) (TP X pins σ Q) X.xe s
noncomputable def tOp (r : R2) (ta tb : TE) : TE := fun σ H Q => ta σ H fun x H1 => tb σ H1 fun y H2 => r x y H2 Q
noncomputable def tUn (r : V -> Hp -> VK -> Prop) (ta : TE) : TE := fun σ H Q => ta σ H fun x H1 => r x H1 Q
noncomputable def rI (C : Int -> Int -> Prop) (g : Int -> Int -> V) : R2 := fun x y H Q => ∃ i j, x = .int i /\ y = .int j /\ C i j /\ Q (g i j) H
noncomputable def rI0 (g : Int -> Int -> V) : R2 := fun x y H Q => ∃ i j, x = .int i /\ y = .int j /\ Q (g i j) H
noncomputable def rU (g : Int -> V) : V -> Hp -> VK -> Prop := fun x H Q => ∃ i, x = .int i /\ Q (g i) H
section
variable {X : Cx} {a b c : Expr} {ta tb tc : TE} {pos : Pos}
theorem zhe (ha : PE X a ta) (hb : PE X b tb) {pins : List (Addr × Obj)} {s : Shared} {σ : St} {H : Hp} {R : V -> V -> Hp -> Prop} (I : Inv X pins σ H s)
    (h : ta σ H fun x H1 => tb σ H1 fun y H2 => R x y H2) {Q : Value -> Shared -> Prop} {f : Value -> Value -> Sem Value}
    (hf : ∀ v u s2 x y H2, Inv X pins σ H2 s2 -> zah x v -> zah y u -> R x y H2 -> wpAny (model X.prog X.w) X.A (f v u) Q X.xe s2) :
    wpAny (model X.prog X.w) X.A (eval a X.env) (fun v s₁ => wpAny (model X.prog X.w) X.A (eval b X.env) (fun u s₂ => wpAny (model X.prog X.w) X.A (f v u) Q X.xe s₂) X.xe s₁) X.xe s := by
  refine thn (ha pins s σ H _ I h) fun v s1 ⟨x, H1, I1, r1, q1⟩ => ?_
  refine thn (hb pins s1 σ H1 _ I1 q1) fun u s2 ⟨y, H2, I2, r2, q2⟩ => ?_
  exact hf v u s2 x y H2 I2 r1 r2 q2
theorem zkp {op : Operator} {r : R2} (ho : OpR X (binaryOp op) r) (ha : PE X a ta) (hb : PE X b tb) : PE X (.BinOp a op b pos) (tOp r ta tb) := by
  intro pins s σ H Q I h
  exact wpAny_BinOp (zhe ha hb I h fun v u s2 x y H2 I2 rx ry q => ho pins s2 σ H2 x y v u Q I2 rx ry q)
theorem zsa {op : UnaryOp} {r : V -> Hp -> VK -> Prop} (ho : UnR X (unaryOp op) r) (ha : PE X a ta) : PE X (.UnaryOp op a pos) (tUn r ta) := by
  intro pins s σ H Q I h
  exact UnaryOp_ (thn (ha pins s σ H _ I h) fun v s1 ⟨x, H1, I1, r1, q1⟩ => ho pins s1 σ H1 x v Q I1 r1 q1)
theorem opI {f : Value -> Value -> Sem Value} {C : Int -> Int -> Prop} {g : Int -> Int -> Int}
    (rule : ∀ (i j : Int) (t u : Tok) (s : Shared) (Q : Value -> Shared -> Prop) (E : Value -> Shared -> Prop), C i j -> Q (.int (g i j) s.toks) { s with toks := s.toks + 1 } -> wpAny (model X.prog X.w) X.A (f (.int i t) (.int j u)) Q E s) :
    OpR X f (rI C fun i j => .int (g i j)) := by
  intro pins s σ H x y v u Q I rx ry h
  obtain ⟨i, j, rfl, rfl, hc, q⟩ := h
  obtain ⟨t, rfl⟩ := rx
  obtain ⟨t', rfl⟩ := ry
  exact rule i j t t' s _ _ hc ⟨.int (g i j), H, I.tok _, ⟨_, rfl⟩, q⟩
theorem zmo {f : Value -> Value -> Sem Value} {g : Int -> Int -> Int}
    (rule : ∀ (i j : Int) (t u : Tok) (s : Shared) (Q : Value -> Shared -> Prop) (E : Value -> Shared -> Prop), Q (.int (g i j) s.toks) { s with toks := s.toks + 1 } -> wpAny (model X.prog X.w) X.A (f (.int i t) (.int j u)) Q E s) :
    OpR X f (rI0 fun i j => .int (g i j)) := by
  intro pins s σ H x y v u Q I rx ry h
  obtain ⟨i, j, rfl, rfl, q⟩ := h
  obtain ⟨t, rfl⟩ := rx
  obtain ⟨t', rfl⟩ := ry
  exact rule i j t t' s _ _ ⟨.int (g i j), H, I.tok _, ⟨_, rfl⟩, q⟩
noncomputable def zfu (i j : Int) : Prop := 0 < j /\ j < 1073741824
noncomputable def zgb (i j : Int) : Prop := 0 <= j /\ j <= 1000000 /\ i.natAbs < 2 ^ 64
noncomputable def zd9 (i j : Int) : Prop := (-(2 ^ 64) < i /\ i < 2 ^ 64) \/ (-(2 ^ 64) < j /\ j < 2 ^ 64)
theorem zd9.ok {i j : Int} (h : zd9 i j) : IntMulOk i j := by
  rcases h with ⟨h1, h2⟩ | ⟨h1, h2⟩
  · exact .of_left (intBits_le_64 h1 h2)
  · exact .of_right (intBits_le_64 h1 h2)
theorem zr9 : OpR X (binaryOp .Add) (rI0 fun i j => .int (i + j)) := zmo fun _ _ _ _ _ _ _ q => add_int q
theorem zpy : OpR X (binaryOp .Sub) (rI0 fun i j => .int (i - j)) := zmo fun _ _ _ _ _ _ _ q => sub_int q
theorem zr7 : OpR X (binaryOp .FloorDiv) (rI zfu fun i j => .int (i / j)) := opI fun i j _ _ _ _ _ hc q => by
  have h1 : (0 : Int) < j := hc.1
  have h2 : j < 1073741824 := hc.2
  exact floordiv_int (by omega) (by rw [Int.fdiv_eq_ediv_of_nonneg i (by omega)]; exact q) (.inl (PyProof.noPylong_small (by omega)))
theorem zvj : OpR X (binaryOp .Mod) (rI (fun _ j => 0 < j) fun i j => .int (i % j)) := opI fun i j _ _ _ _ _ hc q => by
  have h1 : (0 : Int) < j := hc
  exact mod_int' (by omega) (by rw [Int.fmod_eq_emod_of_nonneg i (by omega)]; exact q)
theorem zra : OpR X (binaryOp .Pow) (rI zgb fun i j => .int (i ^ j.toNat)) := opI fun _ _ _ _ _ _ _ hc q => pow_int_small hc.1 hc.2.1 hc.2.2 q
theorem unI {f : Value -> Sem Value} {g : Int -> Int}
    (rule : ∀ (i : Int) (t : Tok) (s : Shared) (Q : Value -> Shared -> Prop) (E : Value -> Shared -> Prop), Q (.int (g i) s.toks) { s with toks := s.toks + 1 } -> wpAny (model X.prog X.w) X.A (f (.int i t)) Q E s) :
    UnR X f (rU fun i => .int (g i)) := by
  intro pins s σ H x v Q I rx h
  obtain ⟨i, rfl, q⟩ := h
  obtain ⟨t, rfl⟩ := rx
  exact rule i t s _ _ ⟨.int (g i), H, I.tok _, ⟨_, rfl⟩, q⟩
theorem zrs : UnR X (unaryOp .USub) (rU fun i => .int (-i)) := unI fun _ _ _ _ _ q => neg_int q
end
noncomputable def zk3 : V -> V -> Bool
  | .non, .non => true | .non, .int _ => true | .int _, .non => true | .non, .bl _ => true | .bl _, .non => true | .non, .str _ => true | .str _, .non => true
  | .int _, .int _ => true | .bl _, .bl _ => true | .str _, .str _ => true | .byt _, .byt _ => true
  | .int _, .str _ => true | .str _, .int _ => true | .bl _, .str _ => true | .str _, .bl _ => true
  | _, _ => false
noncomputable def rEq : R2 := fun x y H Q => zk3 x y = true /\ Q (.bl (decide (x = y))) H
noncomputable def rNe : R2 := fun x y H Q => zk3 x y = true /\ Q (.bl (!decide (x = y))) H
theorem ziu {i j : Int} : decide (V.int i = V.int j) = (i == j) := by
  rw [Bool.eq_iff_iff]
  simp
theorem zkz {i j : Bool} : decide (V.bl i = V.bl j) = (i == j) := by
  rw [Bool.eq_iff_iff]
  simp
theorem zjm {i j : Str} : decide (V.str i = V.str j) = (i == j) := by
  rw [Bool.eq_iff_iff]
  simp
theorem znl {i j : Array UInt8} : decide (V.byt i = V.byt j) = (i.toList == j.toList) := by
  rw [Bool.eq_iff_iff]
  cases i
  cases j
  simp
section
variable {X : Cx} {a b c : Expr} {ta tb tc : TE} {pos : Pos}
theorem zaw {pins : List (Addr × Obj)} {σ : St} {H : Hp} {s : Shared} {Q : VK} {k k' : Bool} (I : Inv X pins σ H s) (q : Q (.bl k) H) (e : k = k') : EP X pins σ Q (.bool k') s := by
  subst e
  exact ⟨.bl k, H, I, rfl, q⟩
theorem zpb : OpR X (compareOp .Eq) rEq := by
  intro pins s σ H x y v u Q I rx ry h
  obtain ⟨hs, q⟩ := h
  cases x with
  | non =>
    cases rx
    cases y with
    | non => cases ry; exact PySem.EqNone.eq_none_none (zaw I q (by simp))
    | bl j => cases ry; exact PySem.EqNone.eq_none_bool (zaw I q (by simp))
    | int j => obtain ⟨t', rfl⟩ := ry; exact PySem.EqNone.eq_none_int (zaw I q (by simp))
    | str j => obtain ⟨t', rfl⟩ := ry; exact PySem.EqNone.eq_none_str (zaw I q (by simp))
    | _ => exact absurd (show false = true from hs) Bool.false_ne_true
  | bl i =>
    cases rx
    cases y with
    | non => cases ry; exact PySem.EqNone.eq_bool_none (zaw I q (by simp))
    | bl j => cases ry; exact eq_bool (zaw I q zkz)
    | str j => obtain ⟨t', rfl⟩ := ry; exact PySem.EqMixed.eq_bool_str (zaw I q (by simp))
    | _ => exact absurd (show false = true from hs) Bool.false_ne_true
  | int i =>
    obtain ⟨t, rfl⟩ := rx
    cases y with
    | non => cases ry; exact PySem.EqNone.eq_int_none (zaw I q (by simp))
    | int j => obtain ⟨t', rfl⟩ := ry; exact eq_int (zaw I q ziu)
    | str j => obtain ⟨t', rfl⟩ := ry; exact PySem.EqMixed.eq_int_str (zaw I q (by simp))
    | _ => exact absurd (show false = true from hs) Bool.false_ne_true
  | str i =>
    obtain ⟨t, rfl⟩ := rx
    cases y with
    | non => cases ry; exact PySem.EqNone.eq_str_none (zaw I q (by simp))
    | bl j => cases ry; exact PySem.EqMixed.eq_str_bool (zaw I q (by simp))
    | int j => obtain ⟨t', rfl⟩ := ry; exact PySem.EqMixed.eq_str_int (zaw I q (by simp))
    | str j => obtain ⟨t', rfl⟩ := ry; exact eq_str (zaw I q zjm)
    | _ => exact absurd (show false = true from hs) Bool.false_ne_true
  | byt i =>
    obtain ⟨t, rfl⟩ := rx
    cases y with
    | byt j => obtain ⟨t', rfl⟩ := ry; exact PySem.W.eq_bytes (zaw I q znl)
    | _ => exact absurd (show false = true from hs) Bool.false_ne_true
  | _ => cases y <;> exact absurd (show false = true from hs) Bool.false_ne_true
theorem zt3 : OpR X (compareOp .NotEq) rNe := by
  intro pins s σ H x y v u Q I rx ry h
  obtain ⟨hs, q⟩ := h
  cases x with
  | non =>
    cases rx
    cases y with
    | non => cases ry; exact PySem.EqNone.ne_none_none (zaw I q (by simp))
    | bl j => cases ry; exact PySem.EqNone.ne_none_bool (zaw I q (by simp))
    | int j => obtain ⟨t', rfl⟩ := ry; exact PySem.EqNone.ne_none_int (zaw I q (by simp))
    | str j => obtain ⟨t', rfl⟩ := ry; exact PySem.EqNone.ne_none_str (zaw I q (by simp))
    | _ => exact absurd (show false = true from hs) Bool.false_ne_true
  | bl i =>
    cases rx
    cases y with
    | non => cases ry; exact PySem.EqNone.ne_bool_none (zaw I q (by simp))
    | bl j => cases ry; exact ne_bool (zaw I q (congrArg not zkz))
    | str j => obtain ⟨t', rfl⟩ := ry; exact PySem.EqMixed.ne_bool_str (zaw I q (by simp))
    | _ => exact absurd (show false = true from hs) Bool.false_ne_true
  | int i =>
    obtain ⟨t, rfl⟩ := rx
    cases y with
    | non => cases ry; exact PySem.EqNone.ne_int_none (zaw I q (by simp))
    | int j => obtain ⟨t', rfl⟩ := ry; exact ne_int (zaw I q (congrArg not ziu))
    | str j => obtain ⟨t', rfl⟩ := ry; exact PySem.EqMixed.ne_int_str (zaw I q (by simp))
    | _ => exact absurd (show false = true from hs) Bool.false_ne_true
  | str i =>
    obtain ⟨t, rfl⟩ := rx
    cases y with
    | non => cases ry; exact PySem.EqNone.ne_str_none (zaw I q (by simp))
    | bl j => cases ry; exact PySem.EqMixed.ne_str_bool (zaw I q (by simp))
    | int j => obtain ⟨t', rfl⟩ := ry; exact PySem.EqMixed.ne_str_int (zaw I q (by simp))
    | str j => obtain ⟨t', rfl⟩ := ry; exact ne_str (zaw I q (congrArg not zjm))
    | _ => exact absurd (show false = true from hs) Bool.false_ne_true
  | byt i =>
    obtain ⟨t, rfl⟩ := rx
    cases y with
    | byt j => obtain ⟨t', rfl⟩ := ry; exact PySem.W.ne_bytes (zaw I q (congrArg not znl))
    | _ => exact absurd (show false = true from hs) Bool.false_ne_true
  | _ => cases y <;> exact absurd (show false = true from hs) Bool.false_ne_true
theorem OpR.or {f : Value -> Value -> Sem Value} {r r' : R2} (h : OpR X f r) (h' : OpR X f r') : OpR X f (fun x y H Q => r x y H Q \/ r' x y H Q) := by
  intro pins s σ H x y v u Q I rx ry q
  rcases q with q | q
  · exact h pins s σ H x y v u Q I rx ry q
  · exact h' pins s σ H x y v u Q I rx ry q
theorem zjk (b : Expr) {op : CmpOp} (h : op ≠ .In := by decide) (h2 : op ≠ .NotIn := by decide) : behindInMarks op b = false := by
  have e1 : (op == CmpOp.In) = false := by cases op <;> first | rfl | exact absurd rfl h
  have e2 : (op == CmpOp.NotIn) = false := by cases op <;> first | rfl | exact absurd rfl h2
  cases b <;> simp [behindInMarks, e1, e2]
theorem zwa {op : CmpOp} {r : R2} (ho : OpR X (compareOp op) r) (ha : PE X a ta) (hb : PE X b tb) (hm : behindInMarks op b = false) : PE X (.Compare a [op] [b] pos) (tOp r ta tb) := by
  intro pins s σ H Q I h
  exact wpAny_Compare1 (zhe ha hb I h fun v u s2 x y H2 I2 rx ry q => ho pins s2 σ H2 x y v u Q I2 rx ry q) hm
noncomputable def zvg (t : TE) : TT := fun σ H Q => t σ H fun x H' => ∃ k, x = .bl k /\ Q k H'
theorem znz {op : CmpOp} {r : R2} (ho : OpR X (compareOp op) r) (ha : PE X a ta) (hb : PE X b tb) (hm : behindInMarks op b = false) : PT X (.Compare a [op] [b] pos) (zvg (tOp r ta tb)) := by
  intro pins s σ H Q I h
  refine wpAny_isTrue_Compare1 (thn (ha pins s σ H _ I h) fun v s1 ⟨x, H1, I1, r1, q1⟩ => thn (hb pins s1 σ H1 _ I1 q1) fun u s2 ⟨y, H2, I2, r2, q2⟩ =>
    thn (ho pins s2 σ H2 x y v u _ I2 r1 r2 q2) fun c s3 ⟨z, H3, I3, r3, k, e, q3⟩ => ?_) hm
  subst e
  cases r3
  exact wpAny_truthy_bool ⟨H3, I3, q3⟩
noncomputable def ziz (K : PySem.W.Frag) (x : V) (H : Hp) (k : Bool) : Prop :=
  match x with
  | .non => k = false
  | .bl b => k = b
  | .int i => k = (i != 0)
  | .str y => y.length <= sizeLine /\ k = ((y.length : Int) != 0)
  | .byt y => y.size <= sizeLine /\ k = ((y.size : Int) != 0)
  | .ref p => (∃ xs, SqL K H p xs /\ k = !xs.isEmpty) \/ (∃ xs, SqT K H p xs /\ k = !xs.isEmpty) \/ ∃ kvs, H p = some (.dK kvs) /\ k = !kvs.isEmpty
  | _ => False
theorem zsv {κ : Type} {kvs : List (κ × V)} {vs : List (κ × Value)} (r : KV kvs vs) : (!vs.isEmpty) = !kvs.isEmpty := by
  cases r <;> rfl
theorem znu {xs : List V} {its : List Value} (r : zae xs its) : (!its.toArray.isEmpty) = !xs.isEmpty := by
  cases r <;> simp
theorem zfr : (sizeLine : Nat) < 2 ^ 63 := by rw [sizeLine_eq]; decide
theorem zw9 : zqo X (fun x H Q => ∃ k, ziz X.K x H k /\ Q k H) := by
  intro pins s σ H x v Q I rx h
  obtain ⟨k, e, q⟩ := h
  have hl := zfr
  have hs : sizeLine = 16777216 := sizeLine_eq
  cases x with
  | non =>
    cases rx
    have e' : k = false := e
    subst e'
    exact truthy_none ⟨H, I, q⟩
  | bl b =>
    cases rx
    have e' : k = b := e
    subst e'
    exact wpAny_truthy_bool ⟨H, I, q⟩
  | int i =>
    obtain ⟨t, rfl⟩ := rx
    have e' : k = (i != 0) := e
    subst e'
    exact PySem.P.truthy_int ⟨H, I, q⟩
  | str y =>
    obtain ⟨t, rfl⟩ := rx
    obtain ⟨hy, e'⟩ : y.length <= sizeLine /\ k = ((y.length : Int) != 0) := e
    subst e'
    exact PySem.P.truthy_str (by omega) ⟨H, I.tok _, q⟩
  | byt y =>
    obtain ⟨t, rfl⟩ := rx
    obtain ⟨hy, e'⟩ : y.size <= sizeLine /\ k = ((y.size : Int) != 0) := e
    subst e'
    exact PySem.W.truthy_bytes (by omega) ⟨H, I.tok _, q⟩
  | ref p =>
    cases rx
    have e' : (∃ xs, SqL X.K H p xs /\ k = !xs.isEmpty) \/ (∃ xs, SqT X.K H p xs /\ k = !xs.isEmpty) \/ ∃ kvs, H p = some (.dK kvs) /\ k = !kvs.isEmpty := e
    rcases e' with ⟨xs, hx, e'⟩ | ⟨xs, hx, e'⟩ | ⟨kvs, hx, e'⟩
    · subst e'
      obtain ⟨its, r, pl, hz⟩ := I.list hx
      have hlen := r.length
      exact wpAny_truthy_list pl.isList (by simp only [List.size_toArray]; omega) ⟨H, I.tok _, by rw [znu r]; exact q⟩
    · subst e'
      obtain ⟨its, r, pl, hz⟩ := I.tuple hx
      have hlen := r.length
      exact truthy_tuple pl (by simp only [List.size_toArray]; omega) ⟨H, I.tok _, by rw [znu r]; exact q⟩
    · subst e'
      obtain ⟨hz, hS, vs, r, m⟩ : kvs.length <= sizeLine /\ (p == sysModules) = false /\ ∃ vs, KV kvs vs /\ s.heap.DictOf (zbb X.prog X.w) p vs := I.hok p _ hx
      have hlen : kvs.length = vs.length := Paired.length r
      exact wpAny_truthy_dict hS m (by omega) ⟨H, I.tok _, by rw [zsv r]; exact q⟩
  | _ => exact (show False from e).elim
theorem zw0 (ha : PE X a ta) (he : ∀ whole, isTrue a X.env whole = (do let v <- whole; standAt a.pos; holding [v] (truthy v))) :
    PT X a (fun σ H Q => ta σ H fun x H' => ∃ k, ziz X.K x H' k /\ Q k H') := by
  intro pins s σ H Q I h
  exact isTrue_plain (thn (ha pins s σ H _ I h) fun v s1 ⟨x, H1, I1, r1, q1⟩ => zw9 pins s1 σ H1 x v Q I1 r1 q1) (he _)
theorem ztr : OpR X (binaryOp .Add) (fun x y H Q => ∃ i j, x = .str i /\ y = .str j /\ i.length + j.length <= sizeLine /\ Q (.str (i ++ j)) H) := by
  intro pins s σ H x y v u Q I rx ry h
  obtain ⟨i, j, rfl, rfl, hz, q⟩ := h
  obtain ⟨t, rfl⟩ := rx
  obtain ⟨t', rfl⟩ := ry
  exact add_str (fun t' tk => ⟨.str (i ++ j), H, I.tok _, ⟨_, rfl⟩, q⟩) hz
theorem zwc : OpR X (inplaceOp .Add) (fun x y H Q => ∃ i j, x = .str i /\ y = .str j /\ i.length + j.length <= sizeLine /\ Q (.str (i ++ j)) H) := by
  intro pins s σ H x y v u Q I rx ry h
  obtain ⟨i, j, rfl, rfl, hz, q⟩ := h
  obtain ⟨t, rfl⟩ := rx
  obtain ⟨t', rfl⟩ := ry
  exact iadd_str (fun t' tk => ⟨.str (i ++ j), H, I.tok _, ⟨_, rfl⟩, q⟩) hz
noncomputable def zk4 (b : Expr) : Prop := ∀ o i, subscripted b false o i = operate [o, i] (getItem o i)
theorem zlu (ha : PE X a ta) (hb : PE X b tb) (hs : zk4 b) :
    PE X (.Subscript a b pos) (tOp (fun x y H Q => ∃ z i c, x = .str z /\ y = .int i /\ 0 <= i /\ i < 2 ^ 63 /\ i < z.length /\ z.cps[i.toNat]? = some c /\ Q (.str ⟨#[c]⟩) H) ta tb) := by
  intro pins s σ H Q I h
  refine Subscript_ (zhe ha hb I h fun v u s2 x y H2 I2 rx ry q => ?_)
  obtain ⟨z, i, c, rfl, rfl, h0, h63, h1, hc, q⟩ := q
  obtain ⟨t, rfl⟩ := rx
  obtain ⟨t', rfl⟩ := ry
  have e : seqIndex? i z.length = some i.toNat := PySem.StrLaws.seqIndex_nonneg h0 h1
  exact tail_any (typeIs_str s2 z t) slot_str_getitem.lookup (getItem_str (c := c) (by
    have e1 : decide (i < -(2 ^ 63 : Int)) = false := decide_eq_false (by omega)
    have e2 : decide (i ≥ 2 ^ 63) = false := decide_eq_false (by omega)
    rw [e1, e2] <;> rfl) (by rw [e]; exact hc) ⟨.str ⟨#[c]⟩, H2, I2.tok _, ⟨_, rfl⟩, q⟩) (hs _ _)
theorem zf0 {x : V} {us : List Value} (r : zae [x] us) : ∃ u, us = [u] /\ zah x u := by
  cases r with
  | cons r1 r2 => cases r2; exact ⟨_, rfl, r1⟩
theorem zmb {x y : V} {us : List Value} (r : zae [x, y] us) : ∃ u w', us = [u, w'] /\ zah x u /\ zah y w' := by
  cases r with
  | cons r1 r2 =>
    cases r2 with
    | cons r3 r4 => cases r4; exact ⟨_, _, rfl, r1, r3⟩
theorem zqb : zbq X (.builtin "divmod") (fun xs H Q => ∃ i j, xs = [.int i, .int j] /\ zfu i j /\ ∀ p, H p = none -> Q (.ref p) (upd H p (.tup [.int (i / j), .int (i % j)]))) := by
  intro pins s σ H xs us Q I r h
  obtain ⟨i, j, rfl, ⟨h1, h2⟩, q⟩ := h
  obtain ⟨u, w', rfl, ⟨t, rfl⟩, ⟨t', rfl⟩⟩ := zmb r
  refine divmod_int (by omega) ?_ (.inl (PyProof.noPylong_small (by omega)))
  rw [Int.fdiv_eq_ediv_of_nonneg i (by omega), Int.fmod_eq_emod_of_nonneg i (by omega)]
  have hn : H s.heap.objs.size = none := I.hok.fresh (Nat.le_refl _)
  refine ⟨.ref s.heap.objs.size, _, ?_, rfl, q _ hn⟩
  refine I.laid (fun b o e => Heap.get?_push_of_some _ e) (Nat.le_refl _) ⟨by simp only [List.length_cons, List.length_nil]; rw [sizeLine_eq]; decide, [.int (i / j) s.toks, .int (i % j) (s.toks + 1)], .cons ⟨_, rfl⟩ (.cons ⟨_, rfl⟩ .nil), ?_⟩
  exact ⟨_, Heap.get?_push_size s.heap rfl, rfl, 0, rfl⟩
end
end L2
namespace L2
open PySem PySem.Spec PyProof.Rows
structure zj2 (h : Heap) (x dx C : Addr) (mA : Str -> Option Value) : Prop where
  obj : h.get? x = some (PySem.W.instObj C dx)
  ns : h.Ns1 dx mA
  ne : dx ≠ x
theorem zp3 {h : Heap} {dx : Addr} {mA : Str -> Option Value} (n : h.Ns1 dx mA) : ∃ od, h.get? dx = some od /\ ∀ name, PySem.W.lookIn name od = some (mA name) := by
  obtain ⟨o, es, ep, ho, hd, hk, _, hm⟩ := n
  refine ⟨o, ho, fun name => ?_⟩
  have e := hm name
  unfold nsFind findBy at e
  rw [<- Array.find?_toList] at e
  unfold PySem.W.lookIn
  rw [hd]
  dsimp only
  split
  · rename_i y q
    rw [q] at e
    exact congrArg some e
  · rename_i q
    rw [q] at e
    have a : es.toList.any (·.refKey) = false := by
      rw [List.any_eq_false]
      intro y hy
      obtain ⟨z, t, hkey⟩ := hk y (Array.mem_toList_iff.mp hy)
      simp [DictEntry.refKey, hkey]
    have a' : ¬ es.toList.any (·.refKey) = true := by rw [a]; exact Bool.false_ne_true
    rw [if_neg a']
    exact congrArg some e
theorem zj2.look {h : Heap} {x dx C : Addr} {mA : Str -> Option Value} (I : zj2 h x dx C mA) : ∃ od, PySem.W.InstAt h x (PySem.W.instObj C dx) C (some od) /\ ∀ name, PySem.W.lookIn name od = some (mA name) :=
  let ⟨od, ho, hl⟩ := zp3 I.ns
  ⟨od, ⟨I.obj, rfl, rfl, ho⟩, hl⟩
section
variable {prog : Program} {w : World} {A : Around} {E : Value -> Shared -> Prop} {s : Shared} {K : PySem.W.Frag} {x dx C f : Addr} {mA : Str -> Option Value} {name : Str} {v : Value}
end
theorem zcw.some_of {v : V} {o : Option Value} (r : zcw (some v) o) : ∃ u, o = some u /\ zah v u := by
  cases o with
  | none => exact (show False from r).elim
  | some u => exact ⟨u, rfl, r⟩
section
variable {P : Program} {w : World} {H H' : Hp} {h h' : Heap} {a C dx : Addr} {fs fs' : List (Str × V)}
theorem zuj (hok : HOk P w H h) (e : H a = some (.ins C dx fs)) : ∃ mA, zj2 h a dx C mA /\ (∀ f, zcw (fs.lookup f) (mA f)) /\ PySem.Within mA (fs.map (·.1)) /\ fs.length <= 1000 /\ H dx = some (.own a) := by
  obtain ⟨d, z, ne, ob, mA, n, r, q⟩ := (show za0 P w H h a (.ins C dx fs) from hok a _ e)
  exact ⟨mA, ⟨ob, n, ne⟩, r, q, z, d⟩
end
structure Cls (K : PySem.W.Frag) (C : Addr) : Prop where
  pg : PySem.W.plainGet K C Str.empty = true
  hd : PySem.W.hasDictIn K C = true
  po : PySem.W.plainOver K C = true
  sa : PySem.W.findIn K (.ref C) "__setattr__" = some (some (.builtin "object.__setattr__"))
theorem Cls.get {K : PySem.W.Frag} {C : Addr} (c : Cls K C) (f : Str) : PySem.W.plainGet K C f = true := c.pg
section
variable {X : Cx} {pins : List (Addr × Obj)} {σ : St} {H : Hp} {s : Shared} {a C dx : Addr} {fs : List (Str × V)} {f : Str} {v : V} {A : Around} {E : Value -> Shared -> Prop}
end
section
variable {X : Cx} {o e value : Expr} {f : Str} {pos pos' tpos : Pos} {ta tv : TE}
end
section
variable {X : Cx} {pins : List (Addr × Obj)} {σ : St} {H : Hp} {s : Shared} {A : Around} {E : Value -> Shared -> Prop} {Q : Value -> Shared -> Prop} {c : Value} {b : Bool}
inductive zb2 (K : PySem.W.Frag) (H : Hp) : V -> Value -> Prop where
  | non : zb2 K H .non (.type "NoneType")
  | bl (x : Bool) : zb2 K H (.bl x) (.type "bool")
  | int (i : Int) : zb2 K H (.int i) (.type "int")
  | str (x : Str) : zb2 K H (.str x) (.type "str")
  | flt (x : UInt64) : zb2 K H (.flt x) (.type "float")
  | lst {a : Addr} {xs : List V} (e : H a = some (.lst xs)) : zb2 K H (.ref a) (.type "list")
  | frz {a : Addr} {o : Obj} {xs : List V} (e : H a = some (.frz o (.lst xs))) : zb2 K H (.ref a) (.type "list")
  | tup {a : Addr} {xs : List V} (e : H a = some (.tup xs)) : zb2 K H (.ref a) (.type "tuple")
  | dK {a : Addr} {kvs : List (Key × V)} (e : H a = some (.dK kvs)) : zb2 K H (.ref a) (.type "dict")
  | dT {a : Addr} {kvs : List (List Key × V)} (e : H a = some (.dT kvs)) : zb2 K H (.ref a) (.type "dict")
  | ins {a C dx : Addr} {fs : List (Str × V)} (e : H a = some (.ins C dx fs)) (cl : Cls K C) (ha : PySem.W.findIn K (.ref C) "__class__" = some (some (.builtin "object.__class__")))
      (hn : PySem.W.specialIn K (.builtin "object.__class__") "__get__" = some (some (.builtin "getset_descriptor.__get__"))) (htk : PySem.W.takesIn K (.builtin "object.__class__") = some true)
      (hm : PySem.W.mroIn K C (.type "object") = some true) : zb2 K H (.ref a) (.ref C)
theorem zte {x : V} {u t : Value} (I : Inv X pins σ H s) (rx : zah x u) (ty : zb2 X.K H x t) (e : PySem.W.kitOne X.K t c = some b) (h : ∀ tk, Q (.bool b) { s with toks := tk }) :
    wpAny (model X.prog X.w) A (call (.builtin "isinstance") [u, c]) Q E s := by
  cases ty with
  | non => cases (show u = Value.none from rx); exact PySem.W.kia_one PySem.W.kitx_none I.kIn True.intro e (fun z => nomatch z) h
  | bl y => cases (show u = Value.bool y from rx); exact PySem.W.kia_one PySem.W.kitx_bool I.kIn True.intro e (fun z => nomatch z) h
  | int i => obtain ⟨t, q⟩ := (show ∃ t, u = Value.int i t from rx); cases q; exact PySem.W.kia_one PySem.W.kitx_int I.kIn True.intro e (fun z => nomatch z) h
  | str y => obtain ⟨t, q⟩ := (show ∃ t, u = Value.str y t from rx); cases q; exact PySem.W.kia_one PySem.W.kitx_str I.kIn True.intro e (fun z => nomatch z) h
  | flt y => obtain ⟨t, q⟩ := (show ∃ t, u = Value.float y t from rx); cases q; exact PySem.W.kia_one PySem.W.kitx_float I.kIn True.intro e (fun z => nomatch z) h
  | @lst a xs ea =>
    cases (show u = Value.ref a from rx)
    obtain ⟨_, _, n, _, h1⟩ := (show za0 X.prog X.w H s.heap a (.lst xs) from I.hok a _ ea)
    exact PySem.W.kia_one PySem.W.kitx_list I.kIn ⟨_, h1, rfl⟩ e (fun z => nomatch z) h
  | @frz a ob xs ea =>
    cases (show u = Value.ref a from rx)
    obtain ⟨_, _, _, n, _, h1⟩ := (show za0 X.prog X.w H s.heap a (.frz ob (.lst xs)) from I.hok a _ ea)
    exact PySem.W.kia_one PySem.W.kitx_list I.kIn ⟨_, h1, rfl⟩ e (fun z => nomatch z) h
  | @tup a xs ea =>
    cases (show u = Value.ref a from rx)
    obtain ⟨_, _, _, p⟩ := (show za0 X.prog X.w H s.heap a (.tup xs) from I.hok a _ ea)
    obtain ⟨o, h1, h2, _⟩ := p
    exact PySem.W.kia_one PySem.W.kitx_tuple I.kIn ⟨o, h1, h2⟩ e (fun z => nomatch z) h
  | @dK a kvs ea =>
    cases (show u = Value.ref a from rx)
    obtain ⟨_, _, vs, _, p⟩ := (show za0 X.prog X.w H s.heap a (.dK kvs) from I.hok a _ ea)
    obtain ⟨o, es, ep, h1, h2, _⟩ := p
    exact PySem.W.kia_one PySem.W.kitx_dict I.kIn ⟨o, h1, h2.1⟩ e (fun z => nomatch z) h
  | @dT a kvs ea =>
    cases (show u = Value.ref a from rx)
    obtain ⟨_, _, xs, _, o, es, ep, h1, h2, _⟩ := (show za0 X.prog X.w H s.heap a (.dT kvs) from I.hok a _ ea)
    exact PySem.W.kia_one PySem.W.kitx_dict I.kIn ⟨o, h1, h2.1⟩ e (fun z => nomatch z) h
  | @ins a C dx fs ea cl ha hn htk hm =>
    cases (show u = Value.ref a from rx)
    obtain ⟨mA, O, _⟩ := zuj I.hok ea
    obtain ⟨od, J, _⟩ := O.look
    exact PySem.W.kia_one (PySem.W.kitx_own (cl.get _) cl.hd ha hn htk hm) I.kIn J e (fun z => nomatch z) h
end
end L2
namespace L2
open PySem PySem.Spec PyProof.Rows
structure zat (k : Nat) (A : Around) : Prop where
  hd : A.handled = none
  dp : A.depth + 3 * k + 5 < recursionLimit
  un : A.units + 16 * k + 200 < cLine
theorem zat.mono {j k : Nat} {A : Around} (r : zat k A) (h : j <= k) : zat j A := ⟨r.hd, by have := r.dp; omega, by have := r.un; omega⟩
theorem zat.deeper {k : Nat} {A : Around} (r : zat (k + 1) A) (env : Env) : zat k (A.deeper env) :=
  ⟨r.hd, by have := r.dp; show A.depth + 1 + 3 * k + 5 < _; omega, by have := r.un; show A.units + 3 + 16 * k + 200 < _; omega⟩
theorem zat.in1 {k : Nat} {A : Around} (r : zat (k + 1) A) : zat k A.in1 :=
  ⟨r.hd, by have := r.dp; show A.depth + 3 * k + 5 < _; omega, by have := r.un; show A.units + 1 + 16 * k + 200 < _; omega⟩
theorem zwd {A : Around} {C : Addr} {us : List Value} {kw : List (Str × Value)} : (A.under (.builtin "type.__call__" ⟨.ref C :: us, kw⟩)).depth = A.depth + 1 := by
  first | rfl | simp [Around.under, Code.weight, Code.isCreation, Code.isGuard, Code.isCaller, Code.frames, Code.isFrame, guardIds]
theorem zp1 {A : Around} {C : Addr} {us : List Value} {kw : List (Str × Value)} : (A.under (.builtin "type.__call__" ⟨.ref C :: us, kw⟩)).units = A.units + 1 := by
  first | rfl | simp [Around.under, Code.cUnits, Code.frames, Code.isFrame]
theorem zat.make {k : Nat} {A : Around} (r : zat (k + 1) A) (C : Addr) (us : List Value) (kw : List (Str × Value)) : zat k (A.under (.builtin "type.__call__" ⟨.ref C :: us, kw⟩)) :=
  ⟨r.hd, by have := r.dp; rw [zwd]; omega, by have := r.un; rw [zp1]; omega⟩
theorem zat.depth {k : Nat} {A : Around} (r : zat k A) : A.depth < recursionLimit := by have := r.dp; omega
theorem zat.units {k : Nat} {A : Around} (r : zat k A) : A.units + 64 < cLine := by have := r.un; omega
noncomputable def zfd : TA := fun _ H Q => Q [] H
noncomputable def ze4 (ta : TE) (tr : TA) : TA := fun σ H Q => ta σ H fun x H1 => tr σ H1 fun xs H2 => Q (x :: xs) H2
section
variable {X : Cx} {e : Expr} {es : List Expr} {te : TE} {t : TA} {pos : Pos}
theorem zby : PA X [] zfd := fun _ _ _ _ H Q I h => Calls.spliced_nil ⟨[], H, I, .nil, h⟩
theorem zbr (ha : PE X e te) (hr : PA X es t) (hs : starEach (e :: es) X.env = (false, eval e X.env) :: starEach es X.env := by rfl) : PA X (e :: es) (ze4 te t) := by
  intro pos pins s σ H Q I h
  rw [hs]
  show wpAny _ _ (spliced ((false, eval e X.env) :: backTo pos (starEach es X.env))) _ _ s
  refine Calls.spliced_cons (thn (ha pins s σ H _ I h) fun u s1 ⟨x, H1, I1, r1, q1⟩ => ?_)
  exact thn (hr pos pins s1 σ H1 _ I1 q1) fun us s2 ⟨xs, H2, I2, r2, q2⟩ => ⟨x :: xs, H2, I2, .cons r1 r2, q2⟩
noncomputable def zuf (t : TA) : TE := fun σ H Q => t σ H fun xs H1 => xs.length <= sizeLine /\ ∀ p, H1 p = none -> Q (.ref p) (upd H1 p (.tup xs))
noncomputable def zu7 (t : TA) : TE := fun σ H Q => t σ H fun xs H1 => xs.length <= sizeLine /\ ∀ p, H1 p = none -> Q (.ref p) (upd H1 p (.lst xs))
theorem zlg {x1} (h : PA X es t) : PE X (.Tuple es x1 pos) (zuf t) := by
  intro pins s σ H Q I hq
  refine wpAny_Tuple_spliced (thn (h pos pins s σ H _ I hq) fun us s1 ⟨xs, H1, I1, r, z, q⟩ => ⟨by rw [<- r.length]; exact z, ?_⟩)
  have hf : H1 s1.heap.objs.size = none := I1.hok.fresh (Nat.le_refl _)
  refine ⟨.ref s1.heap.objs.size, upd H1 s1.heap.objs.size (.tup xs), I1.laid (t' := s1.toks) (fun b u e => Heap.get?_push_of_some _ e) (Nat.le_refl _) ?_, rfl, q _ hf⟩
  exact ⟨z, us, r, ⟨_, Heap.get?_push_size _ rfl, rfl, _, rfl⟩⟩
theorem zn1 (h : PA X es t) : PE X (.List es pos) (zu7 t) := by
  intro pins s σ H Q I hq
  refine wpAny_List_spliced (thn (h pos pins s σ H _ I hq) fun us s1 ⟨xs, H1, I1, r, z, q⟩ => ⟨by rw [<- r.length]; exact z, ?_⟩)
  have hf : H1 s1.heap.objs.size = none := I1.hok.fresh (Nat.le_refl _)
  refine ⟨.ref s1.heap.objs.size, upd H1 s1.heap.objs.size (.lst xs), I1.laid (t' := s1.toks) (fun b u e => Heap.get?_push_of_some _ e) (Nat.le_refl _) ?_, rfl, q _ hf⟩
  exact ⟨z, us, 0, r, Heap.get?_push_size _ rfl⟩
end
noncomputable abbrev Sp := List V -> Hp -> VK -> XK -> Prop
noncomputable abbrev CXT := List Env -> Hp -> Shared -> XK -> Value -> Shared -> Prop
structure zcx (P : Program) (w : World) (K : PySem.W.Frag) (mg : Str -> Option Value) (base : Heap) (A : Around) (outer : List Env) (s : Shared) (H : Hp) : Prop where
  frames : A.frames = some outer
  mod : Mod K mg base
  bs : ∀ b o, base.get? b = some o -> s.heap.get? b = some o /\ H b = none
  bsz : base.objs.size <= s.heap.objs.size
  funs : s.heap.FunFrames base outer
  frf : ∀ b ∈ frs outer, H b = none
  hok : HOk P w H s.heap
  bare : AllBare s.gens
noncomputable def CE (outer : List Env) (P : Program) (w : World) (H : Hp) (s : Shared) (Q : VK) (u : Value) (s' : Shared) : Prop :=
  ∃ v H', s'.os = s.os /\ AllBare s'.gens /\ Un (frs outer) [] H H' s.heap s'.heap /\ HOk P w H' s'.heap /\ zah v u /\ Q v H'
noncomputable def CR (CX : CXT) (outer : List Env) (P : Program) (w : World) (H : Hp) (s : Shared) (Q : VK) (E : XK) (r : Result) (s' : Shared) : Prop :=
  match r with
  | .ok (.ret u) => CE outer P w H s Q u s'
  | .ok _ => False
  | .error e => CX outer H s E e s'
structure zax (P : Program) (w : World) (K : PySem.W.Frag) (mg : Str -> Option Value) (base : Heap) (CX : CXT) (k : Nat) (f : Addr) (fd : FuncData) (ps : List Str) (sp : Sp) : Prop where
  len : ∀ vs H Q E, sp vs H Q E -> vs.length = ps.length
  run : ∀ (A : Around) (outer : List Env) (s : Shared) (H : Hp) (args : Args) (us : List Value) (vs : List V) (Q : VK) (E : XK), zat k A -> zcx P w K mg base A outer s H -> BindsTo s fd args (ps.zip us) -> zae vs us -> sp vs H Q E ->
    codeAny (model P w) A (.call (.ref f) args) (CR CX outer P w H s Q E) s
theorem zax.mono {P : Program} {w : World} {K : PySem.W.Frag} {mg : Str -> Option Value} {base : Heap} {CX : CXT} {j k : Nat} {f : Addr} {fd : FuncData} {ps : List Str} {sp : Sp} (F : zax P w K mg base CX j f fd ps sp) (h : j <= k) :
    zax P w K mg base CX k f fd ps sp := ⟨F.len, fun A outer s H args us vs Q E hr => F.run A outer s H args us vs Q E (hr.mono h)⟩
theorem zax.imp {P : Program} {w : World} {K : PySem.W.Frag} {mg : Str -> Option Value} {base : Heap} {CX : CXT} {k : Nat} {f : Addr} {fd : FuncData} {ps : List Str} {sp sp' : Sp} (F : zax P w K mg base CX k f fd ps sp)
    (h : ∀ vs H Q E, sp' vs H Q E -> sp vs H Q E) : zax P w K mg base CX k f fd ps sp' :=
  ⟨fun vs H Q E q => F.len vs H Q E (h _ _ _ _ q), fun A outer s H args us vs Q E hr he hb hv hs => F.run A outer s H args us vs Q E hr he hb hv (h _ _ _ _ hs)⟩
theorem zcx.make {P : Program} {w : World} {K : PySem.W.Frag} {mg : Str -> Option Value} {base : Heap} {A : Around} {outer : List Env} {s : Shared} {H : Hp} (e : zcx P w K mg base A outer s H) (C : Addr) (us : List Value) (kw : List (Str × Value)) :
    zcx P w K mg base (A.under (.builtin "type.__call__" ⟨.ref C :: us, kw⟩)) outer s H := ⟨by first | exact e.frames | (simpa [Around.under, Code.envs, Code.isFrame, pushEnvs] using e.frames), e.mod, e.bs, e.bsz, e.funs, e.frf, e.hok, e.bare⟩
theorem zcx.in1 {P : Program} {w : World} {K : PySem.W.Frag} {mg : Str -> Option Value} {base : Heap} {A : Around} {outer : List Env} {s : Shared} {H : Hp} (e : zcx P w K mg base A outer s H) :
    zcx P w K mg base A.in1 outer s H := ⟨e.frames, e.mod, e.bs, e.bsz, e.funs, e.frf, e.hok, e.bare⟩
section
variable {X : Cx} {pins : List (Addr × Obj)} {σ : St} {H : Hp} {s s' : Shared}
theorem Inv.env0 (I : Inv X pins σ H s) : zcx X.prog X.w X.K X.mg X.base X.A X.stack s H :=
  ⟨I.ok.frames, I.ok.mod, I.bs, Nat.le_trans I.ok.bsz I.sz, I.stack, I.stkFree, I.hok, I.bare⟩
theorem Inv.after {Q : VK} {u : Value} (I : Inv X pins σ H s) (h : CE X.stack X.prog X.w H s Q u s') : EP X pins σ Q u s' := by
  obtain ⟨v, H', os, bare, un, hok, r, q⟩ := h
  obtain ⟨hh, g, d, t, os'⟩ := s'
  obtain rfl : os' = s.os := os
  exact ⟨v, H', I.call (h' := hh) (g' := g) (d' := d) (t' := t) (ch := []) un hok bare (fun b z => absurd z (by simp)), r, q⟩
end
noncomputable def zqg (sp : Sp) (dvs : List V) (E : XK) (t : TA) : TE := fun σ H Q => t σ H fun vs H1 => sp (vs ++ dvs) H1 Q E
noncomputable def zbe (K : PySem.W.Frag) (fd : FuncData) (ps : List Str) (ds : List Value) : Prop :=
  ∀ (s : Shared) (us : List Value), K.In s.heap -> (us ++ ds).length = ps.length -> BindsTo s fd ⟨us, []⟩ (ps.zip (us ++ ds))
theorem zbe.all {K : PySem.W.Frag} {fd : FuncData} {ps : List Str} (h : ∀ us : List Value, us.length = ps.length -> bindArgs fd ⟨us, []⟩ = pure (ps.zip us)) : zbe K fd ps [] := fun s us _ hl => by
  rw [List.append_nil] at hl ⊢
  exact .of_eq (h us hl)
noncomputable def zi4 (CX : CXT) (X : Cx) (E : XK) : Prop := ∀ (pins : List (Addr × Obj)) (σ : St) (H : Hp) (s : Shared) (e : Value) (s' : Shared), Inv X pins σ H s -> CX X.stack H s E e s' -> X.xe e s'
section
variable {X : Cx} {CX : CXT} {k : Nat} {f C : Addr} {fd : FuncData} {ps : List Str} {sp : Sp} {dvs : List V} {ds : List Value} {E : XK} {x m : Str} {p pos apos : Pos} {e o : Expr} {es : List Expr} {ta : TE} {t : TA}
theorem zq2 {pins : List (Addr × Obj)} {σ : St} {H : Hp} {s : Shared} {Q : VK} {us : List Value} {vs : List V} (F : zax X.prog X.w X.K X.mg X.base CX k f fd ps sp) (hr : zat k X.A) (hb : zbe X.K fd ps ds) (hd : zae dvs ds) (hx : zi4 CX X E)
    (I : Inv X pins σ H s) (r : zae vs us) (h : sp (vs ++ dvs) H Q E) : wpAny (model X.prog X.w) X.A (call (.ref f) us) (EP X pins σ Q) X.xe s := by
  have r2 : zae (vs ++ dvs) (us ++ ds) := r.append hd
  have hl : (us ++ ds).length = ps.length := by rw [<- r2.length]; exact F.len _ _ _ _ h
  refine wpAny_call (codeAny_mono (F.run X.A X.stack s H ⟨us, []⟩ (us ++ ds) (vs ++ dvs) Q E hr I.env0 (hb s us I.kIn hl) r2 h) fun r s' hq => ?_)
  cases r with
  | error e => exact hx pins σ H s e s' I hq
  | ok fl =>
    cases fl with
    | ret u => exact I.after hq
    | next => exact False.elim hq
    | brk => exact False.elim hq
    | cont => exact False.elim hq
theorem zg4 (F : zax X.prog X.w X.K X.mg X.base CX k f fd ps sp) (hr : zat k X.A) (hg : Gl X x) (hm : X.mg x = some (.ref f)) (hk : PySem.W.keepIn X.K (.ref f) = true) (hb : zbe X.K fd ps ds) (hd : zae dvs ds) (hx : zi4 CX X E)
    (ha : PA X (e :: es) t) (hdb : (x == ("__debug__" : Str)) = false := by decide) (he : starEach (e :: es) X.env = (false, eval e X.env) :: starEach es X.env := by rfl) (hpl : (backTo pos (starEach es X.env)).any (·.1) = false := by rfl) :
    PE X (.Call (.Name x p) (e :: es) [] pos) (zqg sp dvs E t) := by
  intro pins s σ H Q I h
  refine wpAny_Call_Name_kw (zsd I hg hm ?_ hdb)
  refine PySem.W.callWith_K (h₀ := X.base) I.ok.mod.kin hk (thn (ha pos pins s σ H _ I h) fun us s1 ⟨vs, H1, I1, r, q⟩ => ⟨I1.kIn, ?_⟩) he hpl
  exact zq2 F hr hb hd hx I1 r q
end
section
variable {X : Cx} {CX : CXT} {k : Nat} {f C : Addr} {fd : FuncData} {ps ks : List Str} {sp : Sp} {E : XK} {x m : Str} {p pos apos kpos : Pos} {e o : Expr} {es : List Expr} {kws : List Keyword} {te ta : TE} {t tk : TA} {nm : Option Str}
variable {g : List Value -> List Value -> List Value} {gV : List V -> List V -> List V}
end
structure zb3 (N P : List Str) (sc : Scope) : Prop where
  kind : sc.kind = .function
  co : sc.isCoroutine = false
  gen : sc.isGenerator = false
  nd : N.Nodup
  pre : N.take P.length = P
  par : ∀ x ∈ P, sc.names.lookup x = some .local \/ sc.names.lookup x = some .cell
  nofree : ∀ y ∈ sc.names, y.2 ≠ .free
theorem zl0 {kindOf : Str -> Option NameKind} {x : Str} : ∀ {binds : List (Str × Value)} {m : Str -> Option Value}, (∀ v, (x, v) ∉ binds) -> bindL kindOf binds m x = m x
  | [], _, _ => rfl
  | (n, v) :: r, m, h => by
    unfold bindL
    rw [zl0 fun w hw => h w (List.mem_cons_of_mem _ hw)]
    split
    · have : x ≠ n := by rintro rfl; exact h v List.mem_cons_self
      simp [this]
    · rfl
theorem zln {kindOf : Str -> Option NameKind} {x : Str} : ∀ {binds : List (Str × Value)} {m : Str -> Option Value}, (∀ v, (x, v) ∉ binds) -> bindC kindOf binds m x = m x
  | [], _, _ => rfl
  | (n, v) :: r, m, h => by
    unfold bindC
    rw [zln fun w hw => h w (List.mem_cons_of_mem _ hw)]
    split
    · rfl
    · have : x ≠ n := by rintro rfl; exact h v List.mem_cons_self
      simp [this]
theorem zmf {kindOf : Str -> Option NameKind} {x : Str} {v : Value} : ∀ {P : List Str} {vs : List Value} {i : Nat} {m : Str -> Option Value}, P.Nodup -> P[i]? = some x -> vs[i]? = some v -> kindOf x = some .local ->
    bindL kindOf (P.zip vs) m x = some v
  | [], _, _, _, _, h, _, _ => by simp at h
  | _ :: _, [], _, _, _, _, h, _ => by simp at h
  | p :: P, w :: vs, 0, m, nd, h1, h2, hk => by
    simp at h1 h2; subst h1; subst h2
    show bindL kindOf ((p, w) :: P.zip vs) m p = _
    unfold bindL
    rw [zl0 fun v hv => (List.nodup_cons.mp nd).1 (List.of_mem_zip hv).1, if_pos hk]
    simp
  | p :: P, w :: vs, i + 1, m, nd, h1, h2, hk => by
    show bindL kindOf ((p, w) :: P.zip vs) m x = _
    unfold bindL
    exact zmf (i := i) (List.nodup_cons.mp nd).2 (by simpa using h1) (by simpa using h2) hk
theorem znp {kindOf : Str -> Option NameKind} {x : Str} {v : Value} : ∀ {P : List Str} {vs : List Value} {i : Nat} {m : Str -> Option Value}, P.Nodup -> P[i]? = some x -> vs[i]? = some v -> kindOf x ≠ some .local ->
    bindC kindOf (P.zip vs) m x = some v
  | [], _, _, _, _, h, _, _ => by simp at h
  | _ :: _, [], _, _, _, _, h, _ => by simp at h
  | p :: P, w :: vs, 0, m, nd, h1, h2, hk => by
    simp at h1 h2; subst h1; subst h2
    show bindC kindOf ((p, w) :: P.zip vs) m p = _
    unfold bindC
    rw [zln fun v hv => (List.nodup_cons.mp nd).1 (List.of_mem_zip hv).1, if_neg hk]
    simp
  | p :: P, w :: vs, i + 1, m, nd, h1, h2, hk => by
    show bindC kindOf ((p, w) :: P.zip vs) m x = _
    unfold bindC
    exact znp (i := i) (List.nodup_cons.mp nd).2 (by simpa using h1) (by simpa using h2) hk
noncomputable def start (N : List Str) (vs : List V) : St := vs.map some ++ List.replicate (N.length - vs.length) none
noncomputable def zdd (CX : CXT) (P : Program) (w : World) (K : PySem.W.Frag) (mg : Str -> Option Value) (base : Heap) (N : List Str) (qual : Str) (scope : Scope) (f : Addr) (cd : Value) (A : Around) (outer : List Env) (s : Shared) (H : Hp) (E : XK) : Cx where
  prog := P
  w := w
  K := K
  mg := mg
  base := base
  A := A.deeper (envOfC qual scope s.heap.objs.size f cd)
  N := N
  s₀ := s
  H₀ := H
  env := envOfC qual scope s.heap.objs.size f cd
  outer := outer
  stack := envOfC qual scope s.heap.objs.size f cd :: outer
  ex := []
  calm := true
  fn := fun _ => true
  pn := []
  xe := fun e s' => wpAny (model P w) (A.deeper (envOfC qual scope s.heap.objs.size f cd)) (leaving (envOfC qual scope s.heap.objs.size f cd) e) (fun _ s'' => CX outer H s E e s'') (fun e' s'' => CX outer H s E e' s'') s'
theorem znt {sc : Scope} {n : Nat} {x : Str} (h : sc.names.lookup x = some .cell) : ∃ c, (cellsFrom n sc.names []).lookup x = some c := by
  have q := PySem.W.cellsFrom_some sc.names n [] (.inl h)
  exact Option.isSome_iff_exists.mp q
theorem zww {CX : CXT} {P : Program} {w : World} {K : PySem.W.Frag} {mg : Str -> Option Value} {base : Heap} {N ps : List Str} {qual : Str} {scope : Scope} {f : Addr} {cd : Value} {A : Around} {outer : List Env} {s s1 : Shared} {H : Hp} {E : XK} {us : List Value} {vs : List V}
    (S : zb3 N ps scope) (hd : A.handled = none) (e0 : zcx P w K mg base A outer s H) (hl : vs.length = ps.length) (r : zae vs us)
    (x : InCallC s s.heap.objs.size (bindL (envOfC qual scope s.heap.objs.size f cd).kindOf (ps.zip us) fun _ => none) (cellsFrom (s.heap.objs.size + 1) scope.names []) (bindC (envOfC qual scope s.heap.objs.size f cd).kindOf (ps.zip us) fun _ => none) s1) :
    Inv (zdd CX P w K mg base N qual scope f cd A outer s H E) [] (start N vs) H s1 := by
  have hpl : ps.length <= N.length := by have := congrArg List.length S.pre; rw [List.length_take] at this; omega
  obtain ⟨h1, tk, rfl, hk⟩ := x.done
  have noA : ∀ b : Addr, b ∉ (zdd CX P w K mg base N qual scope f cd A outer s H E).ex := fun b z => absurd (show b ∈ ([] : List Addr) from z) (by simp)
  refine ⟨⟨e0.mod, S.kind, rfl, rfl, Nat.le_refl _, fun y z c h1 h2 => ?_, fun y hy => ?_, fun y c _ h => ?_, fun _ => hd, Around.frames_deeper e0.frames, .inr ⟨rfl, rfl⟩, fun b z => absurd z (noA b), e0.bs, e0.bsz, fun b _ _ => noA b, fun b z => absurd z (noA b), e0.funs, e0.frf⟩,
    rfl, e0.bare, Un.kept hk, ⟨_, x.toInCall.ns, fun i y v h1 h2 h3 => ?_⟩, fun y c h => ⟨_, x.cell y c h⟩, e0.hok.fresh (Nat.le_refl _), fun y c h => ?_, fun p hp => absurd (show p ∈ ([] : List (Addr × Obj)) from hp) (by simp), e0.hok.kept hk, ?_⟩
  · exact name_of_addr x.apart (PySem.mem_of_lookup h1) (PySem.mem_of_lookup h2)
  · have hy : scope.names.lookup y = some .cell \/ scope.names.lookup y = some .free := hy
    rcases hy with hy | hy
    · exact znt hy
    · exact absurd rfl (S.nofree _ (PySem.mem_of_lookup hy))
  · exact Nat.le_of_lt (x.above y c (PySem.mem_of_lookup h))
  · have hi : i < vs.length := by
      unfold start at h2
      by_cases hi : i < vs.length
      · exact hi
      · rw [List.getElem?_append_right (by simpa using hi)] at h2
        rw [List.getElem?_replicate] at h2
        split at h2 <;> cases h2
    have ha : vs[i]? = some v := by
      unfold start at h2
      rw [List.getElem?_append_left (by simpa using hi), List.getElem?_map] at h2
      cases e : vs[i]? with
      | none => rw [e] at h2; cases h2
      | some a => rw [e] at h2; cases h2; rfl
    obtain ⟨u, hu, rv⟩ := r.get ha
    have hp : ps[i]? = some y := by
      rw [<- S.pre, List.getElem?_take_of_lt (by omega)]; exact h1
    have ndP : ps.Nodup := by rw [<- S.pre]; exact S.nd.sublist (List.take_sublist _ _)
    refine ⟨u, rv, ?_⟩
    rcases S.par y (List.mem_of_getElem? hp) with k | k
    · exact .inl ⟨k, zmf ndP hp hu k⟩
    · obtain ⟨c, e⟩ := znt (n := s.heap.objs.size + 1) k
      refine .inr ⟨.inl k, c, e, ?_⟩
      have q := x.cell y c e
      rw [znp ndP hp hu (by show scope.names.lookup y ≠ _; rw [k]; decide)] at q
      exact q
  · exact e0.hok.fresh (Nat.le_of_lt (x.above y c (PySem.mem_of_lookup h)))
  · unfold start
    show _ = N.length
    rw [List.length_append, List.length_map, List.length_replicate]
    omega
theorem zrk {CX : CXT} {P : Program} {w : World} {K : PySem.W.Frag} {mg : Str -> Option Value} {base : Heap} {k : Nat} {f : Addr} {name qual : Str} {params : Arguments} {body : List Stmt} {scope : Scope} {dV kV doc pm cdv ct oc : Value} {an od : Option Addr}
    {osl : Array (Option Value)} {N ps : List Str} {sp : Sp} (lk : K.lookup f = some ⟨oc, od, .func (PySem.W.fnOf name qual params body scope dV kV doc pm an cdv ct), osl⟩) (hcd : PySem.W.codeIn K cdv qual = true) (S : zb3 N ps scope)
    (len : ∀ vs H Q E, sp vs H Q E -> vs.length = ps.length)
    (hbody : ∀ (A : Around) (outer : List Env) (s : Shared) (H : Hp) (vs : List V) (Q : VK) (E : XK), zat k (A.deeper (envOfC qual scope s.heap.objs.size f cdv)) -> sp vs H Q E ->
      ∃ t, PSs (zdd CX P w K mg base N qual scope f cdv A outer s H E) body t /\ t { nx := fun _ H' => Q .non H', rt := Q } (start N vs) H) :
    zax P w K mg base CX (k + 1) f (PySem.W.fnOf name qual params body scope dV kV doc pm an cdv ct) ps sp := by
  refine ⟨len, fun A outer s H args us vs Q E hr e0 hb r hsp => ?_⟩
  have hl := len _ _ _ _ hsp
  have KX : K.In s.heap := e0.mod.kin.keeps fun b o e => (e0.bs b o e).1
  have lim : s.heap.NoLimit := e0.mod.nolimit.keeps fun b o e => (e0.bs b o e).1
  have hkind : ∀ y ∈ ps.zip us, scope.names.lookup y.1 = some .local \/ (scope.names.lookup y.1 = some .cell /\ ((cellsFrom (s.heap.objs.size + 1) scope.names []).lookup y.1).isSome = true) := fun ⟨n, v⟩ hy => by
    rcases S.par n (List.of_mem_zip hy).1 with q | q
    · exact .inl q
    · exact .inr ⟨q, PySem.W.cellsFrom_some _ _ _ (.inl q)⟩
  refine codeAny_call_function hr.depth (KX _ _ lk) rfl S.co S.gen rfl (PySem.W.codeRec_of KX hcd) (hb _ _ _ _ ?_)
  refine wpAny_newFunctionEnv_cells S.kind hkind fun env he s1 x => ?_
  subst he
  refine ⟨lim.keeps x.toInCall.keep, codeAny_func ?_⟩
  obtain ⟨t, ht, hq⟩ := hbody A outer s H vs Q E (hr.deeper _) hsp
  have I : Inv (zdd CX P w K mg base N qual scope f cdv A outer s H E) [] (start N vs) H s1 := zww S hr.hd e0 hl r x
  refine wpAny_mono (ht [] s1 (start N vs) H _ I hq) (fun fl s' hs => ?_) fun e s' hs => hs
  have fin : ∀ {σ' : St} {H' : Hp} {v : V} {u : Value}, Inv (zdd CX P w K mg base N qual scope f cdv A outer s H E) [] σ' H' s' -> zah v u -> Q v H' -> CE outer P w H s Q u s' :=
    fun {σ' H' v u} J rv q => ⟨v, H', J.os, J.bare, J.base, J.hok, rv, q⟩
  cases fl with
  | ret u =>
    obtain ⟨v, σ', H', J, rv, q⟩ := hs
    exact fin J rv q
  | next =>
    obtain ⟨σ', H', J, q⟩ := hs
    exact fin (v := V.non) (u := Value.none) J rfl q
  | brk =>
    obtain ⟨_, _, _, q⟩ := hs
    exact False.elim q
  | cont =>
    obtain ⟨_, _, _, q⟩ := hs
    exact False.elim q
end L2
namespace L2
open PySem PySem.Spec PyProof.Rows
section
variable {X : Cx} {x : Str} {p pos : Pos} {e : Expr} {es : List Expr} {t : TA} {id T : String} {r : List V -> Hp -> VK -> Prop}
noncomputable def tCB (r : List V -> Hp -> VK -> Prop) (t : TA) : TE := fun σ H Q => t σ H fun vs H1 => r vs H1 Q
theorem zi9 (hc : zbq X (.builtin id) r) (hg : Gl X x) (hm : X.mg x = none) (hv : bootBuiltins x = some (.builtin id)) (ha : PA X (e :: es) t) (hn : x ≠ "__name__" := by decide) (hdb : (x == ("__debug__" : Str)) = false := by decide)
    (he : starEach (e :: es) X.env = (false, eval e X.env) :: starEach es X.env := by rfl) (hpl : (backTo pos (starEach es X.env)).any (·.1) = false := by rfl) : PE X (.Call (.Name x p) (e :: es) [] pos) (tCB r t) := by
  intro pins s σ H Q I h
  refine wpAny_Call_Name_kw (zfm I hg hm hv ?_ hn hdb)
  exact PyProof.Rows.callWith_builtin1 (thn (ha pos pins s σ H _ I h) fun us s1 ⟨vs, H1, I1, r1, q1⟩ => hc pins s1 σ H1 vs us Q I1 r1 q1) he hpl
theorem zmj (hc : zbq X (.type T) r) (hg : Gl X x) (hm : X.mg x = none) (hv : bootBuiltins x = some (.type T)) (ha : PA X (e :: es) t) (hn : x ≠ "__name__" := by decide) (hdb : (x == ("__debug__" : Str)) = false := by decide)
    (he : starEach (e :: es) X.env = (false, eval e X.env) :: starEach es X.env := by rfl) (hpl : (backTo pos (starEach es X.env)).any (·.1) = false := by rfl) : PE X (.Call (.Name x p) (e :: es) [] pos) (tCB r t) := by
  intro pins s σ H Q I h
  refine wpAny_Call_Name_kw (zfm I hg hm hv ?_ hn hdb)
  exact PyProof.Rows.callWith_type1 (thn (ha pos pins s σ H _ I h) fun us s1 ⟨vs, H1, I1, r1, q1⟩ => hc pins s1 σ H1 vs us Q I1 r1 q1) he hpl
end
end L2
namespace HT
open PySem PyProof.Rows
section
open PySem.SeqAt
open PySem.AutoSeq1 (wpAny_loadPart')
open PySem.MeetsSeq PySem.MeetsSeq2 PySem.MeetsSeq3
end
section
variable {prog : Program} {w : World} {A : Around} {E : Value -> Shared -> Prop} {s : Shared}
noncomputable def sIx (n d : Nat) : Option Int -> Nat
  | none => d
  | some v => if v < 0 then (v + (n : Int)).toNat else min v.toNat n
end
end HT
namespace L2
open PySem PySem.Spec PyProof.Rows
noncomputable abbrev TO := St -> Hp -> (Option Int -> Hp -> Prop) -> Prop
section
variable {X : Cx} {e : Expr} {te : TE} {lo hi : Option Expr} {tl th : TO} {pos p2 : Pos}
noncomputable def SlR (X : Cx) (r : V -> Option Int -> Option Int -> Hp -> VK -> Prop) : Prop :=
  ∀ (pins : List (Addr × Obj)) (s : Shared) (σ : St) (H : Hp) (x : V) (v vl vu : Value) (lo hi : Option Int) (sl : Addr) (Q : VK), Inv X pins σ H s -> zah x v -> s.heap.IsSliceOf sl vl vu .none -> IsPart vl lo -> IsPart vu hi -> r x lo hi H Q ->
    ∃ T id, typeLookup (.type T) "__getitem__" = pure (some (.builtin id)) /\ s.TypeIs v T /\ wpAny (model X.prog X.w) X.A (getItem v (.ref sl)) (EP X pins σ Q) X.xe s
theorem SlR.or {r r' : V -> Option Int -> Option Int -> Hp -> VK -> Prop} (h : SlR X r) (h' : SlR X r') : SlR X (fun x lo hi H Q => r x lo hi H Q \/ r' x lo hi H Q) := by
  intro pins s σ H x v vl vu lo hi sl Q I rx hs pl pu q
  rcases q with q | q
  · exact h pins s σ H x v vl vu lo hi sl Q I rx hs pl pu q
  · exact h' pins s σ H x v vl vu lo hi sl Q I rx hs pl pu q
end
end L2
namespace L2
open PySem PySem.Spec PyProof.Rows
noncomputable def ixN (n : Nat) (i : Int) : Option Nat := if 0 <= i then (if i < n then some i.toNat else none) else if -(n : Int) <= i then some (i + n).toNat else none
noncomputable def atI {α : Type} (xs : List α) (i : Int) : Option α := (ixN xs.length i).bind fun j => xs[j]?
theorem zno {n : Nat} {i : Int} {j : Nat} (h : ixN n i = some j) : seqIndex? i n = some j /\ j < n /\ -(n : Int) <= i /\ i < n := by
  unfold ixN at h
  by_cases h0 : 0 <= i
  · rw [if_pos h0] at h
    by_cases h1 : i < n
    · rw [if_pos h1] at h
      have e : i.toNat = j := Option.some.inj h
      exact ⟨by rw [seqIndex_of h0 h1, e], by omega, by omega, h1⟩
    · rw [if_neg h1] at h; cases h
  · rw [if_neg h0] at h
    by_cases h1 : -(n : Int) <= i
    · rw [if_pos h1] at h
      have e : (i + n).toNat = j := Option.some.inj h
      exact ⟨by rw [seqIndex_neg (by omega) h1, e], by omega, h1, by omega⟩
    · rw [if_neg h1] at h; cases h
theorem zd2 {α : Type} {xs : List α} {i : Int} {v : α} (h : atI xs i = some v) : ∃ j, seqIndex? i xs.length = some j /\ xs[j]? = some v /\ j < xs.length /\ -(xs.length : Int) <= i /\ i < xs.length := by
  unfold atI at h
  cases e : ixN xs.length i with
  | none => rw [e] at h; cases h
  | some j =>
    rw [e] at h
    obtain ⟨h1, h2, h3, h4⟩ := zno e
    exact ⟨j, h1, h, h2, h3, h4⟩
noncomputable def zjc (b : Expr) : Prop := ∀ o i, subscripted b false o i = operate [o, i] (getItem o i)
noncomputable def IxR (X : Cx) (r : R2) : Prop :=
  ∀ (value slice : Expr) (pins : List (Addr × Obj)) (s : Shared) (σ : St) (H : Hp) (x y : V) (v u : Value) (Q : VK), Inv X pins σ H s -> zah x v -> zah y u -> r x y H Q ->
    subscripted slice false v u = operate [v, u] (getItem v u) -> wpAny (model X.prog X.w) X.A (subscriptTail value slice v u) (EP X pins σ Q) X.xe s
noncomputable def MtR (X : Cx) (id : String) (r : V -> List V -> Hp -> VK -> Prop) : Prop :=
  ∀ (pins : List (Addr × Obj)) (s : Shared) (σ : St) (H : Hp) (x : V) (xs : List V) (v : Value) (us : List Value) (Q : VK), Inv X pins σ H s -> zah x v -> zae xs us -> r x xs H Q ->
    wpAny (model X.prog X.w) X.A (call (.builtin id) (v :: us)) (EP X pins σ Q) X.xe s
section
variable {X : Cx} {a b : Expr} {ta tb : TE} {pos : Pos}
theorem IxR.or {r r' : R2} (h : IxR X r) (h' : IxR X r') : IxR X (fun x y H Q => r x y H Q \/ r' x y H Q) := by
  intro value slice pins s σ H x y v u Q I rx ry q hs
  rcases q with q | q
  · exact h value slice pins s σ H x y v u Q I rx ry q hs
  · exact h' value slice pins s σ H x y v u Q I rx ry q hs
theorem MtR.or {id : String} {r r' : V -> List V -> Hp -> VK -> Prop} (h : MtR X id r) (h' : MtR X id r') : MtR X id (fun x xs H Q => r x xs H Q \/ r' x xs H Q) := by
  intro pins s σ H x xs v us Q I rx rs q
  rcases q with q | q
  · exact h pins s σ H x xs v us Q I rx rs q
  · exact h' pins s σ H x xs v us Q I rx rs q
theorem zj0 {r : R2} (hr : IxR X r) (ha : PE X a ta) (hb : PE X b tb) (hs : zjc b) : PE X (.Subscript a b pos) (tOp r ta tb) := by
  intro pins s σ H Q I h
  exact Subscript_ (zhe ha hb I h fun v u s2 x y H2 I2 rx ry q => hr a b pins s2 σ H2 x y v u Q I2 rx ry q (hs _ _))
noncomputable def zls (K : PySem.W.Frag) : R2 := fun x y H Q => ∃ p xs i v, x = .ref p /\ y = .int i /\ SqL K H p xs /\ atI xs i = some v /\ Q v H
noncomputable def zl2 (K : PySem.W.Frag) : R2 := fun x y H Q => ∃ p xs i v, x = .ref p /\ y = .int i /\ SqT K H p xs /\ atI xs i = some v /\ Q v H
theorem zku : IxR X (zls X.K) := by
  intro value slice pins s σ H x y v u Q I rx ry h hs
  obtain ⟨p, xs, i, z, rfl, rfl, hq, he, q⟩ := h
  cases rx
  obtain ⟨t, rfl⟩ := ry
  obtain ⟨its, r, pl, hz⟩ := I.list hq
  obtain ⟨j, h1, h2, h3, h4, h5⟩ := zd2 he
  obtain ⟨w, ew, rw'⟩ := r.get h2
  have hl := r.length
  have hn := zfr
  have fin : EP X pins σ Q w s := ⟨z, H, I, rw', q⟩
  by_cases h0 : 0 <= i
  · have hj : i.toNat = j := by
      rw [seqIndex_of h0 h5] at h1
      exact Option.some.inj h1
    exact item_listR pl.isList h0 (by omega) (by rw [hj]; simpa using ew) fin hs
  · have hj : (i + (its.toArray.size : Int)).toNat = j := by
      rw [seqIndex_neg (by omega) h4] at h1
      rw [List.size_toArray, <- hl]
      exact Option.some.inj h1
    exact subscriptTail_builtinR (x := w) pl.isList.typeIs slot_list_getitem.lookup
      (wpAny_getItem_list_neg (Q := fun r s' => r = w /\ EP X pins σ Q r s') pl.isList (by omega) (by rw [List.size_toArray] <;> omega) (by omega) (by rw [hj]; simpa using ew) ⟨rfl, fin⟩) hs
theorem zkm : IxR X (zl2 X.K) := by
  intro value slice pins s σ H x y v u Q I rx ry h hs
  obtain ⟨p, xs, i, z, rfl, rfl, hq, he, q⟩ := h
  cases rx
  obtain ⟨t, rfl⟩ := ry
  obtain ⟨its, r, pl, hz⟩ := I.tuple hq
  obtain ⟨j, h1, h2, h3, h4, h5⟩ := zd2 he
  obtain ⟨w, ew, rw'⟩ := r.get h2
  have hl := r.length
  have hn := zfr
  have fin : EP X pins σ Q w s := ⟨z, H, I, rw', q⟩
  exact subscriptTail_builtinR (x := w) pl.typeIs slot_tuple_getitem.lookup
    (getItem_tuple (j := j) (Q := fun r s' => r = w /\ EP X pins σ Q r s') pl (by omega) (by omega) (by rw [List.size_toArray, <- hl]; exact h1) (by simpa using ew) ⟨rfl, fin⟩) hs
theorem zu3 (its : List Value) (n j : Nat) (u : Value) : Obj.mapSeq (·.setIfInBounds j u) { cls := .type "list", data := .seq its.toArray n } = { cls := .type "list", data := .seq (its.set j u).toArray n } := by
  simp [Obj.mapSeq]
theorem Inv.lst {pins : List (Addr × Obj)} {σ : St} {H : Hp} {s : Shared} {p : Addr} {xs : List V} (I : Inv X pins σ H s) (h : H p = some (.lst xs)) :
    ∃ (its : List Value) (n : Nat), zae xs its /\ s.heap.get? p = some { cls := .type "list", data := .seq its.toArray n } /\ xs.length <= sizeLine := by
  obtain ⟨z, its, n, r, e⟩ := I.hok p _ h
  exact ⟨its, n, r, e, z⟩
theorem Inv.lstUpd {pins : List (Addr × Obj)} {σ : St} {H : Hp} {s : Shared} {p : Addr} {xs ys : List V} {its its' : List Value} {n n' : Nat} {f : Obj -> Obj} (I : Inv X pins σ H s) (h : H p = some (.lst xs))
    (ho : s.heap.get? p = some { cls := .type "list", data := .seq its.toArray n }) (hf : f { cls := .type "list", data := .seq its.toArray n } = { cls := .type "list", data := .seq its'.toArray n' }) (r : zae ys its') (hz : ys.length <= sizeLine) (t : Nat) :
    Inv X pins σ (upd H p (.lst ys)) { s with heap := s.heap.update p f, toks := t } := by
  have e : (s.heap.update p f).get? p = some { cls := .type "list", data := .seq its'.toArray n' } := by
    rw [Heap.get?_update_self f ho (by rw [hf] <;> rfl), hf]
  refine I.write (x := p) (e := p) (by rw [h]; trivial) (.inl rfl) (fun b u hb q => (Heap.get?_update_other _ _ (Ne.symm hb)).trans q) ⟨_, e⟩ ?_
  exact ⟨hz, its', n', r, e⟩
noncomputable def znc : V -> V -> V -> Hp -> (Hp -> Prop) -> Prop := fun o i v H Q => ∃ p xs k j, o = .ref p /\ i = .int k /\ H p = some (.lst xs) /\ ixN xs.length k = some j /\ Q (upd H p (.lst (xs.set j v)))
theorem zus : zom X znc := by
  intro pins s σ H o i v ov iv u Q I ro ri rv h
  obtain ⟨p, xs, k, j, rfl, rfl, hp, hj, q⟩ := h
  cases ro
  obtain ⟨t, rfl⟩ := ri
  obtain ⟨its, n, r, ho, hz⟩ := I.lst hp
  obtain ⟨h1, h2, h3, h4⟩ := zno hj
  have hl := r.length
  have hn := zfr
  have I' : Inv X pins σ (upd H p (.lst (xs.set j v))) { s with heap := s.heap.update p (Obj.mapSeq (·.setIfInBounds j u)) } :=
    I.lstUpd hp ho (zu3 its n j u) (r.set rv j) (by rw [List.length_set]; exact hz) s.toks
  by_cases h0 : 0 <= k
  · have hk : k.toNat = j := by
      rw [seqIndex_of h0 h4] at h1
      exact Option.some.inj h1
    exact PySem.W.ki_setAt ho h0 (by omega) (by rw [List.size_toArray, <- hl]; exact h4) (by rw [hk]; exact ⟨_, I', q⟩)
  · have hk : (k + (its.toArray.size : Int)).toNat = j := by
      rw [seqIndex_neg (by omega) h3] at h1
      rw [List.size_toArray, <- hl]
      exact Option.some.inj h1
    exact PySem.W.ki_setBack ho (by omega) (by rw [List.size_toArray, <- hl]; exact h3) (by omega) (by rw [hk]; exact ⟨_, I', q⟩)
noncomputable def zbp : V -> Bool
  | .non => true
  | .bl _ => true
  | .int _ => true
  | .str _ => true
  | _ => false
noncomputable def eqV : V -> V -> Bool
  | .non, .non => true
  | .bl a, .bl b => a == b
  | .bl a, .int b => (if a then 1 else 0) == b
  | .int a, .bl b => a == (if b then 1 else 0)
  | .int a, .int b => a == b
  | .str a, .str b => a == b
  | _, _ => false
theorem zmt {A : Around} {s : Shared} {y x : V} {u v : Value} (ry : zah y u) (rx : zah x v) (fy : zbp y = true) (fx : zbp x = true) : SeqAt.EqAt A s u v (eqV y x) := by
  cases y with
  | non =>
    cases ry
    cases x with
    | non => cases rx; exact SeqAt.EqAt.same _
    | bl b => cases rx; exact SeqAt.EqAt.none_bool b
    | int b => obtain ⟨t, rfl⟩ := rx; exact SeqAt.EqAt.none_int b t
    | str b => obtain ⟨t, rfl⟩ := rx; exact SeqAt.EqAt.none_str b t
    | _ => exact absurd (show false = true from fx) Bool.false_ne_true
  | bl a =>
    cases ry
    cases x with
    | non => cases rx; exact SeqAt.EqAt.bool_none a
    | bl b => cases rx; exact SeqAt.EqAt.bool_bool a b
    | int b => obtain ⟨t, rfl⟩ := rx; exact SeqAt.EqAt.bool_int a b t
    | str b => obtain ⟨t, rfl⟩ := rx; exact SeqAt.EqAt.bool_str a b t
    | _ => exact absurd (show false = true from fx) Bool.false_ne_true
  | int a =>
    obtain ⟨t', rfl⟩ := ry
    cases x with
    | non => cases rx; exact SeqAt.EqAt.int_none a t'
    | bl b => cases rx; exact SeqAt.EqAt.int_bool a t' b
    | int b => obtain ⟨t, rfl⟩ := rx; exact SeqAt.EqAt.int_int a t' b t
    | str b => obtain ⟨t, rfl⟩ := rx; exact SeqAt.EqAt.int_str a t' b t
    | _ => exact absurd (show false = true from fx) Bool.false_ne_true
  | str a =>
    obtain ⟨t', rfl⟩ := ry
    cases x with
    | non => cases rx; exact SeqAt.EqAt.str_none a t'
    | bl b => cases rx; exact SeqAt.EqAt.str_bool a t' b
    | int b => obtain ⟨t, rfl⟩ := rx; exact SeqAt.EqAt.str_int a t' b t
    | str b => obtain ⟨t, rfl⟩ := rx; exact SeqAt.EqAt.str_str a t' b t
    | _ => exact absurd (show false = true from fx) Bool.false_ne_true
  | _ => exact absurd (show false = true from fy) Bool.false_ne_true
noncomputable def eqU (x : V) (u : Value) : Bool := match u with
  | .none => eqV .non x
  | .bool b => eqV (.bl b) x
  | .int i _ => eqV (.int i) x
  | .str z _ => eqV (.str z) x
  | _ => false
theorem zns {x y : V} {u : Value} (r : zah y u) (f : zbp y = true) : eqU x u = eqV y x := by
  cases y with
  | non => cases r; rfl
  | bl b => cases r; rfl
  | int i => obtain ⟨t, rfl⟩ := r; rfl
  | str z => obtain ⟨t, rfl⟩ := r; rfl
  | _ => exact absurd (show false = true from f) Bool.false_ne_true
theorem ziv {x : V} : ∀ {xs : List V} {us : List Value}, zae xs us -> xs.all zbp = true -> us.any (eqU x) = xs.any fun y => eqV y x
  | _, _, .nil, _ => rfl
  | y :: xs, u :: us, .cons r t, f => by
    rw [List.all_cons, Bool.and_eq_true] at f
    rw [List.any_cons, List.any_cons, zns r f.1, ziv t f.2]
theorem zkt {A : Around} {s : Shared} {x : V} {v : Value} (rx : zah x v) (fx : zbp x = true) : ∀ {xs : List V} {us : List Value}, zae xs us -> xs.all zbp = true -> ∀ u ∈ us, SeqAt.EqAt A s u v (eqU x u)
  | _, _, .nil, _ => fun u hu => by cases hu
  | y :: xs, u :: us, .cons r t, f => fun u' hu => by
    rw [List.all_cons, Bool.and_eq_true] at f
    rcases List.mem_cons.mp hu with rfl | hu
    · rw [zns r f.1]; exact zmt r rx f.1 fx
    · exact zkt rx fx t f.2 u' hu
noncomputable def inV (x : V) (xs : List V) : Bool := xs.any fun y => eqV y x
noncomputable def rIn (K : PySem.W.Frag) (neg : Bool) : R2 := fun x y H Q => ∃ p xs, y = .ref p /\ (SqL K H p xs \/ SqT K H p xs) /\ zbp x = true /\ xs.all zbp = true /\ Q (.bl (if neg then !inV x xs else inV x xs)) H
theorem zsg : OpR X (compareOp .NotIn) (rIn X.K true) := by
  intro pins s σ H x y v u Q I rx ry h
  obtain ⟨p, xs, rfl, hq, fx, fs, q⟩ := h
  cases ry
  rcases hq with hq | hq
  · obtain ⟨its, r, pl, hz⟩ := I.list hq
    refine SeqAt.notIn_listAt (eqU x) pl.isList (fun w hw => zkt rx fx r fs w (by simpa using hw)) ⟨.bl _, H, I, rfl, ?_⟩
    rw [show its.toArray.any (eqU x) = its.any (eqU x) by simp, ziv r fs]
    exact q
  · obtain ⟨its, r, pl, hz⟩ := I.tuple hq
    refine SeqAt.notIn_tupleAt (eqU x) pl (fun w hw => zkt rx fx r fs w (by simpa using hw)) ⟨.bl _, H, I, rfl, ?_⟩
    rw [show its.toArray.any (eqU x) = its.any (eqU x) by simp, ziv r fs]
    exact q
theorem zu2 : zbq X (.builtin "len") (fun xs H Q => ∃ p ys, xs = [.ref p] /\ (SqL X.K H p ys \/ SqT X.K H p ys) /\ Q (.int ys.length) H) := by
  intro pins s σ H xs us Q I r h
  obtain ⟨p, ys, rfl, hq, q⟩ := h
  obtain ⟨u, rfl, rx⟩ := zf0 r
  cases rx
  have hn := zfr
  rcases hq with hq | hq
  · obtain ⟨its, r', pl, hz⟩ := I.list hq
    have hlen := r'.length
    exact Calls.call_len_list pl.isList (by simp only [List.size_toArray] <;> omega) ⟨.int ys.length, H, I.tok _, ⟨s.toks + 1, by rw [List.size_toArray, hlen]⟩, q⟩
  · obtain ⟨its, r', pl, hz⟩ := I.tuple hq
    have hlen := r'.length
    exact len_tuple pl (by simp only [List.size_toArray] <;> omega) ⟨.int ys.length, H, I.tok _, ⟨s.toks + 1, by rw [List.size_toArray, hlen]⟩, q⟩
theorem ztz : zbq X (.builtin "len") (fun xs H Q => ∃ z, xs = [.str z] /\ z.length <= sizeLine /\ Q (.int z.length) H) := by
  intro pins s σ H xs us Q I r h
  obtain ⟨z, rfl, hz, q⟩ := h
  obtain ⟨u, rfl, t, rfl⟩ := zf0 r
  have hn := zfr
  exact len_str (by omega) ⟨.int z.length, H, I.tok _, ⟨_, rfl⟩, q⟩
theorem zbq.or {f : Value} {r r' : List V -> Hp -> VK -> Prop} (h : zbq X f r) (h' : zbq X f r') : zbq X f (fun xs H Q => r xs H Q \/ r' xs H Q) := by
  intro pins s σ H xs us Q I rs q
  rcases q with q | q
  · exact h pins s σ H xs us Q I rs q
  · exact h' pins s σ H xs us Q I rs q
theorem zpa : zbq X (.type "list") (fun xs H Q => ∃ p ys, xs = [.ref p] /\ (SqL X.K H p ys \/ SqT X.K H p ys) /\ ∀ l, H l = none -> Q (.ref l) (upd H l (.lst ys))) := by
  intro pins s σ H xs us Q I r h
  obtain ⟨p, ys, rfl, hq, q⟩ := h
  obtain ⟨u, rfl, rx⟩ := zf0 r
  cases rx
  have fin : ∀ (its : List Value), zae ys its -> ys.length <= sizeLine -> ∀ (h' : Heap) (c' : Nat), (∀ b o', s.heap.get? b = some o' -> h'.get? b = some o') ->
      h'.get? s.heap.objs.size = some { cls := .type "list", dict := none, data := .seq its.toArray c', slots := #[] } -> EP X pins σ Q (.ref s.heap.objs.size) { s with heap := h' } := fun its r' hz h' c' kp e =>
    ⟨.ref s.heap.objs.size, _, I.laid (t' := s.toks) kp (Nat.le_refl _) (show za0 X.prog X.w _ h' _ (.lst ys) from ⟨hz, its, c', r', e⟩), rfl, q _ (I.hok.fresh (Nat.le_refl _))⟩
  rcases hq with hq | hq
  · obtain ⟨its, r', pl, hz⟩ := I.list hq
    have hlen := r'.length
    obtain ⟨o, ho, hc, n, hd⟩ := pl.isList
    exact call_list_seq p (.inl rfl) ho hc hd (fun h' c' kp e => fin its r' hz h' c' kp e) (by simp only [List.size_toArray] <;> omega)
  · obtain ⟨its, r', pl, hz⟩ := I.tuple hq
    have hlen := r'.length
    obtain ⟨o, ho, hc, n, hd⟩ := pl
    exact call_list_seq p (.inr rfl) ho hc hd (fun h' c' kp e => fin its r' hz h' c' kp e) (by simp only [List.size_toArray] <;> omega)
noncomputable def tyV (K : PySem.W.Frag) (T : String) (x : V) (H : Hp) : Prop := match x with
  | .str _ => T = "str"
  | .int _ => T = "int"
  | .ref p => (T = "list" /\ ∃ xs, SqL K H p xs) \/ (T = "tuple" /\ ∃ o, K.lookup p = some o /\ o.cls = .type "tuple" /\ o.dict = none) \/
      (T = "dict" /\ ((∃ kvs, H p = some (.dK kvs)) \/ ∃ kvs, H p = some (.dT kvs))) \/ (T = "set" /\ ∃ S n, H p = some (.set S n))
  | _ => False
theorem zvv {pins : List (Addr × Obj)} {σ : St} {H : Hp} {s : Shared} {T : String} {x : V} {v : Value} (I : Inv X pins σ H s) (r : zah x v) (ty : tyV X.K T x H) :
    s.TypeIs v T /\ ∀ a, v = .ref a -> ∃ ob, s.heap.get? a = some ob /\ ob.dict = none := by
  cases x with
  | str z =>
    obtain ⟨t, rfl⟩ := r
    cases (show T = "str" from ty)
    exact ⟨typeIs_str s z t, fun _ e => nomatch e⟩
  | int i =>
    obtain ⟨t, rfl⟩ := r
    cases (show T = "int" from ty)
    exact ⟨typeIs_int s i t, fun _ e => nomatch e⟩
  | ref p =>
    cases r
    rcases ty with ⟨rfl, xs, hq⟩ | ⟨rfl, o, hk, hc, hd⟩ | ⟨rfl, hk⟩ | ⟨rfl, S, n, hk⟩
    · obtain ⟨its, _, pl, _⟩ := I.list hq
      refine ⟨pl.isList.typeIs, fun a e => ?_⟩
      cases e
      obtain ⟨o, n, e, c, hd, _⟩ := pl
      exact ⟨o, e, hd⟩
    · refine ⟨⟨o, I.kIn p o hk, hc⟩, fun a e => ?_⟩
      cases e
      exact ⟨o, I.kIn _ o hk, hd⟩
    · have z : ∃ o, s.heap.get? p = some o /\ o.ExactDict := by
        rcases hk with ⟨kvs, hk⟩ | ⟨kvs, hk⟩
        · obtain ⟨_, _, _, _, o, _, _, e, ex, _⟩ := I.hok p _ hk
          exact ⟨o, e, ex⟩
        · obtain ⟨_, _, _, _, o, _, _, e, ex, _⟩ := I.hok p _ hk
          exact ⟨o, e, ex⟩
      obtain ⟨o, e, ex⟩ := z
      refine ⟨⟨o, e, ex.1⟩, fun a e2 => ?_⟩
      cases e2
      exact ⟨o, e, ex.2.1⟩
    · obtain ⟨o, _, _, _, e, ex, _⟩ := I.hok p _ hk
      refine ⟨⟨o, e, ex.1⟩, fun a e2 => ?_⟩
      cases e2
      exact ⟨o, e, ex.2.1⟩
  | _ => exact False.elim ty
noncomputable def tBM (K : PySem.W.Frag) (T : String) (r : V -> List V -> Hp -> VK -> Prop) (to : TE) (t : TA) : TE := fun σ H Q => to σ H fun x H1 => tyV K T x H1 /\ t σ H1 fun xs H2 => r x xs H2 Q
variable {o e : Expr} {es : List Expr} {to : TE} {t : TA} {name : Str} {apos cpos : Pos} {T id : String} {r : V -> List V -> Hp -> VK -> Prop}
theorem zeq (pa : PlainAttrs T) (slot : Slot T name id) (hty : typeOf (.builtin id) = pure (.type "method_descriptor")) (hm : MtR X id r) (ho : PE X o to) (ha : PA X (e :: es) t)
    (hbase : attributeBase o name X.env (eval o X.env) = eval o X.env := by rfl)
    (hfew : ((backTo cpos (starEach (e :: es) X.env)).all (fun x => !x.1) && (backToKw cpos (keywordEach [] X.env)).all (fun x => x.1.isSome)
      && decide ((e :: es).length + ([] : List Keyword).length + (if ([] : List Keyword).isEmpty then 0 else 1) < 30)) = true := by rfl)
    (hline : (apos.endLine == cpos.line) = true := by rfl) (hs : starEach (e :: es) X.env = (false, eval e X.env) :: starEach es X.env := by rfl) (hplain : (backTo cpos (starEach es X.env)).any (·.1) = false := by rfl) :
    PE X (.Call (.Attribute o name apos) (e :: es) [] cpos) (tBM X.K T r to t) := by
  intro pins s σ H Q I h
  refine wpAny_Call_method_late hbase hfew hline rfl (thn (ho pins s σ H _ I h) fun v s1 ⟨x, H1, I1, r1, ty, q1⟩ => ?_)
  obtain ⟨h1, h2⟩ := zvv I1 r1 ty
  refine ⟨T, id, pa, slot, hty, h1, h2, ?_⟩
  have hA := ha cpos pins s1 σ H1 _ I1 q1
  rw [hs] at hA ⊢
  refine Calls.callWith_builtin (by show (false || (backTo cpos (starEach es X.env)).any (·.1)) = false; rw [hplain] <;> rfl) (Calls.evalArgs_plain ?_)
  exact thn hA fun us s2 ⟨vs, H2, I2, r2, q2⟩ => hm pins s2 σ H2 x vs v us Q I2 r1 r2 q2
end
end L2
namespace L2
open PySem PySem.Spec PyProof.Rows
noncomputable def MtM (X : Cx) (id : String) (r : V -> List V -> Hp -> VK -> Prop) : Prop :=
  ∀ (pins : List (Addr × Obj)) (s : Shared) (σ : St) (H : Hp) (x : V) (xs : List V) (v : Value) (us : List Value) (Q : VK), Inv X pins σ H s -> zah x v -> zae xs us -> r x xs H Q ->
    wpAny (model X.prog X.w) X.A (call (.builtin id) (v :: us)) (EP X pins σ Q) X.xe s
theorem zae.one : ∀ {x : V} {us : List Value}, zae [x] us -> ∃ u, us = [u] /\ zah x u
  | _, _, .cons r .nil => ⟨_, rfl, r⟩
theorem zae.two : ∀ {x y : V} {us : List Value}, zae [x, y] us -> ∃ u v, us = [u, v] /\ zah x u /\ zah y v
  | _, _, _, .cons r (.cons q .nil) => ⟨_, _, rfl, r, q⟩
theorem zae.zero : ∀ {us : List Value}, zae [] us -> us = []
  | _, .nil => rfl
theorem zae.reverse {xs : List V} {us : List Value} (h : zae xs us) : zae xs.reverse us.reverse := by
  induction h with
  | nil => exact .nil
  | cons r t ih => rw [List.reverse_cons, List.reverse_cons]; exact zae.append ih (.cons r .nil)
theorem zae.rep {xs : List V} {us : List Value} (h : zae xs us) : ∀ k : Nat, zae (List.replicate k xs).flatten (List.replicate k us).flatten
  | 0 => .nil
  | k + 1 => by
    rw [List.replicate_succ, List.replicate_succ, List.flatten_cons, List.flatten_cons]
    exact zae.append h (zae.rep h k)
section
variable {X : Cx} {pins : List (Addr × Obj)} {σ : St} {H : Hp} {s : Shared} {l b : Addr} {xs ys zs : List V}
theorem Inv.lset {its its' : List Value} {n : Nat} {f : Array Value -> Array Value} {t' : Nat} (I : Inv X pins σ H s) (hH : H l = some (.lst xs))
    (e : s.heap.get? l = some { cls := .type "list", data := .seq its.toArray n }) (hf : f its.toArray = its'.toArray) (hv : zae ys its') (hz : ys.length <= sizeLine) :
    Inv X pins σ (upd H l (.lst ys)) { s with heap := s.heap.update l (Obj.mapSeq f), toks := t' } := by
  have q := PySem.IsL.update e f
  rw [hf] at q
  refine I.write (x := l) (e := l) (by rw [hH]; exact trivial) (.inl rfl) (fun b' u hb hu => (Heap.get?_update_other s.heap (Obj.mapSeq f) (Ne.symm hb)).trans hu) ⟨_, q⟩ ?_
  exact ⟨hz, its', _, hv, q⟩
theorem Inv.lnew {its : List Value} {t' : Nat} (I : Inv X pins σ H s) (hv : zae ys its) (hz : ys.length <= sizeLine) :
    Inv X pins σ (upd H s.heap.objs.size (.lst ys)) { s with heap := s.heap.push { cls := .type "list", data := .seq its.toArray }, toks := t' } :=
  I.laid (fun _ _ q => Heap.get?_push_of_some _ q) (Nat.le_refl _) ⟨hz, its, 0, hv, Heap.get?_push_size _ rfl⟩
theorem Inv.fresh (I : Inv X pins σ H s) : H s.heap.objs.size = none := I.hok.fresh (Nat.le_refl _)
theorem Inv.lstM (I : Inv X pins σ H s) (hH : H l = some (.lst xs)) : xs.length <= sizeLine /\ ∃ (its : List Value) (n : Nat), zae xs its /\ xs.length = its.length /\ s.heap.get? l = some { cls := .type "list", data := .seq its.toArray n } := by
  obtain ⟨z, its, n, r, e⟩ := I.hok l _ hH
  exact ⟨z, its, n, r, r.length, e⟩
theorem zu4 {n : Nat} (h : n <= sizeLine) : Builtin.List.listTooLong n = false := by
  unfold Builtin.List.listTooLong
  exact decide_eq_false (by omega)
end
section
variable {X : Cx}
noncomputable def zgs : V -> List V -> Hp -> VK -> Prop := fun x vs H Q => ∃ l xs y, x = .ref l /\ vs = [y] /\ H l = some (.lst xs) /\ xs.length < sizeLine /\ Q .non (upd H l (.lst (xs ++ [y])))
theorem zfo : MtM X "list.append" zgs := by
  intro pins s σ H x vs v us Q I rx rv h
  obtain ⟨l, xs, y, rfl, rfl, hH, hz, q⟩ := h
  cases rx
  obtain ⟨u, rfl, ru⟩ := rv.one
  obtain ⟨z, its, n, r, hl, e⟩ := I.lstM hH
  refine call_meets F.slot_list_append ⟨_, e, rfl⟩ F.entry_list_append (F.args_list_append_2 _ _) (PySem.list_append l its.toArray n u (by rw [List.size_toArray]; omega)) ⟨e, ?_⟩
  refine ⟨.non, _, I.lset (its' := its ++ [u]) hH e (by simp) (r.append (.cons ru .nil)) ?_, rfl, q⟩
  rw [List.length_append, List.length_singleton]
  omega
noncomputable def zoq : V -> List V -> Hp -> VK -> Prop := fun x vs H Q => ∃ l b xs zs, x = .ref l /\ vs = [.ref b] /\ H l = some (.lst xs) /\ H b = some (.lst zs) /\ xs.length + zs.length <= sizeLine /\ Q .non (upd H l (.lst (xs ++ zs)))
theorem zpr : MtM X "list.extend" zoq := by
  intro pins s σ H x vs v us Q I rx rv h
  obtain ⟨l, b, xs, zs, rfl, rfl, hH, hB, hz, q⟩ := h
  cases rx
  obtain ⟨u, rfl, ru⟩ := rv.one
  cases ru
  obtain ⟨z, its, n, r, hl, e⟩ := I.lstM hH
  obtain ⟨z2, its2, n2, r2, hl2, e2⟩ := I.lstM hB
  have hsz : its.toArray.size + its2.toArray.size <= sizeLine := by rw [List.size_toArray, List.size_toArray]; omega
  have hlong : ¬ (!its.toArray.isEmpty && Builtin.List.listTooLong (its.toArray.size + its2.toArray.size)) = true := by
    rw [zu4 hsz, Bool.and_false]
    exact Bool.false_ne_true
  refine call_meets F.slot_list_extend ⟨_, e, rfl⟩ F.entry_list_extend (F.args_list_extend_2 _ _)
    (AutoSeq1.list_extend_list_list_0 l its.toArray n b its2.toArray n2 hlong (by rw [List.size_toArray]; omega) (by omega)) ⟨e, e2, ?_⟩
  refine ⟨.non, _, I.lset (its' := its ++ its2) hH e (by simp) (r.append r2) ?_, rfl, q⟩
  rw [List.length_append]
  omega
noncomputable def zs8 : R2 := fun x y H Q => ∃ l b xs zs, x = .ref l /\ y = .ref b /\ H l = some (.lst xs) /\ H b = some (.lst zs) /\ xs.length + zs.length <= sizeLine /\ ∀ p, H p = none -> Q (.ref p) (upd H p (.lst (xs ++ zs)))
theorem zot : OpR X (binaryOp .Add) zs8 := by
  intro pins s σ H x y v u Q I rx ry h
  obtain ⟨l, b, xs, zs, rfl, rfl, hH, hB, hz, q⟩ := h
  cases rx
  cases ry
  obtain ⟨z, its, n, r, hl, e⟩ := I.lstM hH
  obtain ⟨z2, its2, n2, r2, hl2, e2⟩ := I.lstM hB
  refine PySem.P.add_list e e2 ?_ (by rw [List.size_toArray, List.size_toArray]; omega)
  have ea : its.toArray ++ its2.toArray = (its ++ its2).toArray := by simp
  rw [ea]
  exact ⟨.ref _, _, I.lnew (t' := s.toks) (r.append r2) (by rw [List.length_append]; omega), rfl, q _ I.fresh⟩
end
section
variable {prog : Program} {w : World} {A : Around} {E : Value -> Shared -> Prop} {s : Shared}
set_option maxRecDepth 100000 in
end
section
variable {X : Cx}
end
end L2
namespace Att
open PySem PySem.W PySem.Calls PyProof.Rows
theorem zwg {P : Params} {h : Heap} : ∀ (ns : List Int) (vs : List Value), WellAll P h vs (ns.map WData.int) -> IntsAre vs ns := by
  intro ns
  induction ns with
  | nil =>
    intro vs w
    rw [List.map_nil] at w
    cases w
    exact .nil
  | cons n ns ih =>
    intro vs w
    rw [List.map_cons] at w
    cases w with
    | cons a b =>
      cases a
      exact .cons _ _ (ih _ b)
theorem zri {l : OpenLaw} {n : Nat} (hn : l.most = some n) {P : Params} {h : Heap} {args : List WData} {vals : List Value}
    (hpre : l.row.toRowW.claim.pre args = true) (hwl : WellAll P h vals args) :
    ∃ a vs ns, vals = [Value.ref a] /\ args = [WData.list (ns.map WData.int)] /\ h.get? a = some { cls := .type "list", data := .seq vs.toArray } /\ IntsAre vs ns /\ ns.length <= n := by
  have hsh : WShape.hasAll [] args [.list .int] = true := (pre_splitW hpre).1
  have hc : l.pre.holds [] { args := args } = true := (pre_splitW hpre).2
  obtain ⟨d, r, rfl, h1, h2⟩ := hasAllW_cons hsh
  obtain rfl := hasAllW_nil h2
  obtain ⟨xs, rfl, h3⟩ := hasW_list h1
  obtain ⟨ns, rfl⟩ := items_int h3
  have hlen : ns.length <= n := by
    unfold OpenLaw.pre at hc
    have h4 : (WTm.not (.lt (.lit (.int (n : Int))) (.len (.arg 0)))).holds [] { args := [.list (ns.map .int)] } = true := by
      have h4 := (holds_andW hc).1
      rw [hn] at h4
      exact h4
    have h5 := condW_of h4 (w_not (w_lt w_lit (w_len_list (w_arg rfl))))
    rw [List.length_map] at h5
    refine Nat.le_of_not_lt fun q => ?_
    have q' : (n : Int) < ((ns.length : Nat) : Int) := by omega
    first
      | (rw [decide_eq_true q'] at h5; exact absurd h5 (by decide))
      | (simp at h5; omega)
  cases hwl with
  | cons w1 w2 =>
    cases w2
    cases w1 with
    | list ho hall => exact ⟨_, _, ns, rfl, rfl, ho, zwg ns _ hall, hlen⟩
theorem zpk (l : OpenLaw) (args : List WData) : l.row.toRowW.claim.post args (.bool true) args = true :=
  postW_of (r := l.row.toRowW) (X := (true == true))
    (show WShape.has [] (.bool true) .bool = true by first | rfl | decide | simp [WShape.has, WShape.arms, WShape.armsAll])
    (show (WTm.eq .res (.lit (.bool true))).value [] { args := args, res := some (.bool true), after := args } = some (.bool (true == true)) from w_eq_bool (w_res rfl) w_lit) rfl
theorem attach_call {l : OpenLaw} {n : Nat} {q : Program} {loose : List Str} {XP : (Str -> Option Value) -> Heap -> Prop} {YP : World -> Heap -> Prop} {d : DefRec}
    (hn : l.most = some n) (hdf : d.params.defaults = [])
    (call : ∀ (w : World) (s₀ s₁ : Shared) (mg mb : Str -> Option Value) (fa : Addr) (o : Obj) (pm cd doc : Value) (a : Addr) (vs : List Value) (ns : List Int),
      Ground q loose [] XP w s₀ mg mb s₁.heap -> YP w s₁.heap ->
      s₁.heap.get? fa = some o -> o.data = .func (docDef d.name d.params d.body d.scope pm cd doc) -> s₁.heap.CodeRec cd d.name -> mg d.name = some (.ref fa) ->
      s₁.heap.get? a = some { cls := .type "list", data := .seq vs.toArray } -> IntsAre vs ns -> ns.length <= n -> s₁.gens = #[] ->
      codeAny (model l.prog w) callerA (.call (.ref fa) ⟨[.ref a], []⟩) (fun r s' => r = .ok (.ret (.bool true)) /\ OldK s₁.heap s'.heap /\ s'.os = s₁.os /\ AllBare s'.gens) s₁) :
    WalkO q loose XP YP l.row.toRowW d [] (fun f vs => PySem.call f vs) := by
  intro w s₀ s₁ mg mb G Y fa o pm cd doc dV kV ho hd hcd hD hmg hg args vals as hpre hlay hrd hwl hlo
  obtain rfl : dV = .none := Dflts.none hD hdf
  obtain rfl : kV = .none := Dflts.noKw hD
  obtain ⟨a, vs, ns, rfl, rfl, hobj, hints, hlen⟩ := zri hn hpre hwl
  refine enter_call (codeAny_mono (call w s₀ s₁ mg mb fa o pm cd doc a vs ns G Y ho (fd_plain hd) hcd hmg hobj hints hlen hg) fun r s' hq => ?_)
  obtain ⟨rfl, h2, h3, h4⟩ := hq
  exact ⟨.inl ⟨.bool true, .bool true, [], rfl, fun _ => rfl, .bool true, zpk l _, fun _ => ⟨List.Pairwise.nil, fun _ hm => (nomatch hm)⟩⟩, h2, h3, h4⟩
section
variable {prog : Program} {w : World} {A : Around} {E : Value -> Shared -> Prop} {s : Shared} {K : Frag}
end
end Att
namespace L2
open PySem PySem.Spec PyProof.Rows
theorem znf : ∀ {vs : List Value} {ns : List Int}, IntsAre vs ns -> zae (ns.map V.int) vs
  | _, _, .nil => .nil
  | _, _, .cons n t h => .cons ⟨t, rfl⟩ (znf h)
noncomputable def zh9 (H : Hp) : Prop := ∀ b, H b = none \/ ∃ o xs, H b = some (.frz o (.lst xs))
theorem zsi {P : Program} {w : World} {K : PySem.W.Frag} {mg mb : Str -> Option Value} {CX : CXT} {k : Nat} {fa a : Addr} {fd : FuncData} {x : Str} {sp : Sp} {s₁ : Shared} {vs : List Value} {ns : List Int}
    (KX : K.In s₁.heap) (hns : s₁.heap.Ns mainGlobals mg) (hb : s₁.heap.Ns builtinsNs mb) (hbb : ∀ x : Str, x ≠ "__name__" -> mb x = bootBuiltins x) (hlim : s₁.heap.NoLimit) (hg : s₁.gens = #[])
    (ha : s₁.heap.get? a = some { cls := .type "list", data := .seq vs.toArray }) (hi : IntsAre vs ns) (hl : ns.length <= sizeLine) (hr : zat k callerA)
    (F : ∀ base : Heap, K.In base -> base.Ns mainGlobals mg -> zax P w K mg base CX k fa fd [x] sp) (hbind : ∀ (s : Shared) (u : Value), BindsTo s fd ⟨[u], []⟩ [(x, u)])
    (hsp : ∀ H : Hp, zh9 H -> SqL K H a (ns.map V.int) -> sp [.ref a] H (fun v _ => v = .bl true) fun _ _ _ => False)
    (hCX : ∀ H e s', CX [] H s₁ (fun _ _ _ => False) e s' -> False) :
    codeAny (model P w) callerA (.call (.ref fa) ⟨[.ref a], []⟩) (fun r s' => r = .ok (.ret (.bool true)) /\ OldK s₁.heap s'.heap /\ s'.os = s₁.os /\ AllBare s'.gens) s₁ := by
  have rv := znf hi
  have lenV := hi.length
  have core : ∀ H : Hp, zh9 H -> SqL K H a (ns.map V.int) -> HOk P w H s₁.heap -> (∀ b, H b ≠ none -> b = a) -> (H a ≠ none -> K.lookup a = none) ->
      codeAny (model P w) callerA (.call (.ref fa) ⟨[.ref a], []⟩) (fun r s' => r = .ok (.ret (.bool true)) /\ OldK s₁.heap s'.heap /\ s'.os = s₁.os /\ AllBare s'.gens) s₁ := by
    intro H hO hS hok hA hK
    have base_of : ∀ {b : Addr} {o : Obj}, s₁.heap.get? b = some o -> H b = none -> (zdi s₁.heap H).get? b = some o := fun e n => zv2 e n
    have noA : ∀ {b : Addr} {o : Obj} {es : Array DictEntry} {ep : Nat}, s₁.heap.get? b = some o -> o.data = .dict es ep -> H b = none := fun {b o es ep} e d => by
      cases q : H b with
      | none => rfl
      | some u =>
        have e' : b = a := hA b (by rw [q]; simp)
        subst e'
        rw [ha] at e; cases e
        have d' : Data.seq vs.toArray _ = Data.dict es ep := d
        cases d'
    have nsK : ∀ {b : Addr} {m : Str -> Option Value}, s₁.heap.Ns b m -> (zdi s₁.heap H).Ns b m := fun {b m} ⟨o, es, ep, e, d, r⟩ => ⟨o, es, ep, base_of e (noA e d), d, r⟩
    have hKb : K.In (zdi s₁.heap H) := fun b o e => base_of (KX b o e) (by
      cases q : H b with
      | none => rfl
      | some u =>
        have e' : b = a := hA b (by rw [q]; simp)
        subst e'
        rw [hK (by rw [q]; simp)] at e; cases e)
    have hM : Mod K mg (zdi s₁.heap H) := ⟨hKb, nsK hns, ⟨mb, nsK hb, hbb⟩, let ⟨mc, h1, h2⟩ := hlim; ⟨mc, nsK h1, h2⟩⟩
    have e0 : zcx P w K mg (zdi s₁.heap H) callerA [] s₁ H := ⟨rfl, hM, fun b o e => zqy e, Nat.le_of_eq (zsu _ _), trivial, fun b hb => absurd (show b ∈ ([] : List Addr) from hb) (by simp), hok, .of_eq hg⟩
    refine codeAny_mono ((F _ hKb (nsK hns)).run callerA [] s₁ H ⟨[.ref a], []⟩ [.ref a] [.ref a] _ _ hr e0 (hbind s₁ (.ref a)) (.cons rfl .nil) (hsp H hO hS)) fun r s' h => ?_
    cases r with
    | error e => exact (hCX H e s' h).elim
    | ok fl =>
      cases fl with
      | next => exact False.elim h
      | brk => exact False.elim h
      | cont => exact False.elim h
      | ret u =>
        obtain ⟨v, H', os, bare, un, hok', r', q⟩ := h
        have q' : v = .bl true := q
        subst q'
        obtain rfl : u = Value.bool true := r'
        refine ⟨rfl, OldK.of_keep fun b o e => ?_, os, bare⟩
        cases q : H b with
        | none => exact un.keep b o e q (by intro z; exact absurd (show b ∈ ([] : List Addr) from z) (by simp)) (by simp)
        | some u =>
          rcases hO b with z | ⟨ob, xs, z⟩
          · rw [q] at z; cases z
          · have z2 := un.frzs b ob _ z
            obtain ⟨e1, _⟩ := hok b _ z
            obtain ⟨e2, _⟩ := hok' b _ z2
            rw [e] at e1; cases e1
            exact e2
  cases hk : K.lookup a with
  | some o =>
    have e := KX a o hk
    rw [ha] at e
    cases e
    refine core (fun _ => none) (fun _ => .inl rfl) (.inr ⟨_, vs.toArray, _, hk, rfl, rfl, rfl, by rw [List.size_toArray, lenV]; exact hl, by simpa using rv⟩) (fun b u z => by have z' : (none : Option HO) = some u := z; cases z') (fun b z => absurd rfl z) fun z => absurd rfl z
  | none =>
    refine core (fun b => if b = a then some (.frz { cls := .type "list", data := .seq vs.toArray } (.lst (ns.map V.int))) else none) (fun b => ?_) (.inl (.inr ⟨{ cls := .type "list", data := .seq vs.toArray }, if_pos rfl⟩)) (fun b u z => ?_) (fun b z => ?_) fun _ => hk
    · by_cases hb : b = a
      · exact .inr ⟨_, _, if_pos hb⟩
      · exact .inl (if_neg hb)
    · by_cases hb : b = a
      · have z' := (if_pos hb).symm.trans z
        cases z'
        subst hb
        exact ⟨ha, by rw [List.length_map]; exact hl, vs, _, rv, ha⟩
      · have z' := (if_neg hb).symm.trans z
        cases z'
    · by_cases hb : b = a
      · exact hb
      · exact absurd (if_neg hb) z
end L2
namespace L2
open PySem PySem.Spec PyProof.Rows
noncomputable abbrev KOf {K : PySem.W.Frag} {h : Heap} (_ : K.In h) : PySem.W.Frag := K
theorem zqu {l : PySem.W.OpenLaw} {n k : Nat} {q : Program} {loose : List Str} {XP : (Str -> Option Value) -> Heap -> Prop} {YP : World -> Heap -> Prop} {d : DefRec} {K : Params -> PySem.W.Frag} {CX : World -> CXT} {sp : World -> Sp} {x : Str}
    (hn : l.most = some n) (hn2 : n <= sizeLine) (hdf : d.params.defaults = []) (hr : zat k callerA)
    (hY : ∀ (w : World) (h : Heap), YP w h -> (K w.params).In h)
    (F : ∀ (w : World) (mg : Str -> Option Value) (fa : Addr) (h : Heap), (K w.params).In h -> h.Ns mainGlobals mg -> mg d.name = some (.ref fa) ->
      ∃ fd : FuncData, (∀ (s : Shared) (u : Value), BindsTo s fd ⟨[u], []⟩ [(x, u)]) /\
        ∀ base : Heap, (K w.params).In base -> base.Ns mainGlobals mg -> zax l.prog w (K w.params) mg base (CX w) k fa fd [x] (sp w))
    (hsp : ∀ (w : World) (H : Hp) (a : Addr) (ns : List Int), ns.length <= n -> zh9 H -> SqL (K w.params) H a (ns.map V.int) -> sp w [.ref a] H (fun v _ => v = .bl true) fun _ _ _ => False)
    (hCX : ∀ (w : World) (H : Hp) (s : Shared) (e : Value) (s' : Shared), CX w [] H s (fun _ _ _ => False) e s' -> False) :
    PySem.W.WalkO q loose XP YP l.row.toRowW d [] (fun f vs => PySem.call f vs) := by
  refine Att.attach_call hn hdf fun w s₀ s₁ mg mb fa o pm cd doc a vs ns G Y ho hd hcd hmg hobj hints hlen hg => ?_
  have KX := hY w _ Y
  obtain ⟨fd, hb, hF⟩ := F w mg fa _ KX G.T.g hmg
  exact zsi KX G.T.g G.T.b G.T.builtins G.T.nolimit hg hobj hints (Nat.le_trans hlen hn2) hr hF hb (fun H hO hS => hsp w H a ns hlen hO hS) fun H e s' => hCX w H s₁ e s'
theorem walk_ofK {l : PySem.W.OpenLaw} {n k : Nat} {q : Program} {loose : List Str} {XP : (Str -> Option Value) -> Heap -> Prop} {YP : World -> Heap -> Prop} {d : DefRec} {K : Params -> PySem.W.Frag} {CX : CXT} {sp : PySem.W.Frag -> Sp} {x : Str}
    (hn : l.most = some n) (hn2 : n <= sizeLine) (hdf : d.params.defaults = []) (hr : zat k callerA)
    (hY : ∀ (w : World) (h : Heap), YP w h -> (K w.params).In h)
    (F : ∀ (w : World) (mg : Str -> Option Value) (fa : Addr) (h : Heap), (K w.params).In h -> h.Ns mainGlobals mg -> mg d.name = some (.ref fa) ->
      ∃ fd : FuncData, (∀ (s : Shared) (u : Value), BindsTo s fd ⟨[u], []⟩ [(x, u)]) /\
        ∀ base : Heap, (K w.params).In base -> base.Ns mainGlobals mg -> zax l.prog w (K w.params) mg base CX k fa fd [x] (sp (K w.params)))
    (hsp : ∀ (K : PySem.W.Frag) (H : Hp) (a : Addr) (ns : List Int), ns.length <= n -> zh9 H -> SqL K H a (ns.map V.int) -> sp K [.ref a] H (fun v _ => v = .bl true) fun _ _ _ => False)
    (hCX : ∀ (H : Hp) (s : Shared) (e : Value) (s' : Shared), CX [] H s (fun _ _ _ => False) e s' -> False) :
    PySem.W.WalkO q loose XP YP l.row.toRowW d [] (fun f vs => PySem.call f vs) :=
  zqu (K := K) (CX := fun _ => CX) (sp := fun w => sp (K w.params)) hn hn2 hdf hr hY F (fun w H a ns h1 h2 h3 => hsp (K w.params) H a ns h1 h2 h3) fun _ H s e s' => hCX H s e s'
end L2
namespace L2
open PySem PySem.Spec PyProof.Rows
noncomputable def zca (s : Stmt) : Arguments := match s with
  | .FunctionDef _ a _ _ _ _ _ _ _ _ => a
  | _ => { posonlyargs := [], args := [], vararg := none, kwonlyargs := [], kw_defaults := [], kwarg := none, defaults := [] }
noncomputable def zbn (s : Stmt) : List Stmt := match s with
  | .FunctionDef _ _ b _ _ _ _ _ _ _ => b
  | _ => []
noncomputable def zas (s : Stmt) : Scope := match s with
  | .FunctionDef _ _ _ _ _ _ sc _ _ _ => sc
  | _ => { kind := .function, names := [], isGenerator := false, isCoroutine := false }
noncomputable abbrev CX0 : CXT := fun _ _ _ _ _ _ => False
noncomputable abbrev E0 : XK := fun _ _ _ => False
theorem zf5 {X : Cx} : zi4 CX0 X E0 := fun _ _ _ _ _ _ _ h => h.elim
structure Fun (K : PySem.W.Frag) (x qual : Str) (st : Stmt) (f : Addr) (fd : FuncData) : Prop where
  ex : ∃ (oc : Value) (od : Option Addr) (kV doc pm : Value) (an : Option Addr) (cdv ct : Value) (osl : Array (Option Value)),
    fd = PySem.W.fnOf x qual (zca st) (zbn st) (zas st) .none kV doc pm an cdv ct /\ K.lookup f = some ⟨oc, od, .func fd, osl⟩ /\ PySem.W.codeIn K cdv qual = true
  kp : PySem.W.keepIn K (.ref f) = true
section
variable {P : Program} {w : World} {K : PySem.W.Frag} {mg : Str -> Option Value} {base : Heap}
theorem Fun.ok {x qual : Str} {st : Stmt} {f : Addr} {fd : FuncData} {N ps : List Str} {k : Nat} {sp : Sp} (F : Fun K x qual st f fd) (S : zb3 N ps (zas st)) (len : ∀ vs H Q E, sp vs H Q E -> vs.length = ps.length)
    (hbody : ∀ (cdv : Value) (A : Around) (outer : List Env) (s : Shared) (H : Hp) (vs : List V) (Q : VK) (E : XK), zat k (A.deeper (envOfC qual (zas st) s.heap.objs.size f cdv)) -> sp vs H Q E ->
      ∃ t, PSs (zdd CX0 P w K mg base N qual (zas st) f cdv A outer s H E).nox (zbn st) t /\ t { nx := fun _ H' => Q .non H', rt := Q } (start N vs) H) : zax P w K mg base CX0 (k + 1) f fd ps sp := by
  obtain ⟨oc, od, kV, doc, pm, an, cdv, ct, osl, rfl, lk, hcd⟩ := F.ex
  refine zrk lk hcd S len fun A outer s H vs Q E hr hsp => ?_
  obtain ⟨t, h, q⟩ := hbody cdv A outer s H vs Q E hr hsp
  exact ⟨t, h.nox, q⟩
theorem Fun.binds {x qual : Str} {st : Stmt} {f : Addr} {fd : FuncData} {ps : List Str} (F : Fun K x qual st f fd)
    (h : ∀ (kV doc pm : Value) (an : Option Addr) (cdv ct : Value) (us : List Value), us.length = ps.length -> bindArgs (PySem.W.fnOf x qual (zca st) (zbn st) (zas st) .none kV doc pm an cdv ct) ⟨us, []⟩ = pure (ps.zip us)) : zbe K fd ps [] := by
  obtain ⟨oc, od, kV, doc, pm, an, cdv, ct, osl, rfl, lk, hcd⟩ := F.ex
  exact .all (h kV doc pm an cdv ct)
theorem zdt {x qual : Str} {st : Stmt} {f : Addr} {oc : Value} {od an : Option Addr} {osl : Array (Option Value)} {kV doc pm cdv ct : Value} (l : K.lookup f = some ⟨oc, od, .func (PySem.W.fnOf x qual (zca st) (zbn st) (zas st) .none kV doc pm an cdv ct), osl⟩)
    (c : PySem.W.codeIn K cdv qual = true) (k : PySem.W.keepIn K (.ref f) = true) : Fun K x qual st f (PySem.W.fnOf x qual (zca st) (zbn st) (zas st) .none kV doc pm an cdv ct) := ⟨⟨oc, od, kV, doc, pm, an, cdv, ct, osl, rfl, l, c⟩, k⟩
end
theorem zhg {n : Nat} (h : n <= 1000) : n < sizeLine := Nat.lt_of_le_of_lt h (by decide)
section
variable {X : Cx}
theorem pv (i : Nat) {x : Str} {pos : Pos} (hN : X.N[i]? = some x := by rfl) (hv : Vis X.env.scope x := by first | exact Or.inl rfl | exact Or.inr (Or.inl rfl) | exact Or.inr (Or.inr rfl)) (hd : (x == ("__debug__" : Str)) = false := by decide)
    (hcd : (x == ("__classdict__" : Str)) = false := by decide) : PE X (.Name x pos) (zbt i) := zc4 hN hv hd hcd
end
theorem zoi {A B : Prop} (h : B) : if false = true then A else B := by
  rw [if_neg Bool.false_ne_true]
  exact h
theorem zmp {A B : Prop} (h : A) : if true = true then A else B := by
  rw [if_pos rfl]
  exact h
noncomputable def zac (H H' : Hp) : Prop := ∀ b o, H b = some o -> H' b = some o
theorem zac.refl (H : Hp) : zac H H := fun _ _ h => h
theorem zac.trans {H H1 H2 : Hp} (a : zac H H1) (b : zac H1 H2) : zac H H2 := fun c o h => b c o (a c o h)
theorem zac.free {H H' : Hp} (e : zac H H') {l : Addr} (h : H' l = Option.none) : H l = Option.none := by
  cases q : H l with
  | none => rfl
  | some o =>
    rw [e l o q] at h
    cases h
theorem zac.seq {K : PySem.W.Frag} {H H' : Hp} {a : Addr} {xs : List V} (e : zac H H') (h : SqL K H a xs) : SqL K H' a xs := by
  rcases h with (h | ⟨o, h⟩) | h
  · exact .inl (.inl (e _ _ h))
  · exact .inl (.inr ⟨o, e _ _ h⟩)
  · exact .inr h
end L2
namespace L2
open PySem PySem.Spec PyProof.Rows
section
variable {κ : Type} [DecidableEq κ]
noncomputable def zb7 (kvs : List (κ × V)) (k : κ) : Option V := (kvs.find? fun kv => decide (kv.1 = k)).map (·.2)
noncomputable def zij (kvs : List (κ × V)) (k : κ) (v : V) : List (κ × V) :=
  if (kvs.any fun kv => decide (kv.1 = k)) = true then kvs.map (fun kv => if kv.1 = k then (kv.1, v) else kv) else kvs ++ [(k, v)]
noncomputable def zl7 (kvs : List (κ × V)) (k : κ) : List (κ × V) := kvs.filter fun kv => decide (kv.1 ≠ k)
theorem zkq {p : κ × V} {r : List (κ × V)} {k : κ} (e : p.1 = k) : zb7 (p :: r) k = some p.2 := by simp [zb7, List.find?_cons, e]
theorem zi8 {p : κ × V} {r : List (κ × V)} {k : κ} (e : ¬ p.1 = k) : zb7 (p :: r) k = zb7 r k := by simp [zb7, List.find?_cons, e]
theorem zcw.getD {o : Option V} {u : Option Value} {d : V} {d' : Value} (r : zcw o u) (rd : zah d d') : zah (o.getD d) (u.getD d') := by
  cases o with
  | none => cases u with
    | none => exact rd
    | some _ => exact (show False from r).elim
  | some _ => cases u with
    | none => exact (show False from r).elim
    | some _ => exact r
theorem KV.val {kvs : List (κ × V)} {vs : List (κ × Value)} (r : KV kvs vs) (k : κ) : zcw (zb7 kvs k) (valueAt vs k) := by
  unfold KV at r
  induction r with
  | nil => exact True.intro
  | @cons p q ps qs h t ih =>
    obtain ⟨h1, h2⟩ := h
    by_cases e : p.1 = k
    · have e' : q.1 = k := h1.symm.trans e
      have b : valueAt (q :: qs) k = some q.2 := by simp [valueAt, List.find?_cons, e']
      rw [zkq e, b]; exact h2
    · have e' : ¬ q.1 = k := fun z => e (h1.trans z)
      have b : valueAt (q :: qs) k = valueAt qs k := by simp [valueAt, List.find?_cons, e']
      rw [zi8 e, b]; exact ih
theorem KV.any {kvs : List (κ × V)} {vs : List (κ × Value)} (r : KV kvs vs) (k : κ) : (kvs.any fun kv => decide (kv.1 = k)) = vs.any fun kv => decide (kv.1 = k) := by
  unfold KV at r
  induction r with
  | nil => rfl
  | cons h t ih => rw [List.any_cons, List.any_cons, ih, h.1]
theorem KV.drop {kvs : List (κ × V)} {vs : List (κ × Value)} (r : KV kvs vs) (k : κ) : KV (zl7 kvs k) (without vs k) := by
  unfold KV at r ⊢
  unfold zl7 without
  induction r with
  | nil => exact .nil
  | @cons p q ps qs h t ih =>
    obtain ⟨h1, h2⟩ := h
    rw [List.filter_cons, List.filter_cons]
    by_cases e : p.1 = k
    · have a : ¬ decide (p.1 ≠ k) = true := by simp [e]
      have b : ¬ decide (q.1 ≠ k) = true := by simp [h1.symm.trans e]
      rw [if_neg a, if_neg b]; exact ih
    · have e' : ¬ q.1 = k := fun z => e (h1.trans z)
      have a : decide (p.1 ≠ k) = true := by simp [e]
      have b : decide (q.1 ≠ k) = true := by simp [e']
      rw [if_pos a, if_pos b]; exact .cons ⟨h1, h2⟩ ih
theorem KV.keys {kvs : List (κ × V)} {vs : List (κ × Value)} (r : KV kvs vs) : kvs.map (·.1) = vs.map (·.1) := by
  unfold KV at r
  induction r with
  | nil => rfl
  | cons h t ih => rw [List.map_cons, List.map_cons, ih, h.1]
theorem KV.length {kvs : List (κ × V)} {vs : List (κ × Value)} (r : KV kvs vs) : kvs.length = vs.length := Paired.length r
end
theorem zo0 {P : Program} {w : World} {k : Key} {u : Value} (r : zah (kV k) u) : (zbb P w).is k u = true := by
  cases k with
  | inl i => obtain ⟨t, e⟩ := (show ∃ t, u = Value.int i t from r); subst e; exact zlq P w i t
  | inr x => obtain ⟨t, e⟩ := (show ∃ t, u = Value.str x t from r); subst e; exact zlr P w x t
theorem zoe {P : Program} {w : World} : ∀ {ks : List Key} {us : List Value}, zae (ks.map kV) us -> ItemsAre (zbb P w) ks us
  | [], _, r => by rw [List.map_nil] at r; cases r; exact .nil
  | k :: ks, _, r => by
    rw [List.map_cons] at r
    cases r with
    | cons h t => exact .cons (zo0 h) (zoe t)
noncomputable abbrev KT (H : Hp) : List (List Key × V) -> List (List Key × Addr × Value) -> Prop := Paired fun p q => p.1 = q.1 /\ H q.2.1 = some (.tup (p.1.map kV)) /\ zah p.2 q.2.2
theorem KT.val {H : Hp} {kvs : List (List Key × V)} {xs : List (List Key × Addr × Value)} (r : KT H kvs xs) (k : List Key) : zcw (zb7 kvs k) ((atKey xs k).map (·.2)) := by
  induction r with
  | nil => exact True.intro
  | @cons p q ps qs h t ih =>
    obtain ⟨h1, _, h2⟩ := h
    by_cases e : p.1 = k
    · have e' : q.1 = k := h1.symm.trans e
      have b : atKey (q :: qs) k = some q.2 := by simp [atKey, List.find?_cons, e']
      rw [zkq e, b]; exact h2
    · have e' : ¬ q.1 = k := fun z => e (h1.trans z)
      have b : atKey (q :: qs) k = atKey qs k := by simp [atKey, List.find?_cons, e']
      rw [zi8 e, b]; exact ih
theorem KT.keeps {H H' : Hp} {kvs : List (List Key × V)} {xs : List (List Key × Addr × Value)} (r : KT H kvs xs) (ht : ∀ b ys, H b = some (.tup ys) -> H' b = some (.tup ys)) : KT H' kvs xs :=
  Paired.mapP r fun _ _ z => ⟨z.1, ht _ _ z.2.1, z.2.2⟩
section
variable {P : Program} {w : World} {H : Hp} {h : Heap} {a : Addr}
theorem zo2 {u : HO} (ok : HOk P w H h) (e : Rd H a u) : za0 P w H h a u := e.ok ok
theorem zjt {kvs : List (Key × V)} (ok : HOk P w H h) (e : Rd H a (.dK kvs)) : kvs.length <= sizeLine /\ (a == sysModules) = false /\ ∃ vs, KV kvs vs /\ h.DictOf (zbb P w) a vs :=
  show za0 P w H h a (.dK kvs) from zo2 ok e
theorem zpn {kvs : List (Key × V)} (ok : HOk P w H h) (e : H a = some (.dK kvs)) : kvs.length <= sizeLine /\ (a == sysModules) = false /\ ∃ vs, KV kvs vs /\ h.DictOf (zbb P w) a vs := zjt ok (.inl e)
theorem zl3 {ks : List Key} (ok : HOk P w H h) (e : H a = some (.tup (ks.map kV))) : (tupleKind (zbb P w)).is h ks a := by
  obtain ⟨_, its, r, o, h1, h2, n, h3⟩ := (show za0 P w H h a (.tup (ks.map kV)) from ok a _ e)
  exact ⟨o, its.toArray, n, h1, h2, h3, by simpa using zoe r⟩
theorem zm1 {kvs : List (List Key × V)} (ok : HOk P w H h) (e : Rd H a (.dT kvs)) : kvs.length <= sizeLine /\ (a == sysModules) = false /\
    ∃ xs, KT H kvs xs /\ h.DictOfH (tupleKind (zbb P w)) a xs := by
  obtain ⟨z, y, xs, r, o, es, ep, h1, h2, h3, h4, h5⟩ := (show za0 P w H h a (.dT kvs) from zo2 ok e)
  refine ⟨z, y, xs, r, o, es, ep, h1, h2, h3, h4, fun x hx => ?_, h5⟩
  have all : ∀ {l : List (List Key × V)} {m : List (List Key × Addr × Value)}, KT H l m -> ∀ x ∈ m, (tupleKind (zbb P w)).is h x.1 x.2.1 := by
    intro l m q
    induction q with
    | nil => intro x hx; exact nomatch hx
    | @cons p q ps qs hq t ih =>
      intro x hx
      rcases List.mem_cons.mp hx with e | hx
      · subst e
        exact zl3 ok (by rw [<- hq.1]; exact hq.2.1)
      · exact ih x hx
  exact all r x hx
end
noncomputable def zd8 (H : Hp) (a : Addr) (y : V) (r : Option V) : Prop :=
  (∃ kvs k, Rd H a (.dK kvs) /\ y = kV k /\ r = zb7 kvs k) \/ ∃ kvs k b, Rd H a (.dT kvs) /\ y = .ref b /\ H b = some (.tup (k.map kV)) /\ r = zb7 kvs k
noncomputable def zil (H : Hp) (a : Addr) (y v : V) (H' : Hp) : Prop :=
  (∃ kvs k, H a = some (.dK kvs) /\ y = kV k /\ kvs.length < sizeLine /\ H' = upd H a (.dK (zij kvs k v))) \/
  ∃ kvs k b, H a = some (.dT kvs) /\ y = .ref b /\ H b = some (.tup (k.map kV)) /\ kvs.length < sizeLine /\ H' = upd H a (.dT (zij kvs k v))
theorem zd8.k {H : Hp} {a : Addr} {kvs : List (Key × V)} {k : Key} (e : H a = some (.dK kvs)) : zd8 H a (kV k) (zb7 kvs k) := .inl ⟨kvs, k, .inl e, rfl, rfl⟩
theorem zd8.t {H : Hp} {a b : Addr} {kvs : List (List Key × V)} {k : List Key} (e : H a = some (.dT kvs)) (eb : H b = some (.tup (k.map kV))) : zd8 H a (.ref b) (zb7 kvs k) := .inr ⟨kvs, k, b, .inl e, rfl, eb, rfl⟩
theorem zil.k {H : Hp} {a : Addr} {kvs : List (Key × V)} {k : Key} {v : V} (e : H a = some (.dK kvs)) (hl : kvs.length < sizeLine) : zil H a (kV k) v (upd H a (.dK (zij kvs k v))) := .inl ⟨kvs, k, e, rfl, hl, rfl⟩
theorem zil.t {H : Hp} {a b : Addr} {kvs : List (List Key × V)} {k : List Key} {v : V} (e : H a = some (.dT kvs)) (eb : H b = some (.tup (k.map kV))) (hl : kvs.length < sizeLine) :
    zil H a (.ref b) v (upd H a (.dT (zij kvs k v))) := .inr ⟨kvs, k, b, e, rfl, eb, hl, rfl⟩
section
variable {X : Cx} {pins : List (Addr × Obj)} {σ : St} {H : Hp} {s : Shared} {a : Addr} {y v : V} {u r : Value} {o : Option V} {A : Around} {E : Value -> Shared -> Prop}
theorem Inv.big (I : Inv X pins σ H s) : sysModules < s.heap.objs.size := by
  have h : mainGlobals < s.heap.objs.size := (I.mod.glob.keeps I.bk).lt
  exact Nat.lt_trans (by decide) h
theorem zu0 {Q : Value -> Shared -> Prop} (hu : A.units + 1 < cLine) (I : Inv X pins σ H s) (g : zd8 H a y (some v)) (ry : zah y u) (h : ∀ w' s', Inv X pins σ H s' -> zah v w' -> Q w' s') :
    wpAny (model X.prog X.w) A (getItem (.ref a) u) Q E s := by
  rcases g with ⟨kvs, k, e, ey, l⟩ | ⟨kvs, k, b, e, ey, eb, l⟩
  · subst ey
    obtain ⟨z, hd, vs, rel, dd⟩ := zjt I.hok e
    obtain ⟨w', hw, rw'⟩ := zcw.some_of (v := v) (o := valueAt vs k) (by rw [l]; exact rel.val k)
    exact wpAny_getItem_of (zo0 ry) dd.mapOf hw (h w' _ (I.tok _) rw')
  · subst ey
    cases (show u = Value.ref b from ry)
    obtain ⟨z, hd, xs, rel, dd⟩ := zm1 I.hok e
    obtain ⟨w', hw, rw'⟩ := zcw.some_of (v := v) (o := (atKey xs k).map (·.2)) (by rw [l]; exact rel.val k)
    obtain ⟨p, hp, hp2⟩ := Option.map_eq_some_iff.mp hw
    refine wpAny_getItem_heap (tupleKind_room_in1 hu) (zl3 I.hok eb) dd hp ?_
    rw [hp2]
    exact h w' _ (I.tok _) rw'
end
section
variable {X : Cx} {pins : List (Addr × Obj)} {σ : St} {H : Hp} {s : Shared} {a : Addr} {kvs : List (Key × V)} {k : Key} {u : Value} {A : Around} {E : Value -> Shared -> Prop}
end
noncomputable def zjz (i : Expr) : Prop := ∀ ov iv, subscripted i false ov iv = operate [ov, iv] (getItem ov iv)
theorem zs2 {prog : Program} {w : World} {A : Around} {E : Value -> Shared -> Prop} {s : Shared} {env : Env} {value slice : Expr} {pos : Pos} {T id : String} {Q : Value -> Shared -> Prop}
    (hl : typeLookup (.type T) "__getitem__" = pure (some (.builtin id))) (hs : zjz slice)
    (h : wpAny (model prog w) A (eval value env) (fun o s₁ => wpAny (model prog w) A (eval slice env) (fun i s₂ => s₂.TypeIs o T /\ wpAny (model prog w) A (getItem o i) Q E s₂) E s₁) E s) :
    wpAny (model prog w) A (eval (.Subscript value slice pos) env) Q E s := by
  refine Subscript_ (wpAny_mono h (fun o s₁ h₁ => wpAny_mono h₁ (fun i s₂ h₂ => ?_) fun _ _ x => x) fun _ _ x => x)
  obtain ⟨hT, h₂⟩ := h₂
  unfold subscriptTail
  refine wpAny_bind ?_
  rw [getitemInPython_of_ne hT.not_modules]
  refine wpAny_bind (wpAny_specialOf hT hl ?_)
  have fin : wpAny (model prog w) A (subscripted slice false o i) (fun r s₃ => wpAny (model prog w) A (letTemporaryGo value o r >>= fun _ => pure r) Q E s₃) E s₂ := by
    rw [hs o i]
    exact wpAny_operating (wpAny_mono h₂ (fun r s₃ h₃ => wpAny_bind (wpAny_letTemporaryGo (wpAny_pure h₃))) fun _ _ x => x)
  first
    | exact wpAny_pure (wpAny_bind fin)
    | exact wpAny_bind (wpAny_pure (wpAny_bind fin))
    | exact wpAny_bind fin
theorem zui {X : Cx} {pins : List (Addr × Obj)} {σ : St} {H : Hp} {s : Shared} {a : Addr} {y : V} {o : Option V} (I : Inv X pins σ H s) (g : zd8 H a y o) : s.TypeIs (.ref a) "dict" := by
  rcases g with ⟨kvs, k, e, _, _⟩ | ⟨kvs, k, b, e, _, _, _⟩
  · obtain ⟨_, _, vs, _, dd⟩ := zjt I.hok e
    exact dd.typeIs
  · obtain ⟨_, _, xs, _, dd⟩ := zm1 I.hok e
    exact dd.typeIs
noncomputable def zub (td ty : TE) : TE := fun σ H Q => td σ H fun x H1 => ty σ H1 fun y H2 => ∃ a v, x = .ref a /\ zd8 H2 a y (some v) /\ Q v H2
section
variable {X : Cx} {o i e value : Expr} {pos pos' tpos : Pos} {td ty tv : TE}
theorem zvw (hu : X.A.units + 1 < cLine) (ho : PE X o td) (hi : PE X i ty) (hs : zjz i) : PE X (.Subscript o i pos) (zub td ty) := by
  intro pins s σ H Q I h
  refine zs2 PySem.F.slot_dict_getitem.lookup hs (thn (ho pins s σ H _ I h) fun u s1 ⟨x, H1, I1, rx, q1⟩ => thn (hi pins s1 σ H1 _ I1 q1) fun iv s2 ⟨y, H2, I2, ry, a, v, ex, g, q2⟩ => ?_)
  subst ex
  obtain rfl : u = Value.ref a := rx
  exact ⟨zui I2 g, zu0 hu I2 g ry fun w' s3 I3 rw' => ⟨v, H2, I3, rw', q2⟩⟩
end
section
variable {X : Cx} {pos : Pos}
end
section
variable {X : Cx} {pins : List (Addr × Obj)} {σ : St} {H : Hp} {s : Shared} {a : Addr} {y d : V} {u r : Value} {o : Option V} {A : Around} {E : Value -> Shared -> Prop}
end
section
variable {X : Cx} {o e f : Expr} {apos cpos : Pos} {td ty tx : TE}
end
section
variable {X : Cx} {pins : List (Addr × Obj)} {σ : St} {H : Hp} {s : Shared} {a : Addr} {kvs : List (Key × V)} {A : Around} {E : Value -> Shared -> Prop}
end
section
variable {X : Cx} {pins : List (Addr × Obj)} {σ : St} {H : Hp} {s : Shared} {a : Addr} {y : V} {u : Value} {A : Around} {E : Value -> Shared -> Prop}
end
end L2
namespace L2
open PySem PySem.Spec PyProof.Rows
section
variable {κ : Type} [DecidableEq κ]
end
end L2
set_option maxHeartbeats 4000000
namespace L2
open PySem
theorem zjs {env : Env} (f : (Str × NameKind) -> List (Str × Addr) -> Sem (ForInStep (List (Str × Addr))))
    (h1 : ∀ n k r, k ≠ NameKind.free -> f (n, k) r = pure (.yield r))
    (h2 : ∀ n r c, env.cells.lookup n = some c -> f (n, .free) r = pure (.yield ((n, c) :: r))) :
    ∀ (l : List (Str × NameKind)) (acc : List (Str × Addr)), (∀ x ∈ l, x.2 = .free -> ∃ c, env.cells.lookup x.1 = some c) ->
      (∀ x c, acc.lookup x = some c -> env.cells.lookup x = some c) ->
      ∃ cl, forIn l acc f = (pure cl : Sem _) /\ (∀ x c, cl.lookup x = some c -> env.cells.lookup x = some c) /\
        (∀ x, ((∃ c, acc.lookup x = some c) \/ (x, NameKind.free) ∈ l) -> ∃ c, cl.lookup x = some c)
  | [], acc, _, ha => ⟨acc, rfl, ha, fun x hx => hx.elim id (fun z => nomatch z)⟩
  | (n, k) :: l, acc, hl, ha => by
    have hl' : ∀ x ∈ l, x.2 = .free -> ∃ c, env.cells.lookup x.1 = some c := fun x hx => hl x (List.mem_cons_of_mem _ hx)
    by_cases hk : k = .free
    · subst hk
      obtain ⟨c, hc⟩ := hl (n, .free) List.mem_cons_self rfl
      have hc' : env.cells.lookup n = some c := hc
      have ha' : ∀ x c', ((n, c) :: acc).lookup x = some c' -> env.cells.lookup x = some c' := fun x c' hx => by
        rw [List.lookup_cons] at hx
        cases e : x == n with
        | true =>
          rw [e] at hx
          cases hx
          rw [eq_of_beq e]; exact hc'
        | false =>
          rw [e] at hx
          exact ha x c' hx
      obtain ⟨cl, e, a1, a2⟩ := zjs f h1 h2 l ((n, c) :: acc) hl' ha'
      refine ⟨cl, ?_, a1, fun x hx => a2 x ?_⟩
      · rw [List.forIn_cons, h2 n acc c hc', pure_bind]
        exact e
      · have here : ∀ c', acc.lookup x = some c' -> ∃ c'', ((n, c) :: acc).lookup x = some c'' := fun c' z => by
          rw [List.lookup_cons]
          cases e : x == n with
          | true => exact ⟨c, rfl⟩
          | false => exact ⟨c', z⟩
        rcases hx with ⟨c', z⟩ | hx
        · exact .inl (here c' z)
        · rcases List.mem_cons.mp hx with z | z
          · cases z
            refine .inl ⟨c, ?_⟩
            rw [List.lookup_cons, beq_self_eq_true]
          · exact .inr z
    · obtain ⟨cl, e, a1, a2⟩ := zjs f h1 h2 l acc hl' ha
      refine ⟨cl, ?_, a1, fun x hx => a2 x ?_⟩
      · rw [List.forIn_cons, h1 n k acc hk, pure_bind]
        exact e
      · rcases hx with hx | hx
        · exact .inl hx
        · rcases List.mem_cons.mp hx with z | z
          · cases z; exact absurd rfl hk
          · exact .inr z
theorem zsb {scope : Scope} {env : Env} (h : ∀ x ∈ scope.names, x.2 = .free -> ∃ c, env.cells.lookup x.1 = some c) :
    ∃ cl, closureFor scope env = pure cl /\ (∀ x c, cl.lookup x = some c -> env.cells.lookup x = some c) /\ (∀ x, (x, NameKind.free) ∈ scope.names -> ∃ c, cl.lookup x = some c) := by
  unfold closureFor
  obtain ⟨cl, e, a1, a2⟩ := zjs (env := env) (fun (x : Str × NameKind) (r : List (Str × Addr)) => (match x with
      | (name, kind) => if (kind == NameKind.free) = true then (do let a <- cellOf env name; pure (ForInStep.yield ((name, a) :: r))) else (pure (ForInStep.yield r) : Sem _)))
    (fun n k r hk => by
      have : (k == NameKind.free) = false := by simpa using hk
      simp only [this, Bool.false_eq_true, if_false])
    (fun n r c hc => by
      simp only [beq_self_eq_true, if_true, cellOf, hc, pure_bind])
    scope.names [] h (fun x c z => by cases z)
  refine ⟨cl, ?_, a1, fun x hx => a2 x (.inr hx)⟩
  refine (congrArg (fun (t : Sem (List (Str × Addr))) => t >>= pure) ?_).trans ((congrArg (fun (t : Sem (List (Str × Addr))) => t >>= pure) e).trans (pure_bind _ _))
  rfl
section
variable {prog : Program} {w : World} {A : Around} {R : Result -> Shared -> Prop} {s : Shared}
noncomputable abbrev E00 : Value -> Shared -> Prop := fun _ _ => False
theorem zs7 {elt target iter : Expr} {ifs : List Expr} {scope : Scope} {pos : Pos} {it acc : Value} {env : Env} (I : Nat -> Shared -> Prop)
    (turn : ∀ n s, I n s -> wpAny (model prog w) A (pyNext it) (fun r s₁ => match r with
      | none => R (.ok .next) s₁
      | some v => wpAny (model prog w) A (letOwnedTupleGo target it v) (fun _ s₁' => wpAny (model prog w) A (assign target env v) (fun _ s₂ =>
          wpAny (model prog w) A (forIn ifs true fun c r => if r = true then do let ok <- isTrue c env (eval c env); pure (ForInStep.yield ok) else pure (ForInStep.yield r)) (fun ok s₃ =>
            if ok = true then wpAny (model prog w) A (eval elt env) (fun x s₄ =>
              wpAny (model prog w) A (call (.builtin "list.append") [acc, x]) (fun _ s₅ => ∃ m, m < n /\ I m s₅) E00 s₄) E00 s₃
            else ∃ m, m < n /\ I m s₃) E00 s₂) E00 s₁') E00 s₁) E00 s)
    (n : Nat) (h : I n s) :
    codeAny (model prog w) A (.compLoop (.ListComp elt [⟨target, iter, ifs, 0⟩] scope pos) 0 it acc env) R s := by
  refine codeAny_loop rfl I (fun n s hI => ?_) n h
  show wpAny _ A ((compTurn (.ListComp elt [⟨target, iter, ifs, 0⟩] scope pos) 0 it acc env).onRaise (fun x => do noteFrame x env; theTreesLotGoes x)) _ _ s
  refine wpAny_noted ?_
  rw [compTurn_list]
  refine wpAny_mono (E := E00) ?_ (fun _ _ z => z) (fun _ _ z => z.elim)
  refine wpAny_bind (wpAny_standAt (wpAny_bind (wpAny_mono (turn n s hI) (fun r s₁ h₁ => ?_) fun _ _ h' => h')))
  cases r with
  | none => exact wpAny_pure h₁
  | some v =>
    refine wpAny_bind (wpAny_mono h₁ (fun _ s₁' h₁' => ?_) fun _ _ h' => h')
    refine wpAny_bind (wpAny_mono h₁' (fun _ s₂ h₂ => wpAny_bind (wpAny_mono h₂ (fun ok s₃ h₃ => ?_) fun _ _ h' => h')) fun _ _ h' => h')
    cases ok with
    | false => exact wpAny_pure ⟨rfl, h₃⟩
    | true =>
      exact wpAny_bind (wpAny_bind (wpAny_mono h₃ (fun x s₄ h₄ => wpAny_bind (wpAny_mono h₄ (fun _ s₅ h₅ => wpAny_pure (wpAny_pure ⟨rfl, h₅⟩)) fun _ _ h' => h')) fun _ _ h' => h'))
end
end L2
namespace L2
open PySem PySem.Spec PyProof.Rows
noncomputable abbrev Cx.comp (X : Cx) (scope : Scope) (Nc : List Str) (cl : List (Str × Addr)) (C : Addr) (ex : List Addr) (s₂ : Shared) (H₂ : Hp) : Cx :=
  { X with N := Nc, s₀ := s₂, H₀ := H₂, env := compEnvC scope cl C X.env, outer := X.stack, ex := ex, fn := fun _ => false, pn := [], xe := E00 }
theorem zjx {env : Env} : ∀ {names : List (Str × NameKind)} {x : Str}, names.lookup x = some .free ->
    (names.map fun (n, k) => if (k == NameKind.free && env.scope.kind == .function && env.kindOf n == some .cell) then (n, NameKind.cell) else (n, k)).lookup x = some .cell \/
    (names.map fun (n, k) => if (k == NameKind.free && env.scope.kind == .function && env.kindOf n == some .cell) then (n, NameKind.cell) else (n, k)).lookup x = some .free
  | [], _, h => by simp at h
  | (n, k) :: r, x, h => by
    have ih := @zjx env r x
    rw [List.map_cons]
    show List.lookup x ((if (k == NameKind.free && env.scope.kind == .function && env.kindOf n == some .cell) = true then (n, NameKind.cell) else (n, k)) :: _) = _ \/ List.lookup x ((if (k == NameKind.free && env.scope.kind == .function && env.kindOf n == some .cell) = true then (n, NameKind.cell) else (n, k)) :: _) = _
    rw [List.lookup_cons] at h
    cases hx : x == n with
    | true =>
      rw [hx] at h
      cases h
      split
      · left; rw [List.lookup_cons, hx]
      · right; rw [List.lookup_cons, hx]
    | false =>
      rw [hx] at h
      split
      · rw [List.lookup_cons, hx]; exact ih h
      · rw [List.lookup_cons, hx]; exact ih h
theorem zj8 {env : Env} {k' : NameKind} (hk' : k' = .cell \/ k' = .free) : ∀ {names : List (Str × NameKind)} {x : Str},
    (names.map fun (n, k) => if (k == NameKind.free && env.scope.kind == .function && env.kindOf n == some .cell) then (n, NameKind.cell) else (n, k)).lookup x = some k' ->
    (x, NameKind.free) ∈ names \/ (x, NameKind.cell) ∈ names
  | [], _, h => by simp at h
  | (n, k) :: r, x, h => by
    have ih := @zj8 env k' hk' r x
    rw [List.map_cons] at h
    have h' : List.lookup x ((if (k == NameKind.free && env.scope.kind == .function && env.kindOf n == some .cell) = true then (n, NameKind.cell) else (n, k)) :: (r.map fun (n, k) => if (k == NameKind.free && env.scope.kind == .function && env.kindOf n == some .cell) then (n, NameKind.cell) else (n, k))) = some k' := h
    cases hx : x == n with
    | true =>
      have e := eq_of_beq hx
      subst e
      split at h'
      · rename_i hc
        have hk : k = .free := by
          rw [Bool.and_eq_true, Bool.and_eq_true] at hc
          exact eq_of_beq hc.1.1
        subst hk
        exact .inl List.mem_cons_self
      · rw [List.lookup_cons, hx] at h'
        have e : k = k' := Option.some.inj h'
        subst e
        rcases hk' with z | z
        · subst z; exact .inr List.mem_cons_self
        · subst z; exact .inl List.mem_cons_self
    | false =>
      have h2 : (r.map fun (n, k) => if (k == NameKind.free && env.scope.kind == .function && env.kindOf n == some .cell) then (n, NameKind.cell) else (n, k)).lookup x = some k' := by
        split at h' <;> (rw [List.lookup_cons, hx] at h'; exact h')
      rcases ih h2 with z | z
      · exact .inl (List.mem_cons_of_mem _ z)
      · exact .inr (List.mem_cons_of_mem _ z)
noncomputable def zf8 (scope : Scope) (outer : List (Str × NameKind)) (N Nc : List Str) (k : Nat) (js : List Nat) : Bool :=
  scope.names.all (fun x => (x.2 != .free || outer.lookup x.1 == some .cell || outer.lookup x.1 == some .free) && x.2 != .cell && (x.2 != .local || scope.names.lookup x.1 == some .local)) &&
  scope.kind == .function && Nc.length == k + js.length &&
  (List.range js.length).all (fun i => match Nc[k + i]?, js[i]? with
    | some x, some j => N[j]? == some x && scope.names.lookup x == some .free
    | _, _ => false)
structure zis (scope : Scope) (outer : List (Str × NameKind)) (N Nc : List Str) (k : Nat) (js : List Nat) : Prop where
  free : ∀ x ∈ scope.names, x.2 = .free -> outer.lookup x.1 = some .cell \/ outer.lookup x.1 = some .free
  nocell : ∀ x ∈ scope.names, x.2 ≠ .cell
  loc : ∀ x ∈ scope.names, x.2 = .local -> scope.names.lookup x.1 = some .local
  kind : scope.kind = .function
  len : Nc.length = k + js.length
  at' : ∀ i j, js[i]? = some j -> ∃ x, Nc[k + i]? = some x /\ N[j]? = some x /\ scope.names.lookup x = some .free
theorem zis.of {scope : Scope} {outer : List (Str × NameKind)} {N Nc : List Str} {k : Nat} {js : List Nat} (h : zf8 scope outer N Nc k js = true) : zis scope outer N Nc k js := by
  unfold zf8 at h
  rw [Bool.and_eq_true, Bool.and_eq_true, Bool.and_eq_true] at h
  obtain ⟨⟨⟨h1, h2⟩, h3⟩, h4⟩ := h
  rw [List.all_eq_true] at h1 h4
  refine ⟨fun x hx e => ?_, fun x hx e => ?_, fun x hx e => ?_, eq_of_beq h2, eq_of_beq h3, fun i j e => ?_⟩
  · have := h1 x hx
    simp only [Bool.and_eq_true, Bool.or_eq_true, bne_iff_ne, beq_iff_eq] at this
    rcases this.1.1 with (z | z) | z
    · exact absurd e z
    · exact .inl z
    · exact .inr z
  · have := h1 x hx
    simp only [Bool.and_eq_true, Bool.or_eq_true, bne_iff_ne, beq_iff_eq] at this
    exact this.1.2 e
  · have := h1 x hx
    simp only [Bool.and_eq_true, Bool.or_eq_true, bne_iff_ne, beq_iff_eq] at this
    rcases this.2 with z | z
    · exact absurd e z
    · exact z
  · have hi : i < js.length := (List.getElem?_eq_some_iff.mp e).1
    have := h4 i (List.mem_range.mpr hi)
    rw [e] at this
    cases q : Nc[k + i]? with
    | none => rw [q] at this; cases this
    | some x =>
      rw [q] at this
      simp only [Bool.and_eq_true, beq_iff_eq] at this
      exact ⟨x, rfl, this.1, this.2⟩
noncomputable def zc1 (k : Nat) (js : List Nat) (σ : St) : St := List.replicate k none ++ js.map fun j => (σ[j]?).getD none
noncomputable def PTs (X : Cx) (ifs : List Expr) (t : TT) : Prop :=
  ∀ (pins : List (Addr × Obj)) (s : Shared) (σ : St) (H : Hp) (Q : Bool -> Hp -> Prop), Inv X pins σ H s -> t σ H Q ->
    wpAny (model X.prog X.w) X.A (forIn ifs true fun c r => if r = true then do let ok <- isTrue c X.env (eval c X.env); pure (ForInStep.yield ok) else pure (ForInStep.yield r)) (TP X pins σ Q) X.xe s
noncomputable def zvi : TT := fun _ H Q => Q true H
theorem zrf {X : Cx} : PTs X [] zvi := fun _ _ _ H _ I h => wpAny_tests_nil ⟨H, I, h⟩
noncomputable def zlc (J : It) (g : TG) (tt : TT) (te : TE) (σ0 : St) (H1 : Hp) (Q : VK) : Prop :=
  ∃ W : Nat -> Nat -> List V -> St -> Hp -> Prop, (∃ m, W 0 m [] σ0 H1) /\ ∀ i m ys σ' H', W i m ys σ' H' ->
    (J.stop i H' /\ ys.length <= sizeLine /\ ∀ D, H1 D = none -> H' D = none -> Q (.ref D) (upd H' D (.lst ys))) \/
    (J.go i H' /\ ys.length <= sizeLine /\ ∃ N : List V -> St -> Hp -> Prop, (∀ ys' σ2 H2, N ys' σ2 H2 -> ∃ m', m' < m /\ W (i + 1) m' ys' σ2 H2) /\
      ∀ x H2, J.yld i H' x H2 -> g x σ' H2 fun σ3 H3 => tt σ3 H3 fun b H4 => if b = true then te σ3 H4 fun y H5 => N (ys ++ [y]) σ3 H5 else N ys σ3 H4)
noncomputable def zky (k : Nat) (js : List Nat) (wi : TI) (g : TG) (tt : TT) (te : TE) : TE := fun σ H Q => wi σ H fun J H1 => zlc J g tt te (zc1 k js σ) H1 Q
section
variable {X : Cx} {elt tg iter : Expr} {ifs : List Expr} {scope : Scope} {pos : Pos} {Nc : List Str} {k : Nat} {js : List Nat} {wi : TI} {g : TG} {tt : TT} {te : TE}
noncomputable abbrev zci (us : List Value) (n : Nat) : Obj := { cls := .type "list", data := .seq us.toArray n }
theorem zw7 {pins : List (Addr × Obj)} {σ : St} {H2 : Hp} {s2 : Shared} {it : Addr} {fp : List Addr} {tn : Nat -> Heap -> Prop} {J : It} {cl : List (Str × Addr)} {Q : VK} {RR : Value -> Addr -> Result -> Shared -> Prop} {E : Value -> Shared -> Prop}
    (hc : X.calm = true) (ck : zis scope X.env.scope.names X.N Nc k js)
    (hg : ∀ cl C ex s₂ H₂, PG (X.comp scope Nc cl C ex s₂ H₂) tg g) (ht : ∀ cl C ex s₂ H₂, PTs (X.comp scope Nc cl C ex s₂ H₂) ifs tt) (he : ∀ cl C ex s₂ H₂, PE (X.comp scope Nc cl C ex s₂ H₂) elt te)
    (a1 : ∀ x c, cl.lookup x = some c -> X.env.cells.lookup x = some c) (a2 : ∀ x, (x, NameKind.free) ∈ scope.names -> ∃ c, cl.lookup x = some c)
    (I2 : Inv X pins σ H2 s2) (T : zef X.prog X.w X.K tg J fp it tn) (st2 : tn 0 s2.heap) (f2 : ∀ b ∈ fp, zcu X pins H2 b) (hW : zlc J g tt te (zc1 k js σ) H2 Q)
    (hRR : ∀ (D C : Addr) (s' : Shared) (H' : Hp), Inv X pins σ H' s' -> (∃ m, s'.heap.Ns C m) -> zcu X pins H' C -> Q (.ref D) H' -> RR (.ref D) C (.ok .next) s') :
    wpAny (model X.prog X.w) X.A (newList []) (fun acc s₃ => wpAny (model X.prog X.w) X.A (newFunctionEnv scope X.env.globals cl [] X.env.qual none .none (some X.env)) (fun cenv s₄ =>
      codeAny (model X.prog X.w) X.A (.compStart (.ListComp elt [⟨tg, iter, ifs, 0⟩] scope pos) 0 (.ref it) acc { cenv with scope := relabel scope X.env }) (RR acc cenv.locals) s₄) E s₃) E s2 := by
  obtain ⟨W, ⟨m0, w0⟩, turn⟩ := hW
  refine wpAny_newObj_type (wpAny_newFunctionEnv ck.nocell (by intro y hy; simp at hy) (fun h₁ hns₁ hsb₁ => ?_) ck.kind)
  dsimp only at hns₁ hsb₁ ⊢
  generalize hP : s2.heap.push { cls := .type "list", dict := none, data := .seq ([] : List Value).toArray } = P at hns₁ hsb₁ ⊢
  generalize hD : s2.heap.objs.size = D at hP hns₁ hsb₁ ⊢
  have hCs : P.objs.size = D + 1 := by rw [<- hP, Heap.size_push, hD]
  generalize hC : P.objs.size = C at hCs hns₁ hsb₁ ⊢
  have hDC' : D < C := by rw [hCs]; exact Nat.lt_succ_self _
  have hDC : D ≠ C := Nat.ne_of_lt hDC'
  have below : ∀ b o, s2.heap.get? b = some o -> b < D := fun b o e => hD ▸ Heap.lt_size e
  have old : ∀ b o, s2.heap.get? b = some o -> h₁.get? b = some o := fun b o e => by
    have hb := below b o e
    exact hsb₁.extBut b o (Nat.ne_of_lt (Nat.lt_trans hb hDC')) (Heap.get?_push_of_some _ (hP ▸ Heap.get?_push_of_some _ e))
  have hDo : h₁.get? D = some (zci [] 0) := hsb₁.extBut _ _ hDC (Heap.get?_push_of_some _ (by rw [<- hP, <- hD]; exact Heap.get?_push_size _ rfl))
  have Hn : ∀ b, D <= b -> H2 b = none := fun b hb => I2.hok.fresh (by omega)
  have fpo : ∀ b ∈ fp, b < D := fun b hb => by obtain ⟨o, e, _⟩ := T.obj 0 _ st2 b hb; exact below b o e
  have clo : ∀ x c, cl.lookup x = some c -> c < D := fun x c e => by
    obtain ⟨v, o, ho, _⟩ := I2.cell x c (a1 x c e)
    exact below c o ho
  have stko : ∀ b ∈ frs X.stack, b < D := fun b hb => by
    obtain ⟨_, o, ho, _⟩ := I2.stack.mem hb
    exact below b o ho
  let Y : Cx := X.comp scope Nc cl C fp s2 H2
  have yk : Y.Ok := by
    refine ⟨I2.ok.mod, ck.kind, I2.ok.glob, I2.ok.blt, ?_, ?_, ?_, ?_, I2.ok.hd, I2.ok.frames, .inl rfl, ?_, I2.bs, ?_, ?_, ?_, I2.stack, I2.stkFree⟩
    · show s2.heap.objs.size <= C
      omega
    · exact fun x y c h1 h2 => I2.ok.inj x y c (a1 x c h1) (a1 y c h2)
    · intro x hx
      have : (x, NameKind.free) ∈ scope.names \/ (x, NameKind.cell) ∈ scope.names := by
        rcases hx with hx | hx
        · exact zj8 (.inl rfl) hx
        · exact zj8 (.inr rfl) hx
      rcases this with z | z
      · exact a2 x z
      · exact absurd rfl (ck.nocell _ z)
    · exact fun x c z => nomatch z
    · intro b hb
      refine ⟨?_, fun x c e => ?_⟩
      · exact Nat.ne_of_lt (Nat.lt_trans (fpo b hb) hDC')
      · exact (f2 b hb).2.2.2.2.1 x c (a1 x c e)
    · exact Nat.le_trans I2.ok.bsz I2.sz
    · intro b o e hb
      rcases (f2 b hb).2.2.2.1 with z | z
      · exact I2.ok.noex b o e z
      · exact absurd (Nat.lt_of_lt_of_le (Heap.lt_size e) (Nat.le_trans I2.ok.bsz z)) (Nat.lt_irrefl _)
    · intro b hb z
      rcases List.mem_cons.mp (I2.stkSub b z) with e | e
      · exact (f2 b hb).2.1 e
      · exact (f2 b hb).2.2.1 e
  have I4 : Inv Y [(D, zci [] 0)] (zc1 k js σ) H2 { s2 with heap := h₁, toks := s2.toks + ([] : List (Str × Value)).length } := by
    refine ⟨yk, rfl, I2.bare, Un.kept old, ⟨_, hns₁, fun i x v e1 e2 e3 => ?_⟩, fun x c e => ?_, Hn C (by omega), fun x c e => I2.freeC x c (a1 x c e), fun p hp => ?_, I2.hok.kept old, ?_⟩
    · have e1 : Nc[i]? = some x := e1
      unfold zc1 at e2
      have hik : k <= i := by
        rcases Nat.lt_or_ge i k with z | z
        · rw [List.getElem?_append_left (by simpa using z), List.getElem?_replicate] at e2
          simp [z] at e2
        · exact z
      rw [List.getElem?_append_right (by simpa using hik), List.getElem?_map] at e2
      simp only [List.length_replicate] at e2
      cases q : js[i - k]? with
      | none => rw [q] at e2; cases e2
      | some j =>
        rw [q] at e2
        obtain ⟨x', q1, q2, q3⟩ := ck.at' _ _ q
        rw [show k + (i - k) = i by omega, e1] at q1
        cases q1
        have e2 : (σ[j]?).getD none = some v := Option.some.inj e2
        have e2' : σ[j]? = some (some v) := by
          cases z : σ[j]? with
          | none => rw [z] at e2; cases e2
          | some y => rw [z] at e2; rw [show y = some v from e2]
        have hmem : (x, NameKind.free) ∈ scope.names := by
          have : ∀ l : List (Str × NameKind), l.lookup x = some .free -> (x, NameKind.free) ∈ l := by
            intro l
            induction l with
            | nil => intro z; cases z
            | cons a l ih =>
              intro z
              obtain ⟨n, kk⟩ := a
              rw [List.lookup_cons] at z
              cases hb : x == n with
              | true =>
                rw [hb] at z
                cases z
                rw [eq_of_beq hb]; exact List.mem_cons_self
              | false => rw [hb] at z; exact List.mem_cons_of_mem _ (ih z)
          exact this _ q3
        have hout : X.env.kindOf x = some .cell \/ X.env.kindOf x = some .free := ck.free _ hmem rfl
        obtain ⟨m, hn, hl⟩ := I2.loc
        have vis : Vis X.env.scope x := by
          rcases hout with z | z
          · exact .inr (.inl z)
          · exact .inr (.inr z)
        obtain ⟨u, r, l⟩ := hl j x v q2 e2' vis
        refine ⟨u, r, .inr ⟨zjx q3, ?_⟩⟩
        rcases l with ⟨z, _⟩ | ⟨_, c, hcl, hcell⟩
        · rcases hout with y | y <;> (rw [y] at z; cases z)
        · obtain ⟨c', hc'⟩ := a2 x hmem
          have := a1 x c' hc'
          rw [hcl] at this
          cases this
          exact ⟨c, hc', hcell.keeps old⟩
    · obtain ⟨v, z⟩ := I2.cell x c (a1 x c e)
      exact ⟨v, z.keeps old⟩
    · have hp : p ∈ [(D, zci [] 0)] := (List.mem_append.mp hp).elim (fun z => nomatch (show p ∈ ([] : List (Addr × Obj)) from z)) id
      have hp : p = (D, zci [] 0) := List.mem_singleton.mp hp
      subst hp
      refine ⟨hDo, Hn D (Nat.le_refl _), hDC, fun z => ?_, fun v z => by cases z⟩
      exact absurd (stko D z) (Nat.lt_irrefl _)
    · show (zc1 k js σ).length = Nc.length
      rw [ck.len]
      simp [zc1]
  have st1 : tn 0 h₁ := T.keep 0 _ _ st2 fun b _ o e => old b o e
  have fpY : ∀ {H' : Hp} {p : List (Addr × Obj)}, (∀ q ∈ p, q.1 = D) -> (∀ b ∈ fp, H' b = none) -> ∀ b ∈ fp, zcu Y p H' b := fun {H' p} hp hn b hb => by
    refine ⟨hn b hb, (yk.exf b hb).1, yk.exfs b hb, .inl hb, fun x c e => (yk.exf b hb).2 x c e, fun q hq => ?_⟩
    have hq : q ∈ p := (List.mem_append.mp hq).elim (fun z => nomatch (show q ∈ ([] : List (Addr × Obj)) from z)) id
    rw [hp q hq]
    exact Nat.ne_of_gt (fpo b hb)
  have loop : codeAny (model X.prog X.w) X.A (.compLoop (.ListComp elt [⟨tg, iter, ifs, 0⟩] scope pos) 0 (.ref it) (.ref D) (compEnvC scope cl C X.env)) (RR (.ref D) C) { s2 with heap := h₁, toks := s2.toks + ([] : List (Str × Value)).length } := by
    refine zs7 (fun n s' => ∃ i ys us nn σ' H', Inv Y [(D, zci us nn)] σ' H' s' /\ tn i s'.heap /\ (∀ b ∈ fp, H' b = none) /\ zae ys us /\ W i n ys σ' H') ?_ m0
      ⟨0, [], [], 0, zc1 k js σ, H2, I4, st1, fun b hb => (f2 b hb).1, .nil, w0⟩
    rintro n s3 ⟨i, ys, us, nn, σ3, H3, I3, st3, fr3, rv, w3⟩
    have one : ∀ q ∈ [(D, zci us nn)], q.1 = D := fun q hq => by
      have : q = (D, zci us nn) := by simpa using hq
      rw [this]
    rcases turn i n ys σ3 H3 w3 with ⟨stop, hz, qn⟩ | ⟨go, hz, N, hN, step⟩
    · refine thn (T.done Y rfl rfl rfl hc i _ s3 σ3 H3 E00 I3 (fpY one fr3) st3 stop) fun r s4 ⟨hr, I5⟩ => ?_
      subst hr
      show RR (.ref D) C (.ok .next) s4
      obtain ⟨pD, nD, _, _, _⟩ := I5.pin (D, zci us nn) (by simp)
      have bs : Un (frs X.stack) fp H2 H3 s2.heap s4.heap := I5.base
      have h2D : ∀ b o, H2 b = some o -> b ≠ D := fun b o e z => by rw [z, Hn D (Nat.le_refl _)] at e; cases e
      have I6 : Inv X pins σ (upd H3 D (.lst ys)) s4 := by
        refine I2.call' (ch := fp) I5.os ⟨bs.keep, bs.slot, fun b o e n hx => ?_, bs.there, fun b xs e => ?_, fun b o u e => ?_, fun b ps e => ?_⟩ (fun b u e => ?_) I5.bare fun b hb => ?_
        · rw [zag (Nat.ne_of_lt (below b o e))]
          exact bs.free b o e n hx
        · rw [zag (h2D b _ e)]; exact bs.tups b xs e
        · rw [zag (h2D b _ e)]; exact bs.frzs b o u e
        · rw [zag (h2D b _ e)]; exact bs.tbls b ps e
        · by_cases hb : b = D
          · subst hb
            rw [zan] at e
            cases e
            exact ⟨hz, us, nn, rv, pD⟩
          · rw [zag hb] at e
            exact (I5.hok b u e).stay (fun c v _ q => q) (fun c q => by rw [zag (zbh q nD)]; exact q) fun c xs q => by rw [zag (zbh q nD)]; exact q
        · obtain ⟨_, f1, _, f3, f4, f5⟩ := f2 b hb
          exact ⟨f3, f1, f4, f5⟩
      obtain ⟨m, hn, _⟩ := I5.loc
      refine hRR D C s4 _ I6 ⟨m, hn⟩ (I2.fpOk (by omega) ?_) (qn D (Hn D (Nat.le_refl _)) nD)
      rw [zag hDC.symm]
      exact I5.free
    · refine thn (T.item Y rfl rfl rfl hc i _ s3 σ3 H3 E00 I3 (fpY one fr3) st3 go) fun r s4 ⟨u, hr, h4⟩ => ?_
      subst hr
      refine thn h4 fun _ s5 ⟨x, H5, I5, r5, y5, st5, fr5⟩ => ?_
      have I5' := I5.pinned (fpY one fr5) (T.obj _ _ st5)
      refine thn (hg cl C fp s2 H2 _ s5 σ3 H5 x u _ I5' r5 (step x H5 y5)) fun _ s6 ⟨σ6, H6, I6, q6⟩ => ?_
      refine thn (ht cl C fp s2 H2 _ s6 σ6 H6 _ I6 q6) fun b s7 ⟨H7, I7, q7⟩ => ?_
      have kp : ∀ {H8 : Hp} {s8 : Shared}, Inv Y ([(D, zci us nn)] ++ zf7 fp s5.heap) σ6 H8 s8 -> tn (i + 1) s8.heap /\ (∀ b ∈ fp, H8 b = none) := fun {H8 s8} I8 => by
        refine ⟨T.keep _ _ _ st5 fun b hb o e => (I8.pin (b, o) (List.mem_append_right _ (List.mem_append_right _ (zh5 hb e)))).1, fun b hb => ?_⟩
        obtain ⟨o, e, d⟩ := T.obj _ _ st5 b hb
        exact (I8.pin (b, o) (List.mem_append_right _ (List.mem_append_right _ (zh5 hb e)))).2.1
      cases b with
      | false =>
        rw [if_neg Bool.false_ne_true] at q7 ⊢
        obtain ⟨m', hm, w7⟩ := hN _ _ _ q7
        obtain ⟨st7, fr7⟩ := kp I7
        exact ⟨m', hm, i + 1, ys, us, nn, σ6, H7, I7.unpinned, st7, fr7, rv, w7⟩
      | true =>
        rw [if_pos rfl] at q7 ⊢
        refine thn (he cl C fp s2 H2 _ s7 σ6 H7 _ I7 q7) fun uy s8 ⟨y, H8, I8, r8, q8⟩ => ?_
        obtain ⟨m', hm, w8⟩ := hN _ _ _ q8
        obtain ⟨st8, fr8⟩ := kp I8
        obtain ⟨pD, nD, pC, pF, _⟩ := I8.pin (D, zci us nn) (by simp)
        have hl := rv.length
        refine wpAny_list_append_plain (items := us.toArray) ⟨nn, pD⟩ (fun h' hl' sb => ?_) (by simp only [List.size_toArray] <;> omega)
        obtain ⟨n', e'⟩ := hl'
        have I8n : Inv Y [] σ6 H8 s8 := I8.pins_of (fun _ z => nomatch z)
        have I9 : Inv Y [] σ6 H8 { s8 with heap := h' } := I8n.turned (t' := s8.toks) (it := D) (fun b o hb e => (sb.2 b hb).trans e) nD pC (.inr (by show s2.heap.objs.size <= D; omega)) (fun x c e => Nat.ne_of_lt (clo x c e)) (fun p hp => nomatch hp)
        refine ⟨m', hm, i + 1, ys ++ [y], us ++ [uy], n', σ6, H8, I9.pins_of (fun p hp => ?_), ?_, fr8, rv.append (.cons r8 .nil), w8⟩
        · have hp : p = (D, zci (us ++ [uy]) n') := by simpa using hp
          subst hp
          refine ⟨?_, nD, pC, pF, fun v z => by cases z⟩
          have e2 : h'.get? D = some { cls := .type "list", data := .seq (us.toArray.push uy) n' } := e'
          show h'.get? D = some { cls := .type "list", data := .seq (us ++ [uy]).toArray n' }
          rw [e2]
          simp
        · exact T.keep _ _ _ st8 fun b hb o e => (sb.2 b (Nat.ne_of_lt (fpo b hb))).trans e
  exact codeAny_compStart_list loop (T.self X.A 0 _ _ _ st1 loop)
theorem zof (k : Nat) (js : List Nat) (Nc : List Str) (hc : X.calm = true) (hi : PI X tg iter wi)
    (hg : ∀ cl C ex s₂ H₂, PG (X.comp scope Nc cl C ex s₂ H₂) tg g) (ht : ∀ cl C ex s₂ H₂, PTs (X.comp scope Nc cl C ex s₂ H₂) ifs tt) (he : ∀ cl C ex s₂ H₂, PE (X.comp scope Nc cl C ex s₂ H₂) elt te)
    (ck : zf8 scope X.env.scope.names X.N Nc k js = true := by rfl) (hs : ∀ x, foldedSetIterable iter X.env x = pure x := by intro _; rfl) :
    PE X (.ListComp elt [⟨tg, iter, ifs, 0⟩] scope pos) (zky k js wi g tt te) := by
  intro pins s σ H Q I h
  have ck := zis.of ck
  rw [eval_ListComp]
  obtain ⟨cl, hcl, a1, a2⟩ := zsb (scope := scope) (env := X.env) fun x hx e => I.ok.has x.1 (ck.free x hx e)
  refine wpAny_comprehension_free (use := none) rfl hs hcl ck.kind ck.loc (thn (hi pins s σ H _ I h) fun v s1 h1 => thn h1 fun itv s2 h2 => ?_)
  obtain ⟨it, fp, tn, J, H2, e, I2, T, st2, f2, hW⟩ := h2
  subst e
  refine zw7 (RR := fun acc C => compPost (model X.prog X.w) X.A X.xe none (EP X pins σ Q) acc C) hc ck hg ht he a1 a2 I2 T st2 f2 hW fun D C s' H' I' ⟨m, hn⟩ fC q => ?_
  obtain ⟨f0, f1, _, f3, f4, f5⟩ := fC
  exact ⟨m, hn, fun h' hs' => ⟨.ref D, H', I'.turned (t' := s'.toks) (fun b o hb e => (hs'.2 b hb).trans e) f0 f1 f3 f4 f5, rfl, q⟩⟩
end
section
variable {K : PySem.W.Frag} {g : TG} {tt : TT} {te : TE} {σ0 : St} {H1 : Hp} {Q : VK}
end
end L2
namespace L2
open PySem PySem.Spec PyProof.Rows
section
variable {X : Cx}
theorem zrj : zbq X (.builtin "isinstance") (fun xs H Q => ∃ x T t b, xs = [x, .ty T] /\ zb2 X.K H x t /\ PySem.W.kitOne X.K t (.type T) = some b /\ Q (.bl b) H) := by
  intro pins s σ H xs us Q I r h
  obtain ⟨x, T, t, b, rfl, ty, e, q⟩ := h
  obtain ⟨u, w', rfl, rx, rc⟩ := zmb r
  cases (show w' = Value.type T from rc)
  exact zte I rx ty e fun tk => ⟨.bl b, H, I.tok tk, rfl, q⟩
theorem PE.or {e : Expr} {t t' : TE} (h : PE X e t) (h' : PE X e t') : PE X e (fun σ H Q => t σ H Q \/ t' σ H Q) := by
  intro pins s σ H Q I q
  rcases q with q | q
  · exact h pins s σ H Q I q
  · exact h' pins s σ H Q I q
end
theorem Paired.at' {α β : Type} {F : α -> β -> Prop} : ∀ {l₁ : List α} {l₂ : List β} {i : Nat} {a : α} {b : β}, Paired F l₁ l₂ -> l₁[i]? = some a -> l₂[i]? = some b -> F a b
  | _, _, _, _, _, .nil, e, _ => by simp at e
  | _, _, 0, _, _, .cons r _, e, e' => by simp at e e'; subst e e'; exact r
  | _, _, i + 1, a, b, .cons _ t, e, e' => Paired.at' (i := i) t (by simpa using e) (by simpa using e')
theorem zae.at' {xs : List V} {us : List Value} {i : Nat} {u : Value} (r : zae xs us) (e : us[i]? = some u) : ∃ x, xs[i]? = some x /\ zah x u := by
  have hl := r.length
  have hi : i < xs.length := by have := (List.getElem?_eq_some_iff.mp e).1; omega
  refine ⟨xs[i], by simp [hi], ?_⟩
  obtain ⟨u', e', r'⟩ := r.get (i := i) (x := xs[i]) (by simp [hi])
  rw [e] at e'; cases e'; exact r'
section
variable {X : Cx} {pins : List (Addr × Obj)} {σ : St} {H : Hp} {s : Shared}
end
end L2
namespace L2
open PySem PySem.Spec PyProof.Rows
theorem zew {env : Env} {k' : NameKind} (hk : k' ≠ .free) : ∀ {names : List (Str × NameKind)} {x : Str}, names.lookup x = some k' ->
    (names.map fun (n, k) => if (k == NameKind.free && env.scope.kind == .function && env.kindOf n == some .cell) then (n, NameKind.cell) else (n, k)).lookup x = some k'
  | [], _, h => by simp at h
  | (n, k) :: r, x, h => by
    have ih := @zew env k' hk r x
    rw [List.map_cons]
    show List.lookup x ((if (k == NameKind.free && env.scope.kind == .function && env.kindOf n == some .cell) = true then (n, NameKind.cell) else (n, k)) :: _) = _
    rw [List.lookup_cons] at h
    cases hx : x == n with
    | true =>
      rw [hx] at h
      have e : k = k' := Option.some.inj h
      subst e
      have hf : (k == NameKind.free) = false := by simpa using hk
      rw [hf, Bool.false_and, Bool.false_and, if_neg Bool.false_ne_true, List.lookup_cons, hx]
    | false =>
      rw [hx] at h
      split
      · rw [List.lookup_cons, hx]; exact ih h
      · rw [List.lookup_cons, hx]; exact ih h
theorem zt5 {env : Env} {scope : Scope} {x : Str} (h : Vis scope x) : Vis (relabel scope env) x := by
  rcases h with h | h | h
  · exact .inl (zew (by decide) h)
  · exact .inr (.inl (zew (by decide) h))
  · rcases zjx (env := env) h with z | z
    · exact .inr (.inl z)
    · exact .inr (.inr z)
section
variable {X : Cx} {scope : Scope} {Nc : List Str} {cl : List (Str × Addr)} {C : Addr} {ex : List Addr} {s₂ : Shared} {H₂ : Hp}
theorem pvc (i : Nat) {x : Str} {pos : Pos} (hN : Nc[i]? = some x := by rfl) (hv : Vis scope x := by first | exact Or.inl rfl | exact Or.inr (Or.inl rfl) | exact Or.inr (Or.inr rfl)) (hd : (x == ("__debug__" : Str)) = false := by decide)
    (hcd : (x == ("__classdict__" : Str)) = false := by decide) : PE (X.comp scope Nc cl C ex s₂ H₂) (.Name x pos) (zbt i) := zc4 hN (zt5 hv) hd hcd
theorem pgc (i : Nat) {x : Str} {pos : Pos} (hN : Nc.Nodup := by decide +kernel) (hi : Nc[i]? = some x := by rfl) (hl : scope.names.lookup x = some .local := by rfl) : PG (X.comp scope Nc cl C ex s₂ H₂) (.Name x pos) (ze7 i) :=
  zlw (X := X.comp scope Nc cl C ex s₂ H₂) hN hi (.inl (zew (by decide) hl)) (.inr (zew (by decide) hl))
theorem glc {x : Str} (h : scope.names.lookup x = some .globalImplicit) : Gl (X.comp scope Nc cl C ex s₂ H₂) x := zew (env := X.env) (by decide) h
end
theorem zai {H : Hp} {p : Addr} {o : HO} (h : H p = none) : zac H (upd H p o) := fun b u e => by rw [zag (zbh e h)]; exact e
theorem zac.tup {K : PySem.W.Frag} {H H' : Hp} {a : Addr} {xs : List V} (e : zac H H') (h : SqT K H a xs) : SqT K H' a xs := by
  rcases h with (h | ⟨o, h⟩) | h
  · exact .inl (.inl (e _ _ h))
  · exact .inl (.inr ⟨o, e _ _ h⟩)
  · exact .inr h
noncomputable def zch (p : Addr) (H H' : Hp) : Prop := ∀ b o, H b = some o -> b ≠ p -> H' b = some o
theorem zch.refl (p : Addr) (H : Hp) : zch p H H := fun _ _ h _ => h
theorem zch.trans {p : Addr} {H H1 H2 : Hp} (a : zch p H H1) (b : zch p H1 H2) : zch p H H2 := fun c o h n => b c o (a c o h n) n
theorem zac.grow {p : Addr} {H H' : Hp} (a : zac H H') : zch p H H' := fun c o h _ => a c o h
theorem zch.same {p : Addr} {H H' : Hp} (a : zch p H H') (h : H p = none) : zac H H' := fun c o e => a c o e (zbh e h)
theorem zch.seq {K : PySem.W.Frag} {p : Addr} {H H' : Hp} {a : Addr} {xs : List V} (e : zch p H H') (n : a ≠ p) (h : SqL K H a xs) : SqL K H' a xs := by
  rcases h with (h | ⟨o, h⟩) | h
  · exact .inl (.inl (e _ _ h n))
  · exact .inl (.inr ⟨o, e _ _ h n⟩)
  · exact .inr h
noncomputable def zgg (K : PySem.W.Frag) (H : Hp) (L : Addr) (its : List (Int × Int)) : Prop :=
  ∃ zs : List (Addr × Int × Int), SqL K H L (zs.map fun z => V.ref z.1) /\ (∀ z ∈ zs, SqT K H z.1 [.int z.2.1, .int z.2.2]) /\ its = zs.map (·.2) /\ zs.length <= 1000
theorem zac.items {K : PySem.W.Frag} {H H' : Hp} {L : Addr} {its : List (Int × Int)} (e : zac H H') (h : zgg K H L its) : zgg K H' L its := by
  obtain ⟨zs, h1, h2, h3, h4⟩ := h
  exact ⟨zs, e.seq h1, fun z hz => e.tup (h2 z hz), h3, h4⟩
noncomputable def InR (n : Nat) (its : List (Int × Int)) : Prop := ∀ z ∈ its, 0 <= z.1 /\ z.1 < (n : Int)
noncomputable def zou (p : Option Bool -> Bool) (es : List (Option Bool)) (its : List (Int × Int)) : Int := ((its.filter fun z => p (es.getD z.1.toNat none)).map (·.2)).sum
inductive Prt where
  | inn (t : Int) | out (t : Int) | least (k : Int) (its : List (Int × Int)) | most (k : Int) (its : List (Int × Int))
noncomputable def Prt.InR (n : Nat) : Prt -> Prop
  | .inn t => 0 <= t /\ t < (n : Int)
  | .out t => 0 <= t /\ t < (n : Int)
  | .least _ its => L2.InR n its
  | .most _ its => L2.InR n its
noncomputable def zpe (K : PySem.W.Frag) (H : Hp) (p : Addr) : Prt -> Prop
  | .inn t => SqT K H p [.str "in", .int t]
  | .out t => SqT K H p [.str "out", .int t]
  | .least k its => ∃ L, SqT K H p [.str "least", .int k, .ref L] /\ zgg K H L its
  | .most k its => ∃ L, SqT K H p [.str "most", .int k, .ref L] /\ zgg K H L its
noncomputable def bs (l : List Bool) : List (Option Bool) := l.map some
noncomputable def Prt.holds (rs ws : List Bool) : Prt -> Bool
  | .inn t => (rs.getD t.toNat false)
  | .out t => !(ws.getD t.toNat false)
  | .least k its => decide (k <= zou (· == some true) (bs rs) its)
  | .most k its => decide (zou (· == some true) (bs ws) its <= k)
end L2
namespace L2
open PySem PySem.Spec PyProof.Rows
section
variable {X : Cx} {pins : List (Addr × Obj)} {σ : St} {H : Hp} {s : Shared} {h' : Heap}
theorem Inv.turnedMany {t' : Nat} {ch : List Addr} (I : Inv X pins σ H s) (k : ∀ b o, b ∉ ch -> s.heap.get? b = some o -> h'.get? b = some o) (hf : ∀ b ∈ ch, zcu X pins H b) : Inv X pins σ H { s with heap := h', toks := t' } := by
  refine I.step (g' := s.gens) (d' := s.drawn) (ch := ch) (fun b hb => ?_) (fun b o _ _ hc e _ => k b o hc e) (fun b o _ _ hc e _ => ⟨o.slots, k b o hc e⟩) (fun _ _ _ _ n => n)
    (fun b o hc e => ⟨o, k b o hc e⟩) (fun _ _ e => e) (fun _ _ _ e => e) (fun b ps e => ⟨#[], by rw [e]; simp⟩) (fun m hm => ?_) (fun b u e => ?_) I.bare
  · obtain ⟨_, f1, _, f3, f4, f5⟩ := hf b hb
    exact ⟨f3, f1, f4, f5⟩
  · obtain ⟨o, es, ep, ho, r⟩ := hm
    exact ⟨o, es, ep, k _ o (fun z => (hf _ z).2.1 rfl) ho, r⟩
  · refine (I.hok b u e).stay (fun c v hc q => k c v (fun z => ?_) q) (fun _ q => q) fun _ _ q => q
    have hn := (hf c z).1
    rcases hc with y | y
    · rw [y, e] at hn; cases hn
    · rw [hn] at y; cases y
theorem Inv.track {p : Addr} {o : HO} (I : Inv X pins σ H s) (f : zcu X pins H p) (ob : za0 X.prog X.w (upd H p o) s.heap p o) : Inv X pins σ (upd H p o) s := by
  obtain ⟨f0, f1, f2, f3, f4, f5⟩ := f
  have ne : ∀ b u, H b = some u -> b ≠ p := fun b u e => zbh e f0
  have one : ∀ b : Addr, b ∉ [p] -> b ≠ p := fun b hb z => hb (by rw [z]; simp)
  refine I.step (g' := s.gens) (d' := s.drawn) (t' := s.toks) (h' := s.heap) (ch := [p]) (fun b hb => ?_) (fun b o _ _ hc e _ => e) (fun b o _ _ hc e _ => ⟨o.slots, e⟩) (fun b o hc e n => ?_)
    (fun b o hc e => ⟨o, e⟩) (fun b xs e => ?_) (fun b o u e => ?_) (fun b ps e => ⟨#[], ?_⟩) (fun m hm => hm) (fun b u e => ?_) I.bare
  · have e : b = p := by simpa using hb
    subst e
    exact ⟨f3, f1, f4, f5⟩
  · rw [zag (one b hc)]; exact n
  · rw [zag (ne b _ e)]; exact e
  · rw [zag (ne b _ e)]; exact e
  · rw [zag (ne b _ e), e]; simp
  · by_cases hb : b = p
    · subst hb
      rw [zan] at e
      cases e
      exact ob
    · rw [zag hb] at e
      exact (I.hok b u e).stay (fun c v _ q => q) (fun c q => by rw [zag (ne c _ q)]; exact q) fun c xs q => by rw [zag (ne c _ q)]; exact q
end
section
variable {X : Cx} {elts : List Expr} {kx : Nat} {tpos : Pos}
end
end L2
namespace L2
open PySem PySem.Spec PyProof.Rows
noncomputable def zht (L : Addr) (its : List (Int × Int)) (vs : List V) : Prt -> Prop
  | .inn t => vs = [.str "in", .int t]
  | .out t => vs = [.str "out", .int t]
  | .least k i => vs = [.str "least", .int k, .ref L] /\ i = its
  | .most k i => vs = [.str "most", .int k, .ref L] /\ i = its
theorem zht.at {K : PySem.W.Frag} {H : Hp} {L p : Addr} {its : List (Int × Int)} {vs : List V} {r : Prt} (t : zht L its vs r) (hp : H p = some (.tup vs)) (hL : zgg K H L its) : zpe K H p r := by
  cases r with
  | inn t' => cases t; exact SqT.of hp
  | out t' => cases t; exact SqT.of hp
  | least k i => obtain ⟨rfl, rfl⟩ := t; exact ⟨L, SqT.of hp, hL⟩
  | most k i => obtain ⟨rfl, rfl⟩ := t; exact ⟨L, SqT.of hp, hL⟩
structure zjf (Hb : Hp) (r L : Addr) (its : List (Int × Int)) (n : Nat) (rows : List (Addr × List V × Prt)) (H : Hp) : Prop where
  same : zac Hb H
  lst : H r = some (.lst (rows.map fun z => V.ref z.1))
  all : ∀ z ∈ rows, H z.1 = some (.tup z.2.1) /\ zht L its z.2.1 z.2.2 /\ z.2.2.InR n
theorem zjf.more {Hb H : Hp} {r L : Addr} {its : List (Int × Int)} {n : Nat} {rows : List (Addr × List V × Prt)} (R : zjf Hb r L its n rows H) (hr : Hb r = none) {p : Addr} (hp : H p = none) {vs : List V} {pr : Prt} (ht : zht L its vs pr) (hin : pr.InR n) :
    (upd H p (.tup vs)) r = some (.lst (rows.map fun z => V.ref z.1)) /\ zjf Hb r L its n (rows ++ [(p, vs, pr)]) (upd (upd H p (.tup vs)) r (.lst (rows.map (fun z => V.ref z.1) ++ [.ref p]))) /\
    (∀ b o, H b = some o -> b ≠ r -> (upd (upd H p (.tup vs)) r (.lst (rows.map (fun z => V.ref z.1) ++ [.ref p]))) b = some o) := by
  have nrp : r ≠ p := zbh R.lst hp
  refine ⟨by rw [zag nrp]; exact R.lst, ⟨fun b o e => ?_, ?_, fun z hz' => ?_⟩, fun b o e nb => ?_⟩
  · rw [zag (zbh e hr), zag (zbh (R.same _ _ e) hp)]
    exact R.same _ _ e
  · rw [zan, List.map_append]
    rfl
  · rcases List.mem_append.mp hz' with hz' | hz'
    · obtain ⟨h1, h2⟩ := R.all z hz'
      refine ⟨?_, h2⟩
      rw [zag (zsz h1 R.lst (by intro e; cases e)), zag (zbh h1 hp)]
      exact h1
    · have : z = (p, vs, pr) := by simpa using hz'
      subst this
      refine ⟨?_, ht, hin⟩
      rw [zag nrp.symm, zan]
  · rw [zag nb, zag (zbh e hp)]
    exact e
end L2
namespace L2
open PySem PySem.Spec PyProof.Rows
inductive D where
  | non
  | bl (b : Bool)
  | int (i : Int)
  | str (x : Str)
  | lst (xs : List D)
  | tup (xs : List D)
  | kl (xs : List D)
  | kt (xs : List D)
  | dic (ks : List Key) (xs : List D)
  | ins (c : Str) (ns : List Str) (xs : List D)
  | kd (ks : List Key) (xs : List D)
  deriving Inhabited
set_option genInjectivity false in
structure Gc where
  K : PySem.W.Frag
  cl : Str -> Addr
mutual
noncomputable def Rep (G : Gc) (H : Hp) : D -> V -> Prop
  | .non, v => v = .non
  | .bl b, v => v = .bl b
  | .int i, v => v = .int i
  | .str x, v => v = .str x
  | .lst ds, v => ∃ a vs, v = .ref a /\ H a = some (.lst vs) /\ zaa G H ds vs
  | .tup ds, v => ∃ a vs, v = .ref a /\ H a = some (.tup vs) /\ zaa G H ds vs
  | .kl ds, v => ∃ a vs, v = .ref a /\ SqL G.K H a vs /\ zaa G H ds vs
  | .kt ds, v => ∃ a vs, v = .ref a /\ SqT G.K H a vs /\ zaa G H ds vs
  | .dic ks ds, v => ∃ a vs, v = .ref a /\ H a = some (.dK (ks.zip vs)) /\ ks.length = vs.length /\ zaa G H ds vs
  | .ins c ns ds, v => ∃ a dx vs, v = .ref a /\ H a = some (.ins (G.cl c) dx (ns.zip vs)) /\ ns.length = vs.length /\ zaa G H ds vs
  | .kd ks ds, v => ∃ a od vs, v = .ref a /\ H a = some (.frz od (.dK (ks.zip vs))) /\ ks.length = vs.length /\ zaa G H ds vs
noncomputable def zaa (G : Gc) (H : Hp) : List D -> List V -> Prop
  | [], vs => vs = []
  | d :: ds, vs => ∃ v r, vs = v :: r /\ Rep G H d v /\ zaa G H ds r
end
section
variable {G : Gc} {H H' Hf Hf' : Hp}
mutual
theorem Rep.upM (s : zac H H') : ∀ (d : D) (v : V), Rep G H d v -> Rep G H' d v
  | .non, _, h => h
  | .bl _, _, h => h
  | .int _, _, h => h
  | .str _, _, h => h
  | .lst ds, _, ⟨a, vs, e, q, r⟩ => ⟨a, vs, e, s _ _ q, zaa.upM s ds vs r⟩
  | .tup ds, _, ⟨a, vs, e, q, r⟩ => ⟨a, vs, e, s _ _ q, zaa.upM s ds vs r⟩
  | .kl ds, _, ⟨a, vs, e, q, r⟩ => ⟨a, vs, e, s.seq q, zaa.upM s ds vs r⟩
  | .kt ds, _, ⟨a, vs, e, q, r⟩ => ⟨a, vs, e, s.tup q, zaa.upM s ds vs r⟩
  | .dic _ ds, _, ⟨a, vs, e, q, l, r⟩ => ⟨a, vs, e, s _ _ q, l, zaa.upM s ds vs r⟩
  | .ins _ _ ds, _, ⟨a, dx, vs, e, q, l, r⟩ => ⟨a, dx, vs, e, s _ _ q, l, zaa.upM s ds vs r⟩
  | .kd _ ds, _, ⟨a, od, vs, e, q, l, r⟩ => ⟨a, od, vs, e, s _ _ q, l, zaa.upM s ds vs r⟩
theorem zaa.upM (s : zac H H') : ∀ (ds : List D) (vs : List V), zaa G H ds vs -> zaa G H' ds vs
  | [], _, h => h
  | d :: ds, _, ⟨v, r, e, h1, h2⟩ => ⟨v, r, e, Rep.upM s d v h1, zaa.upM s ds r h2⟩
end
theorem Rep.up {d : D} {v : V} (r : Rep G H d v) (s : zac H H') : Rep G H' d v := Rep.upM s d v r
theorem zaa.up {ds : List D} {vs : List V} (r : zaa G H ds vs) (s : zac H H') : zaa G H' ds vs := zaa.upM s ds vs r
theorem zaa.nil : zaa G H [] [] := rfl
theorem zaa.cons {d : D} {ds : List D} {v : V} {vs : List V} (h : Rep G H d v) (t : zaa G H ds vs) : zaa G H (d :: ds) (v :: vs) := ⟨v, vs, rfl, h, t⟩
theorem zaa.length : ∀ {ds : List D} {vs : List V}, zaa G H ds vs -> ds.length = vs.length
  | [], _, h => by cases (show _ = [] from h); rfl
  | d :: ds, _, ⟨v, r, e, _, h⟩ => by subst e; simp [zaa.length h]
theorem zaa.append : ∀ {ds es : List D} {vs us : List V}, zaa G H ds vs -> zaa G H es us -> zaa G H (ds ++ es) (vs ++ us)
  | [], _, _, _, h, t => by cases (show _ = [] from h); exact t
  | d :: ds, _, _, _, ⟨v, r, e, h1, h2⟩, t => by subst e; exact ⟨v, r ++ _, rfl, h1, zaa.append h2 t⟩
theorem zaa.get : ∀ {ds : List D} {vs : List V} {i : Nat} {d : D}, zaa G H ds vs -> ds[i]? = some d -> ∃ v, vs[i]? = some v /\ Rep G H d v
  | [], _, _, _, _, e => by simp at e
  | d :: ds, _, 0, _, ⟨v, r, e, h1, _⟩, e' => by subst e; simp at e'; subst e'; exact ⟨v, rfl, h1⟩
  | d :: ds, _, i + 1, d', ⟨v, r, e, _, h2⟩, e' => by
    subst e
    obtain ⟨u, a, b⟩ := zaa.get (i := i) (d := d') h2 (by simpa using e')
    exact ⟨u, by simpa using a, b⟩
theorem zaa.get' : ∀ {ds : List D} {vs : List V} {i : Nat} {v : V}, zaa G H ds vs -> vs[i]? = some v -> ∃ d, ds[i]? = some d /\ Rep G H d v := fun {ds vs i v} h e => by
  have hl := h.length
  have hi : i < ds.length := by have := (List.getElem?_eq_some_iff.mp e).1; omega
  obtain ⟨u, a, b⟩ := h.get (i := i) (d := ds[i]) (by simp [hi])
  rw [e] at a; cases a
  exact ⟨ds[i], by simp [hi], b⟩
theorem zaa.ints : ∀ (ns : List Int), zaa G H (ns.map D.int) (ns.map V.int)
  | [] => rfl
  | n :: ns => ⟨_, _, rfl, rfl, zaa.ints ns⟩
theorem zaa.take : ∀ {ds : List D} {vs : List V} (n : Nat), zaa G H ds vs -> zaa G H (ds.take n) (vs.take n)
  | _, _, 0, _ => rfl
  | [], _, n + 1, h => by cases (show _ = [] from h); rfl
  | d :: ds, _, n + 1, ⟨v, r, e, h1, h2⟩ => by subst e; exact ⟨v, r.take n, rfl, h1, zaa.take n h2⟩
theorem zaa.drop : ∀ {ds : List D} {vs : List V} (n : Nat), zaa G H ds vs -> zaa G H (ds.drop n) (vs.drop n)
  | _, _, 0, h => h
  | [], _, n + 1, h => by cases (show _ = [] from h); rfl
  | d :: ds, _, n + 1, ⟨v, r, e, h1, h2⟩ => by subst e; exact zaa.drop n h2
theorem zaa.reverse : ∀ {ds : List D} {vs : List V}, zaa G H ds vs -> zaa G H ds.reverse vs.reverse
  | [], _, h => by cases (show _ = [] from h); rfl
  | d :: ds, _, ⟨v, r, e, h1, h2⟩ => by
    subst e
    rw [List.reverse_cons, List.reverse_cons]
    exact (zaa.reverse h2).append (.cons h1 .nil)
theorem zaa.set : ∀ {ds : List D} {vs : List V} (i : Nat) {d : D} {v : V}, zaa G H ds vs -> Rep G H d v -> zaa G H (ds.set i d) (vs.set i v)
  | [], _, _, _, _, h, _ => by cases (show _ = [] from h); exact .nil
  | e :: ds, _, 0, _, _, ⟨v, r, e', _, h2⟩, q => by subst e'; exact ⟨_, r, rfl, q, h2⟩
  | e :: ds, _, i + 1, _, _, ⟨v, r, e', h1, h2⟩, q => by subst e'; exact ⟨v, r.set i _, rfl, h1, zaa.set i h2 q⟩
end
noncomputable def zc2 : HO -> Bool
  | .tup _ => true
  | _ => false
structure Ext (Hf H Hf' H' : Hp) : Prop where
  f : zac Hf Hf'
  h : zac H H'
  s : zac Hf' H'
  n : ∀ l o, H l = some o -> zc2 o = false -> Hf' l = Hf l
section
variable {Hf H Hf1 H1 Hf2 H2 : Hp} {p : Addr} {o : HO}
theorem Ext.refl (s : zac Hf H) : Ext Hf H Hf H := ⟨zac.refl _, zac.refl _, s, fun _ _ _ _ => rfl⟩
theorem Ext.trans (a : Ext Hf H Hf1 H1) (b : Ext Hf1 H1 Hf2 H2) : Ext Hf H Hf2 H2 := ⟨a.f.trans b.f, a.h.trans b.h, b.s, fun l o e t => (b.n l o (a.h l o e) t).trans (a.n l o e t)⟩
theorem Ext.new (s : zac Hf H) (h : H p = none) : Ext Hf H (upd Hf p o) (upd H p o) :=
  ⟨zai (s.free h), zai h, fun b u e => by
    by_cases hb : b = p
    · subst hb; rw [zan] at e ⊢; exact e
    · rw [zag hb] at e ⊢; exact s b u e, fun l u e _ => by rw [zag (zbh e h)]⟩
theorem Ext.tmp (s : zac Hf H) (h : H p = none) : Ext Hf H Hf (upd H p o) := ⟨zac.refl _, zai h, s.trans (zai h), fun _ _ _ _ => rfl⟩
theorem Ext.grow (s : zac Hf H) (g : zac H H1) : Ext Hf H Hf H1 := ⟨zac.refl _, g, s.trans g, fun _ _ _ _ => rfl⟩
theorem Ext.fix (a : Ext Hf H Hf1 H1) (hn : H p = none) (hf : Hf1 p = none) (hp : H1 p = some o) : Ext Hf H (upd Hf1 p o) H1 :=
  ⟨a.f.trans (zai hf), a.h, fun b u e => by
    by_cases hb : b = p
    · subst hb; rw [zan] at e; rw [hp]; exact e
    · rw [zag hb] at e; exact a.s b u e, fun l u e t => by rw [zag (zbh e hn)]; exact a.n l u e t⟩
end
inductive O where
  | fz (d : D)
  | lst (xs : List O)
  | tup (xs : List O)
  | dic (ks : List Key) (xs : List O)
  | ins (c : Str) (ns : List Str) (xs : List O)
  | jnk (n : Nat)
  deriving Inhabited
mutual
noncomputable def OT (G : Gc) (Hf H : Hp) : O -> V -> List Addr -> Prop
  | .fz d, v, fp => Rep G Hf d v /\ fp = []
  | .lst os, v, fp => ∃ a vs fs, v = .ref a /\ H a = some (.lst vs) /\ OTs G Hf H os vs fs /\ fp = a :: fs
  | .tup os, v, fp => ∃ a vs, v = .ref a /\ H a = some (.tup vs) /\ OTs G Hf H os vs fp
  | .dic ks os, v, fp => ∃ a vs fs, v = .ref a /\ H a = some (.dK (ks.zip vs)) /\ ks.length = vs.length /\ OTs G Hf H os vs fs /\ fp = a :: fs
  | .ins c ns os, v, fp => ∃ a dx vs fs, v = .ref a /\ H a = some (.ins (G.cl c) dx (ns.zip vs)) /\ ns.length = vs.length /\ OTs G Hf H os vs fs /\ fp = a :: fs
  | .jnk n, v, fp => ∃ a vs, v = .ref a /\ H a = some (.lst vs) /\ vs.length <= n /\ fp = [a]
noncomputable def OTs (G : Gc) (Hf H : Hp) : List O -> List V -> List Addr -> Prop
  | [], vs, fp => vs = [] /\ fp = []
  | o :: os, vs, fp => ∃ v r f1 f2, vs = v :: r /\ OT G Hf H o v f1 /\ OTs G Hf H os r f2 /\ fp = f1 ++ f2
end
mutual
noncomputable def O.toD : O -> D
  | .fz d => d
  | .lst os => .lst (O.toDs os)
  | .tup os => .tup (O.toDs os)
  | .dic ks os => .dic ks (O.toDs os)
  | .ins c ns os => .ins c ns (O.toDs os)
  | .jnk _ => .non
noncomputable def O.toDs : List O -> List D
  | [] => []
  | o :: os => o.toD :: O.toDs os
end
mutual
noncomputable def O.kn : O -> Bool
  | .fz _ => true
  | .lst os => O.kns os
  | .tup os => O.kns os
  | .dic _ os => O.kns os
  | .ins _ _ os => O.kns os
  | .jnk _ => false
noncomputable def O.kns : List O -> Bool
  | [] => true
  | o :: os => o.kn && O.kns os
end
section
variable {G : Gc} {Hf H Hf' H' : Hp}
mutual
theorem OT.frameM (f : zac Hf Hf') : ∀ (o : O) (v : V) (fp : List Addr), OT G Hf H o v fp -> (∀ b u, H b = some u -> (zc2 u = true \/ b ∈ fp) -> H' b = some u) -> OT G Hf' H' o v fp
  | .fz d, _, _, h, _ => ⟨h.1.up f, h.2⟩
  | .lst os, _, fp, ⟨a, vs, fs, e, q, r, ef⟩, k => ⟨a, vs, fs, e, k _ _ q (.inr (by rw [ef]; exact List.mem_cons_self)), OTs.frameM f os vs fs r (fun b u hb hm => k b u hb (hm.imp_right fun z => by rw [ef]; exact List.mem_cons_of_mem _ z)), ef⟩
  | .tup os, _, fp, ⟨a, vs, e, q, r⟩, k => ⟨a, vs, e, k _ _ q (.inl rfl), OTs.frameM f os vs fp r k⟩
  | .dic ks os, _, fp, ⟨a, vs, fs, e, q, z, r, ef⟩, k => ⟨a, vs, fs, e, k _ _ q (.inr (by rw [ef]; exact List.mem_cons_self)), z, OTs.frameM f os vs fs r (fun b u hb hm => k b u hb (hm.imp_right fun z => by rw [ef]; exact List.mem_cons_of_mem _ z)), ef⟩
  | .ins c ns os, _, fp, ⟨a, dx, vs, fs, e, q, z, r, ef⟩, k => ⟨a, dx, vs, fs, e, k _ _ q (.inr (by rw [ef]; exact List.mem_cons_self)), z, OTs.frameM f os vs fs r (fun b u hb hm => k b u hb (hm.imp_right fun z => by rw [ef]; exact List.mem_cons_of_mem _ z)), ef⟩
  | .jnk n, _, fp, ⟨a, vs, e, q, z, ef⟩, k => ⟨a, vs, e, k _ _ q (.inr (by rw [ef]; exact List.mem_cons_self)), z, ef⟩
theorem OTs.frameM (f : zac Hf Hf') : ∀ (os : List O) (vs : List V) (fp : List Addr), OTs G Hf H os vs fp -> (∀ b u, H b = some u -> (zc2 u = true \/ b ∈ fp) -> H' b = some u) -> OTs G Hf' H' os vs fp
  | [], _, _, h, _ => h
  | o :: os, _, fp, ⟨v, r, f1, f2, e, h1, h2, ef⟩, k => ⟨v, r, f1, f2, e, OT.frameM f o v f1 h1 (fun b u hb hm => k b u hb (hm.imp_right fun z => by rw [ef]; exact List.mem_append_left _ z)), OTs.frameM f os r f2 h2 (fun b u hb hm => k b u hb (hm.imp_right fun z => by rw [ef]; exact List.mem_append_right _ z)), ef⟩
end
theorem OT.frame {o : O} {v : V} {fp : List Addr} (h : OT G Hf H o v fp) (f : zac Hf Hf') (k : ∀ b u, H b = some u -> (zc2 u = true \/ b ∈ fp) -> H' b = some u) : OT G Hf' H' o v fp := OT.frameM f o v fp h k
theorem OT.up {o : O} {v : V} {fp : List Addr} (h : OT G Hf H o v fp) (f : zac Hf Hf') (s : zac H H') : OT G Hf' H' o v fp := h.frame f fun b u e _ => s b u e
theorem zjn {α β : Type} : ∀ {ks : List α} {vs us : List β}, ks.length = vs.length -> ks.length = us.length -> ks.zip vs = ks.zip us -> vs = us
  | [], [], [], _, _, _ => rfl
  | k :: ks, v :: vs, u :: us, h1, h2, e => by
    rw [List.zip_cons_cons, List.zip_cons_cons] at e
    injection e with e1 e2
    injection e1 with _ e3
    rw [e3, zjn (by simpa using h1) (by simpa using h2) e2]
  | [], _ :: _, _, h, _, _ => by cases h
  | [], [], _ :: _, _, h, _ => by cases h
  | _ :: _, [], _, h, _, _ => by cases h
  | _ :: _, _ :: _, [], _, h, _ => by cases h
mutual
theorem OT.funM : ∀ (o : O) (v : V) (f f' : List Addr), OT G Hf H o v f -> OT G Hf' H o v f' -> f = f'
  | .fz d, _, _, _, h, h' => h.2.trans h'.2.symm
  | .lst os, _, _, _, ⟨a, vs, fs, e, q, r, ef⟩, ⟨a', vs', fs', e', q', r', ef'⟩ => by
    subst e ef ef'
    cases e'
    rw [q] at q'
    cases q'
    rw [OTs.funM os vs fs fs' r r']
  | .tup os, _, f, f', ⟨a, vs, e, q, r⟩, ⟨a', vs', e', q', r'⟩ => by
    subst e
    cases e'
    rw [q] at q'
    cases q'
    exact OTs.funM os vs f f' r r'
  | .dic ks os, _, _, _, ⟨a, vs, fs, e, q, z, r, ef⟩, ⟨a', vs', fs', e', q', z', r', ef'⟩ => by
    subst e ef ef'
    cases e'
    rw [q] at q'
    have := zjn z z' (HO.dK.inj (Option.some.inj q'))
    subst this
    rw [OTs.funM os vs fs fs' r r']
  | .ins c ns os, _, _, _, ⟨a, dx, vs, fs, e, q, z, r, ef⟩, ⟨a', dx', vs', fs', e', q', z', r', ef'⟩ => by
    subst e ef ef'
    cases e'
    rw [q] at q'
    have := zjn z z' (HO.ins.inj (Option.some.inj q')).2.2
    subst this
    rw [OTs.funM os vs fs fs' r r']
  | .jnk n, _, _, _, ⟨a, vs, e, q, z, ef⟩, ⟨a', vs', e', q', z', ef'⟩ => by
    subst e ef ef'
    cases e'
    rfl
theorem OTs.funM : ∀ (os : List O) (vs : List V) (f f' : List Addr), OTs G Hf H os vs f -> OTs G Hf' H os vs f' -> f = f'
  | [], _, _, _, h, h' => h.2.trans h'.2.symm
  | o :: os, _, _, _, ⟨v, r, f1, f2, e, h1, h2, ef⟩, ⟨v', r', f1', f2', e', h1', h2', ef'⟩ => by
    subst e ef ef'
    cases e'
    rw [OT.funM o v f1 f1' h1 h1', OTs.funM os r f2 f2' h2 h2']
end
mutual
theorem OT.memM : ∀ (o : O) (v : V) (f : List Addr), OT G Hf H o v f -> ∀ a ∈ f, ∃ u, H a = some u /\ zc2 u = false
  | .fz d, _, _, h, a, ha => by rw [h.2] at ha; cases ha
  | .lst os, _, _, ⟨a, vs, fs, e, q, r, ef⟩, b, hb => by
    subst ef
    rcases List.mem_cons.mp hb with z | z
    · subst z; exact ⟨_, q, rfl⟩
    · exact OTs.memM os vs fs r b z
  | .tup os, _, f, ⟨a, vs, e, q, r⟩, b, hb => OTs.memM os vs f r b hb
  | .dic ks os, _, _, ⟨a, vs, fs, e, q, z, r, ef⟩, b, hb => by
    subst ef
    rcases List.mem_cons.mp hb with z | z
    · subst z; exact ⟨_, q, rfl⟩
    · exact OTs.memM os vs fs r b z
  | .ins c ns os, _, _, ⟨a, dx, vs, fs, e, q, z, r, ef⟩, b, hb => by
    subst ef
    rcases List.mem_cons.mp hb with z | z
    · subst z; exact ⟨_, q, rfl⟩
    · exact OTs.memM os vs fs r b z
  | .jnk n, _, _, ⟨a, vs, e, q, z, ef⟩, b, hb => by
    subst ef
    rw [List.mem_singleton.mp hb]
    exact ⟨_, q, rfl⟩
theorem OTs.memM : ∀ (os : List O) (vs : List V) (f : List Addr), OTs G Hf H os vs f -> ∀ a ∈ f, ∃ u, H a = some u /\ zc2 u = false
  | [], _, _, h, a, ha => by rw [h.2] at ha; cases ha
  | o :: os, _, _, ⟨v, r, f1, f2, e, h1, h2, ef⟩, a, ha => by
    subst ef
    rcases List.mem_append.mp ha with z | z
    · exact OT.memM o v f1 h1 a z
    · exact OTs.memM os r f2 h2 a z
end
mutual
theorem OT.repM (s : zac Hf H) : ∀ (o : O) (v : V) (f : List Addr), o.kn = true -> OT G Hf H o v f -> Rep G H o.toD v
  | .fz d, _, _, _, h => by rw [O.toD]; exact h.1.up s
  | .lst os, _, _, hk, ⟨a, vs, fs, e, q, r, ef⟩ => by rw [O.kn] at hk; rw [O.toD]; exact ⟨a, vs, e, q, OTs.repM s os vs fs hk r⟩
  | .tup os, _, f, hk, ⟨a, vs, e, q, r⟩ => by rw [O.kn] at hk; rw [O.toD]; exact ⟨a, vs, e, q, OTs.repM s os vs f hk r⟩
  | .dic ks os, _, _, hk, ⟨a, vs, fs, e, q, z, r, ef⟩ => by rw [O.kn] at hk; rw [O.toD]; exact ⟨a, vs, e, q, z, OTs.repM s os vs fs hk r⟩
  | .ins c ns os, _, _, hk, ⟨a, dx, vs, fs, e, q, z, r, ef⟩ => by rw [O.kn] at hk; rw [O.toD]; exact ⟨a, dx, vs, e, q, z, OTs.repM s os vs fs hk r⟩
  | .jnk _, _, _, hk, _ => by rw [O.kn] at hk; cases hk
theorem OTs.repM (s : zac Hf H) : ∀ (os : List O) (vs : List V) (f : List Addr), O.kns os = true -> OTs G Hf H os vs f -> zaa G H (O.toDs os) vs
  | [], _, _, _, h => by rw [O.toDs]; exact h.1
  | o :: os, _, _, hk, ⟨v, r, f1, f2, e, h1, h2, ef⟩ => by
    rw [O.kns, Bool.and_eq_true] at hk
    rw [O.toDs]
    exact ⟨v, r, e, OT.repM s o v f1 hk.1 h1, OTs.repM s os r f2 hk.2 h2⟩
end
theorem OT.rep {o : O} {v : V} {f : List Addr} (h : OT G Hf H o v f) (s : zac Hf H) (hk : o.kn = true) : Rep G H o.toD v := OT.repM s o v f hk h
theorem OTs.fz : ∀ {ds : List D} {vs : List V}, zaa G Hf ds vs -> OTs G Hf H (ds.map .fz) vs []
  | [], _, h => ⟨h, rfl⟩
  | d :: ds, _, ⟨v, r, e, h1, h2⟩ => ⟨v, r, [], [], e, ⟨h1, rfl⟩, OTs.fz h2, rfl⟩
theorem zwn (ds : List D) : O.toDs (ds.map .fz) = ds := by
  induction ds with
  | nil => rfl
  | cons d ds ih => rw [List.map_cons, O.toDs, O.toD, ih]
end
inductive Sl where
  | no
  | im (d : D)
  | own (xs : List D)
  | ownd (ks : List Key) (xs : List D)
  | obj (c : Str) (ns : List Str) (xs : List D)
  | pin (l : Addr) (xs : List D)
  | pind (l : Addr) (ks : List Key) (xs : List D)
  | pino (l : Addr) (c : Str) (ns : List Str) (xs : List D)
  | deep (o : O)
  | val (u : V)
noncomputable def Sl.isOwn : Sl -> Bool
  | .own _ => true
  | .ownd _ _ => true
  | .obj _ _ _ => true
  | .pin _ _ => true
  | .pind _ _ _ => true
  | .pino _ _ _ _ => true
  | _ => false
noncomputable def Sl.calm : Sl -> Bool
  | .no => true
  | .im _ => true
  | _ => false
noncomputable def zb0 (G : Gc) (Hf H : Hp) (l : Addr) : Sl -> Prop
  | .own ds => ∃ vs, H l = some (.lst vs) /\ zaa G Hf ds vs
  | .ownd ks ds => ∃ vs, H l = some (.dK (ks.zip vs)) /\ ks.length = vs.length /\ zaa G Hf ds vs
  | .obj c ns ds => ∃ dx vs, H l = some (.ins (G.cl c) dx (ns.zip vs)) /\ ns.length = vs.length /\ zaa G Hf ds vs
  | .pin l0 ds => l = l0 /\ ∃ vs, H l = some (.lst vs) /\ zaa G Hf ds vs
  | .pind l0 ks ds => l = l0 /\ ∃ vs, H l = some (.dK (ks.zip vs)) /\ ks.length = vs.length /\ zaa G Hf ds vs
  | .pino l0 c ns ds => l = l0 /\ ∃ dx vs, H l = some (.ins (G.cl c) dx (ns.zip vs)) /\ ns.length = vs.length /\ zaa G Hf ds vs
  | _ => False
theorem zb0.there {G : Gc} {Hf H : Hp} {l : Addr} {s : Sl} (h : zb0 G Hf H l s) : ∃ o, H l = some o := by
  cases s with
  | own ds => obtain ⟨vs, h, _⟩ := h; exact ⟨_, h⟩
  | ownd ks ds => obtain ⟨vs, h, _⟩ := h; exact ⟨_, h⟩
  | obj c ns ds => obtain ⟨dx, vs, h, _⟩ := h; exact ⟨_, h⟩
  | pin l0 ds => obtain ⟨_, vs, h, _⟩ := h; exact ⟨_, h⟩
  | pind l0 ks ds => obtain ⟨_, vs, h, _⟩ := h; exact ⟨_, h⟩
  | pino l0 c ns ds => obtain ⟨_, dx, vs, h, _⟩ := h; exact ⟨_, h⟩
  | _ => exact h.elim
theorem zb0.there2 {G : Gc} {Hf H : Hp} {l : Addr} {s : Sl} (h : zb0 G Hf H l s) : ∃ o, H l = some o /\ zc2 o = false := by
  cases s with
  | own ds => obtain ⟨vs, h, _⟩ := h; exact ⟨_, h, rfl⟩
  | ownd ks ds => obtain ⟨vs, h, _⟩ := h; exact ⟨_, h, rfl⟩
  | obj c ns ds => obtain ⟨dx, vs, h, _⟩ := h; exact ⟨_, h, rfl⟩
  | pin l0 ds => obtain ⟨_, vs, h, _⟩ := h; exact ⟨_, h, rfl⟩
  | pind l0 ks ds => obtain ⟨_, vs, h, _⟩ := h; exact ⟨_, h, rfl⟩
  | pino l0 c ns ds => obtain ⟨_, dx, vs, h, _⟩ := h; exact ⟨_, h, rfl⟩
  | _ => exact h.elim
theorem zb0.up {G : Gc} {Hf H Hf' H' : Hp} {l : Addr} {s : Sl} (h : zb0 G Hf H l s) (f : zac Hf Hf') (e : ∀ o, H l = some o -> H' l = some o) : zb0 G Hf' H' l s := by
  cases s with
  | own ds => obtain ⟨vs, h, r⟩ := h; exact ⟨vs, e _ h, r.up f⟩
  | ownd ks ds => obtain ⟨vs, h, z, r⟩ := h; exact ⟨vs, e _ h, z, r.up f⟩
  | obj c ns ds => obtain ⟨dx, vs, h, z, r⟩ := h; exact ⟨dx, vs, e _ h, z, r.up f⟩
  | pin l0 ds => obtain ⟨q, vs, h, r⟩ := h; exact ⟨q, vs, e _ h, r.up f⟩
  | pind l0 ks ds => obtain ⟨q, vs, h, z, r⟩ := h; exact ⟨q, vs, e _ h, z, r.up f⟩
  | pino l0 c ns ds => obtain ⟨q, dx, vs, h, z, r⟩ := h; exact ⟨q, dx, vs, e _ h, z, r.up f⟩
  | _ => exact h.elim
noncomputable def zbg (G : Gc) (H0 Hf H : Hp) (v : Option V) : Sl -> Prop
  | .no => True
  | .im d => ∃ u, v = some u /\ Rep G Hf d u
  | .deep o => ∃ u fp, v = some u /\ OT G Hf H o u fp /\ fp.Nodup /\ ∀ a ∈ fp, H0 a = none /\ Hf a = none
  | .val u => v = some u
  | s => ∃ l, v = some (.ref l) /\ H0 l = none /\ Hf l = none /\ zb0 G Hf H l s
theorem zbg.own {G : Gc} {H0 Hf H : Hp} {v : Option V} {s : Sl} (hs : s.isOwn = true) (h : zbg G H0 Hf H v s) : ∃ l, v = some (.ref l) /\ H0 l = none /\ Hf l = none /\ zb0 G Hf H l s := by
  cases s <;> first | exact h | cases hs
theorem zbg.ofOwn {G : Gc} {H0 Hf H : Hp} {v : Option V} {s : Sl} (hs : s.isOwn = true) (h : ∃ l, v = some (.ref l) /\ H0 l = none /\ Hf l = none /\ zb0 G Hf H l s) : zbg G H0 Hf H v s := by
  cases s <;> first | exact h | cases hs
noncomputable def Holds (G : Gc) (Hf H : Hp) (s : Sl) (v : V) (a : Addr) : Prop := match s with
  | .deep o => ∃ fp, OT G Hf H o v fp /\ a ∈ fp
  | s => s.isOwn = true /\ v = .ref a
theorem Holds.own {G : Gc} {Hf H : Hp} {s : Sl} {v : V} {a : Addr} (hs : s.isOwn = true) : Holds G Hf H s v a ↔ v = .ref a := by
  cases s <;> first | exact ⟨fun h => h.2, fun h => ⟨rfl, h⟩⟩ | cases hs
theorem Holds.calm {G : Gc} {Hf H : Hp} {s : Sl} {v : V} {a : Addr} (h : Holds G Hf H s v a) (hs : s.calm = true) : False := by
  cases s <;> first | exact Bool.noConfusion h.1 | cases hs
theorem zbg.back {G : Gc} {H0 Hf H Hf' H' : Hp} {s : Sl} {v : V} {a : Addr} (q : zbg G H0 Hf H (some v) s) (k : ∀ o fp, s = .deep o -> OT G Hf H o v fp -> OT G Hf' H' o v fp) (h : Holds G Hf' H' s v a) : Holds G Hf H s v a := by
  cases s with
  | deep o =>
    obtain ⟨u, fp, e, r, _⟩ := q
    cases e
    obtain ⟨fp', r', ha⟩ := h
    have := OT.funM o v fp fp' (k o fp rfl r) r'
    subst this
    exact ⟨fp, r, ha⟩
  | _ => exact h
theorem zbg.there {G : Gc} {H0 Hf H : Hp} {s : Sl} {v : V} {a : Addr} (q : zbg G H0 Hf H (some v) s) (h : Holds G Hf H s v a) : ∃ o, H a = some o /\ zc2 o = false := by
  cases hs : s.isOwn with
  | true =>
    obtain ⟨l, e, _, _, ho⟩ := q.own hs
    have e2 := (Holds.own hs).mp h
    cases e
    cases e2
    exact ho.there2
  | false =>
    cases s with
    | deep o =>
      obtain ⟨fp, r, ha⟩ := h
      exact OT.memM o v fp r a ha
    | _ => first | exact Bool.noConfusion h.1 | cases hs
structure zab (G : Gc) (Hf0 H0 Hf H : Hp) (σ : St) (ρ : List Sl) : Prop where
  ext : Ext Hf0 H0 Hf H
  len : σ.length = ρ.length
  at' : ∀ (i : Nat) (v : Option V) (s : Sl), σ[i]? = some v -> ρ[i]? = some s -> zbg G H0 Hf H v s
  dj : ∀ (i j : Nat) (s t : Sl) (v w : V) (a : Addr), ρ[i]? = some s -> ρ[j]? = some t -> σ[i]? = some (some v) -> σ[j]? = some (some w) -> Holds G Hf H s v a -> Holds G Hf H t w a -> i = j
section
variable {G : Gc} {Hf0 H0 Hf H Hf' H' : Hp} {σ : St} {ρ : List Sl}
theorem zab.sub (h : zab G Hf0 H0 Hf H σ ρ) : zac Hf H := h.ext.s
theorem zab.inj (h : zab G Hf0 H0 Hf H σ ρ) (i j : Nat) (s t : Sl) (l : Addr) (a : ρ[i]? = some s) (b : ρ[j]? = some t) (hs : s.isOwn = true) (ht : t.isOwn = true) (c : σ[i]? = some (some (.ref l))) (d : σ[j]? = some (some (.ref l))) : i = j :=
  h.dj i j s t _ _ l a b c d ((Holds.own hs).mpr rfl) ((Holds.own ht).mpr rfl)
theorem zab.re {Hf0' H0' : Hp} {ρ' : List Sl} (h : zab G Hf0 H0 Hf H σ ρ) (x : Ext Hf0' H0' Hf' H') (hl : ρ'.length = ρ.length) (ha : ∀ (i : Nat) (v : Option V) (s : Sl), σ[i]? = some v -> ρ'[i]? = some s -> zbg G H0' Hf' H' v s)
    (hd : ∀ (i : Nat) (s : Sl) (v : V) (a : Addr), ρ'[i]? = some s -> σ[i]? = some (some v) -> Holds G Hf' H' s v a -> ∃ t, ρ[i]? = some t /\ Holds G Hf H t v a) : zab G Hf0' H0' Hf' H' σ ρ' :=
  ⟨x, h.len.trans hl.symm, ha, fun i j s t v w a b c e f p q => by
    obtain ⟨s0, b0, p0⟩ := hd i s v a b e p
    obtain ⟨t0, c0, q0⟩ := hd j t w a c f q
    exact h.dj i j s0 t0 v w a b0 c0 e f p0 q0⟩
theorem zab.step (h : zab G Hf0 H0 Hf H σ ρ) (e : Ext Hf H Hf' H') : zab G Hf0 H0 Hf' H' σ ρ := by
  refine h.re (h.ext.trans e) rfl (fun i v s a b => ?_) fun i s v a b c d => ⟨s, b, (h.at' i _ s c b).back (fun o fp _ r => r.up e.f e.h) d⟩
  have q := h.at' i v s a b
  cases hs : s.isOwn with
  | true =>
    obtain ⟨l, e1, e2, e3, e4⟩ := q.own hs
    obtain ⟨o, ho, ht⟩ := e4.there2
    exact .ofOwn hs ⟨l, e1, e2, by rw [e.n l o ho ht]; exact e3, e4.up e.f fun o ho => e.h _ _ ho⟩
  | false =>
    cases s with
    | no => trivial
    | im d => obtain ⟨u, e1, r⟩ := q; exact ⟨u, e1, r.up e.f⟩
    | val u => exact q
    | deep o =>
      obtain ⟨u, fp, e1, r, n, z⟩ := q
      refine ⟨u, fp, e1, r.up e.f e.h, n, fun a ha => ⟨(z a ha).1, ?_⟩⟩
      obtain ⟨oo, ho, ht⟩ := OT.memM o u fp r a ha
      rw [e.n a oo ho ht]
      exact (z a ha).2
    | _ => cases hs
theorem zab.slot {i : Nat} {s : Sl} (h : zab G Hf0 H0 Hf H σ ρ) (e : ρ[i]? = some s) : ∃ v, σ[i]? = some v /\ zbg G H0 Hf H v s := by
  have hi : i < σ.length := by rw [h.len]; exact (List.getElem?_eq_some_iff.mp e).1
  exact ⟨σ[i], by simp [hi], h.at' i _ s (by simp [hi]) e⟩
theorem zab.imm {i : Nat} {d : D} (h : zab G Hf0 H0 Hf H σ ρ) (e : ρ[i]? = some (.im d)) : ∃ v, σ[i]? = some (some v) /\ Rep G Hf d v := by
  obtain ⟨v, e1, u, e2, r⟩ := h.slot e
  subst e2
  exact ⟨u, e1, r⟩
theorem zab.ownAt {i : Nat} {s : Sl} (hs : s.isOwn = true) (h : zab G Hf0 H0 Hf H σ ρ) (e : ρ[i]? = some s) : ∃ l, σ[i]? = some (some (.ref l)) /\ H0 l = none /\ Hf l = none /\ zb0 G Hf H l s := by
  obtain ⟨v, e1, q⟩ := h.slot e
  obtain ⟨l, e2, q2⟩ := q.own hs
  rw [e2] at e1
  exact ⟨l, e1, q2⟩
theorem zao {α : Type} {l : List α} {i j : Nat} {x y : α} (h : (l.set i x)[j]? = some y) : (j = i /\ y = x /\ i < l.length) \/ (j ≠ i /\ l[j]? = some y) := by
  by_cases hj : j = i
  · subst hj
    left
    have hi : j < l.length := by have := (List.getElem?_eq_some_iff.mp h).1; simpa using this
    rw [List.getElem?_set_self hi] at h
    exact ⟨rfl, (Option.some.inj h).symm, hi⟩
  · right
    rw [List.getElem?_set_ne (Ne.symm hj)] at h
    exact ⟨hj, h⟩
theorem zab.setIm {i : Nat} {d : D} {v : V} (h : zab G Hf0 H0 Hf H σ ρ) (r : Rep G Hf d v) : zab G Hf0 H0 Hf H (σ.set i (some v)) (ρ.set i (.im d)) := by
  refine ⟨h.ext, by simpa using h.len, fun j u s a b => ?_, fun j k s t u w l a b c d' p q => ?_⟩
  · rcases zao b with ⟨e, e', _⟩ | ⟨e, b⟩
    · subst e e'
      rcases zao a with ⟨_, e', _⟩ | ⟨e, _⟩
      · subst e'; exact ⟨v, rfl, r⟩
      · exact absurd rfl e
    · rcases zao a with ⟨e', _⟩ | ⟨_, a⟩
      · exact absurd e' e
      · exact h.at' j u s a b
  · rcases zao a with ⟨e, e', _⟩ | ⟨e, a⟩
    · subst e'; exact (p.calm rfl).elim
    · rcases zao b with ⟨e2, e', _⟩ | ⟨e2, b⟩
      · subst e'; exact (q.calm rfl).elim
      · rcases zao c with ⟨e', _⟩ | ⟨_, c⟩
        · exact absurd e' e
        · rcases zao d' with ⟨e', _⟩ | ⟨_, d'⟩
          · exact absurd e' e2
          · exact h.dj j k s t u w l a b c d' p q
theorem zab.setNew {i : Nat} {u : V} {s : Sl} (h : zab G Hf0 H0 Hf H σ ρ) (e : Ext Hf H Hf' H') (ho : zbg G H0 Hf' H' (some u) s) (hn : ∀ a, Holds G Hf' H' s u a -> H a = none) :
    zab G Hf0 H0 Hf' H' (σ.set i (some u)) (ρ.set i s) := by
  have h' := h.step e
  have no : ∀ (j : Nat) (t : Sl) (w : V) (a : Addr), ρ[j]? = some t -> σ[j]? = some (some w) -> Holds G Hf' H' t w a -> Holds G Hf' H' s u a -> False := fun j t w a b c p q => by
    have p0 := (h.at' j _ t c b).back (fun o fp _ r => r.up e.f e.h) p
    obtain ⟨o, ho, _⟩ := (h.at' j _ t c b).there p0
    rw [hn a q] at ho; cases ho
  refine ⟨h'.ext, by simpa using h.len, fun j w t a b => ?_, fun j k t t' v w l a b c d' p q => ?_⟩
  · rcases zao b with ⟨e, e', _⟩ | ⟨e, b⟩
    · subst e e'
      rcases zao a with ⟨_, e', _⟩ | ⟨e, _⟩
      · subst e'; exact ho
      · exact absurd rfl e
    · rcases zao a with ⟨e', _⟩ | ⟨_, a⟩
      · exact absurd e' e
      · exact h'.at' j w t a b
  · rcases zao a with ⟨e1, e1', _⟩ | ⟨e1, a⟩
    · rcases zao b with ⟨e2, e2', _⟩ | ⟨e2, b⟩
      · rw [e1, e2]
      · rcases zao c with ⟨_, e', _⟩ | ⟨e', _⟩
        · cases e'
          rw [e1'] at p
          rcases zao d' with ⟨e', _⟩ | ⟨_, d'⟩
          · exact absurd e' e2
          · exact (no k t' w l b d' q p).elim
        · exact absurd e1 e'
    · rcases zao c with ⟨e', _⟩ | ⟨_, c⟩
      · exact absurd e' e1
      · rcases zao b with ⟨e2, e2', _⟩ | ⟨e2, b⟩
        · rcases zao d' with ⟨_, e', _⟩ | ⟨e', _⟩
          · cases e'
            rw [e2'] at q
            exact (no j t v l a c p q).elim
          · exact absurd e2 e'
        · rcases zao d' with ⟨e', _⟩ | ⟨_, d'⟩
          · exact absurd e' e2
          · exact h'.dj j k t t' v w l a b c d' p q
theorem zab.setOwn {i : Nat} {l : Addr} {s : Sl} (hs : s.isOwn = true) (h : zab G Hf0 H0 Hf H σ ρ) (e : Ext Hf H Hf' H') (hn : H l = none) (hf : Hf' l = none) (ho : zb0 G Hf' H' l s) :
    zab G Hf0 H0 Hf' H' (σ.set i (some (.ref l))) (ρ.set i s) :=
  h.setNew e (.ofOwn hs ⟨l, rfl, h.ext.h.free hn, hf, ho⟩) fun a p => by cases (Holds.own hs).mp p; exact hn
theorem zab.chg {i : Nat} {s s' : Sl} {v : V} (h : zab G Hf0 H0 Hf H σ ρ) (e : ρ[i]? = some s) (el : σ[i]? = some (some v)) (k : ∀ b u, H b = some u -> Holds G Hf H s v b \/ H' b = some u) (ho : zbg G H0 Hf H' (some v) s')
    (hh : ∀ a, Holds G Hf H' s' v a -> Holds G Hf H s v a \/ ∀ (j : Nat) (t : Sl) (w : V), ρ[j]? = some t -> σ[j]? = some (some w) -> Holds G Hf H t w a -> False) : zab G Hf0 H0 Hf H' σ (ρ.set i s') := by
  have q := h.at' i _ s el e
  have gone : ∀ b, Holds G Hf H s v b -> H0 b = none /\ Hf b = none := fun b p => by
    cases hs : s.isOwn with
    | true =>
      obtain ⟨l, e1, h0, hf, _⟩ := q.own hs
      have e2 := (Holds.own hs).mp p
      cases e1
      cases e2
      exact ⟨h0, hf⟩
    | false =>
      cases s with
      | deep o =>
        obtain ⟨u, fp, e1, r, n, z⟩ := q
        cases e1
        obtain ⟨fp', r', ha⟩ := p
        have := OT.funM o v fp fp' r r'
        subst this
        exact z b ha
      | _ => first | exact Bool.noConfusion p.1 | cases hs
  have fr : ∀ (j : Nat) (t : Sl) (w : V), j ≠ i -> ρ[j]? = some t -> σ[j]? = some (some w) -> ∀ o fp, t = .deep o -> OT G Hf H o w fp -> OT G Hf H' o w fp := fun j t w hj b c o fp et r => by
    subst et
    refine r.frame (zac.refl _) fun x u hx hm => ?_
    rcases k x u hx with z | z
    · rcases hm with hm | hm
      · obtain ⟨o', ho', ht'⟩ := q.there z
        rw [hx] at ho'
        cases ho'
        rw [hm] at ht'
        cases ht'
      · exact absurd (h.dj j i _ s w v x b e c el ⟨fp, r, hm⟩ z) hj
    · exact z
  refine ⟨⟨h.ext.f, fun b u e => ?_, fun b u e => ?_, h.ext.n⟩, by simpa using h.len, fun j u t a b => ?_, fun j j' t t' w w' a b c b' c' p p' => ?_⟩
  · rcases k b u (h.ext.h b u e) with z | z
    · rw [(gone b z).1] at e; cases e
    · exact z
  · rcases k b u (h.ext.s b u e) with z | z
    · rw [(gone b z).2] at e; cases e
    · exact z
  · rcases zao b with ⟨e', e2, _⟩ | ⟨en, b⟩
    · subst e' e2
      rw [el] at a; cases a
      exact ho
    · have q' := h.at' j u t a b
      cases ht : t.isOwn with
      | false =>
        cases t with
        | no => trivial
        | im d => exact q'
        | val u => exact q'
        | deep o =>
          obtain ⟨w, fp, e1, r, n, z⟩ := q'
          subst e1
          exact ⟨w, fp, rfl, fr j _ w en b a o fp rfl r, n, z⟩
        | _ => cases ht
      | true =>
        obtain ⟨l2, e2, e3, e4, q2⟩ := q'.own ht
        subst e2
        refine .ofOwn ht ⟨l2, rfl, e3, e4, q2.up (zac.refl _) fun o' ho' => ?_⟩
        rcases k l2 o' ho' with z | z
        · exact absurd (h.dj j i t s _ v l2 b e a el ((Holds.own ht).mpr rfl) z) en
        · exact z
  · have old : ∀ (j : Nat) (t : Sl) (w : V), (ρ.set i s')[j]? = some t -> σ[j]? = some (some w) -> Holds G Hf H' t w a -> (j = i /\ ∀ (j : Nat) (t : Sl) (w : V), ρ[j]? = some t -> σ[j]? = some (some w) -> Holds G Hf H t w a -> False) \/ ∃ t0, ρ[j]? = some t0 /\ Holds G Hf H t0 w a := fun j t w b y p => by
      rcases zao b with ⟨e', e2, _⟩ | ⟨en, b⟩
      · rw [e2] at p
        rw [e', el] at y
        cases y
        rw [e']
        rcases hh a p with z | z
        · exact .inr ⟨s, e, z⟩
        · exact .inl ⟨rfl, z⟩
      · exact .inr ⟨t, b, (h.at' j _ t y b).back (fr j t w en b y) p⟩
    rcases old j t w b b' p with ⟨z1, z2⟩ | ⟨t0, z1, z2⟩
    · rcases old j' t' w' c c' p' with ⟨y1, y2⟩ | ⟨t1, y1, y2⟩
      · rw [z1, y1]
      · exact (z2 j' t1 w' y1 c' y2).elim
    · rcases old j' t' w' c c' p' with ⟨y1, y2⟩ | ⟨t1, y1, y2⟩
      · exact (y2 j t0 w z1 b' z2).elim
      · exact h.dj j j' t0 t1 w w' a z1 y1 b' c' z2 y2
theorem zab.chgX {i : Nat} {s s' : Sl} {v : V} {H1 : Hp} (h : zab G Hf0 H0 Hf H σ ρ) (x : Ext Hf H Hf' H1) (e : ρ[i]? = some s) (el : σ[i]? = some (some v)) (k : ∀ b u, H1 b = some u -> Holds G Hf H s v b \/ H' b = some u) (ho : zbg G H0 Hf' H' (some v) s')
    (hh : ∀ a, Holds G Hf' H' s' v a -> Holds G Hf H s v a \/ H a = none) : zab G Hf0 H0 Hf' H' σ (ρ.set i s') := by
  have up : ∀ b, Holds G Hf H s v b -> Holds G Hf' H1 s v b := fun b p => by
    cases s with
    | deep o => obtain ⟨fp, r, hb⟩ := p; exact ⟨fp, r.up x.f x.h, hb⟩
    | _ => exact p
  refine (h.step x).chg e el (fun b u hb => (k b u hb).imp_left (up b)) ho fun a p => ?_
  rcases hh a p with z | z
  · exact .inl (up a z)
  · refine .inr fun j t w b c q => ?_
    obtain ⟨o, ho, _⟩ := (h.at' j _ t c b).there ((h.at' j _ t c b).back (fun o fp _ r => r.up x.f x.h) q)
    rw [z] at ho
    cases ho
theorem zab.mutd {i : Nat} {l : Addr} {s s' : Sl} {o : HO} (hs : s.isOwn = true) (hs' : s'.isOwn = true) (h : zab G Hf0 H0 Hf H σ ρ) (e : ρ[i]? = some s) (el : σ[i]? = some (some (.ref l))) (ho : zb0 G Hf (upd H l o) l s') :
    zab G Hf0 H0 Hf (upd H l o) σ (ρ.set i s') := by
  obtain ⟨l', e1, h0, hf, q⟩ := h.ownAt hs e
  rw [el] at e1; cases e1
  refine h.chg e el (fun b u hb => ?_) (.ofOwn hs' ⟨l, rfl, h0, hf, ho⟩) fun a p => .inl ?_
  · by_cases hl : b = l
    · subst hl; exact .inl ((Holds.own hs).mpr rfl)
    · exact .inr (by rw [zag hl]; exact hb)
  · exact (Holds.own hs).mpr ((Holds.own hs').mp p)
theorem zab.fixd {i : Nat} {l : Addr} {s : Sl} {d : D} {o : HO} (hs : s.isOwn = true) (h : zab G Hf0 H0 Hf H σ ρ) (e : ρ[i]? = some s) (el : σ[i]? = some (some (.ref l))) (ho : H l = some o) (hr : Rep G (upd Hf l o) d (.ref l)) :
    zab G Hf0 H0 (upd Hf l o) H σ (ρ.set i (.im d)) := by
  obtain ⟨l', e1, h0, hf, q⟩ := h.ownAt hs e
  rw [el] at e1; cases e1
  refine h.re (h.ext.fix h0 hf ho) (by simp) (fun j u t a b => ?_) fun j t v a b c p => ?_
  · rcases zao b with ⟨e, e', _⟩ | ⟨en, b⟩
    · subst e e'
      rw [el] at a; cases a
      exact ⟨_, rfl, hr⟩
    · have q := h.at' j u t a b
      cases ht : t.isOwn with
      | false =>
        cases t with
        | no => trivial
        | im d => obtain ⟨u', e1, r⟩ := q; exact ⟨u', e1, r.up (zai hf)⟩
        | val u' => exact q
        | deep o =>
          obtain ⟨w, fp, e1, r, n, z⟩ := q
          subst e1
          refine ⟨w, fp, rfl, r.up (zai hf) (zac.refl _), n, fun x hx => ⟨(z x hx).1, ?_⟩⟩
          rw [zag (fun y => ?_)]
          · exact (z x hx).2
          · subst y
            exact en (h.dj j i _ s w _ x b e a el ⟨fp, r, hx⟩ ((Holds.own hs).mpr rfl))
        | _ => cases ht
      | true =>
        obtain ⟨l2, e2, e3, e4, q2⟩ := q.own ht
        subst e2
        refine .ofOwn ht ⟨l2, rfl, e3, ?_, q2.up (zai hf) fun o' ho' => ho'⟩
        rw [zag (fun z => ?_)]
        · exact e4
        · subst z
          exact en (h.inj j i t s l2 b e ht hs a el)
  · rcases zao b with ⟨_, e', _⟩ | ⟨_, b⟩
    · subst e'; exact (p.calm rfl).elim
    · exact ⟨t, b, (h.at' j _ t c b).back (fun o fp _ r => r.up (zai hf) (zac.refl _)) p⟩
end
end L2
namespace L2
open PySem PySem.Spec PyProof.Rows
section
variable {X : Cx} {e : Expr}
theorem PE.imp {t t' : TE} (h : PE X e t) (i : ∀ σ H Q, t' σ H Q -> t σ H Q) : PE X e t' := fun pins s σ H Q I q => h pins s σ H Q I (i σ H Q q)
theorem PT.imp {t t' : TT} (h : PT X e t) (i : ∀ σ H Q, t' σ H Q -> t σ H Q) : PT X e t' := fun pins s σ H Q I q => h pins s σ H Q I (i σ H Q q)
theorem PW.imp {t t' : TT} (h : PW X e t) (i : ∀ σ H Q, t' σ H Q -> t σ H Q) : PW X e t' := fun wh pins s σ H Q I q => h wh pins s σ H Q I (i σ H Q q)
theorem PA.imp {es : List Expr} {t t' : TA} (h : PA X es t) (i : ∀ σ H Q, t' σ H Q -> t σ H Q) : PA X es t' := fun pos pins s σ H Q I q => h pos pins s σ H Q I (i σ H Q q)
theorem PS.imp {st : Stmt} {t t' : TS} (h : PS X st t) (i : ∀ E σ H, t' E σ H -> t E σ H) : PS X st t' := fun pins s σ H E I q => h pins s σ H E I (i E σ H q)
theorem PSs.imp {st : List Stmt} {t t' : TS} (h : PSs X st t) (i : ∀ E σ H, t' E σ H -> t E σ H) : PSs X st t' := fun pins s σ H E I q => h pins s σ H E I (i E σ H q)
theorem PG.imp {t t' : TG} (h : PG X e t) (i : ∀ v σ H Q, t' v σ H Q -> t v σ H Q) : PG X e t' := fun pins s σ H v u Q I r q => h pins s σ H v u Q I r (i v σ H Q q)
theorem PGs.imp {es : List Expr} {t t' : TGs} (h : PGs X es t) (i : ∀ v σ H Q, t' v σ H Q -> t v σ H Q) : PGs X es t' := fun pins s σ H v u Q I r q => h pins s σ H v u Q I r (i v σ H Q q)
theorem PI.imp {tg : Expr} {t t' : TI} (h : PI X tg e t) (i : ∀ σ H R, t' σ H R -> t σ H R) : PI X tg e t' := fun pins s σ H R I q => h pins s σ H R I (i σ H R q)
theorem PTs.imp {ifs : List Expr} {t t' : TT} (h : PTs X ifs t) (i : ∀ σ H Q, t' σ H Q -> t σ H Q) : PTs X ifs t' := fun pins s σ H Q I q => h pins s σ H Q I (i σ H Q q)
theorem OpR.imp {f : Value -> Value -> Sem Value} {r r' : R2} (h : OpR X f r) (i : ∀ x y H Q, r' x y H Q -> r x y H Q) : OpR X f r' := fun pins s σ H x y v u Q I rx ry q => h pins s σ H x y v u Q I rx ry (i x y H Q q)
theorem zbq.imp {f : Value} {r r' : List V -> Hp -> VK -> Prop} (h : zbq X f r) (i : ∀ xs H Q, r' xs H Q -> r xs H Q) : zbq X f r' := fun pins s σ H xs us Q I rx q => h pins s σ H xs us Q I rx (i xs H Q q)
end
noncomputable abbrev Gx (c : Str -> Addr) (X : Cx) : Gc := ⟨X.K, c⟩
noncomputable def tD (G : Gc) (f : List Sl -> Option D) : TE := fun σ H Q => ∃ Hf0 H0 Hf ρ d, zab G Hf0 H0 Hf H σ ρ /\ f ρ = some d /\ ∀ v Hf' H', Ext Hf H Hf' H' -> Rep G Hf' d v -> Q v H'
noncomputable def tDB (G : Gc) (f : List Sl -> Option D) : TE := fun σ H Q => ∃ Hf0 H0 Hf ρ d, zab G Hf0 H0 Hf H σ ρ /\ f ρ = some d /\ ∀ v Hf' H', Ext Hf H Hf' H' -> Rep G H' d v -> Q v H'
noncomputable def tDC (G : Gc) (f : List Sl -> Option (List D)) : TE := fun σ H Q => ∃ Hf0 H0 Hf ρ ds, zab G Hf0 H0 Hf H σ ρ /\ f ρ = some ds /\ ∀ a vs Hf' H', Ext Hf H Hf' H' -> (SqL G.K H' a vs \/ SqT G.K H' a vs) -> zaa G Hf' ds vs -> Q (.ref a) H'
noncomputable def tDO (G : Gc) (f : List Sl -> Option (List D)) : TE := fun σ H Q => ∃ Hf0 H0 Hf ρ ds, zab G Hf0 H0 Hf H σ ρ /\ f ρ = some ds /\
  ∀ l vs Hf' H', Ext Hf H Hf' H' -> H l = none -> Hf' l = none -> H' l = some (.lst vs) -> zaa G Hf' ds vs -> Q (.ref l) H'
noncomputable def tDA (G : Gc) (f : List Sl -> Option (List D)) : TA := fun σ H Q => ∃ Hf0 H0 Hf ρ ds, zab G Hf0 H0 Hf H σ ρ /\ f ρ = some ds /\ ∀ vs Hf' H', Ext Hf H Hf' H' -> zaa G Hf' ds vs -> Q vs H'
noncomputable def zp8 (G : Gc) (f : List Sl -> Option (List D)) : TA := fun σ H Q => ∃ Hf0 H0 Hf ρ ds, zab G Hf0 H0 Hf H σ ρ /\ f ρ = some ds /\ ∀ vs Hf' H', Ext Hf H Hf' H' -> zaa G H' ds vs -> Q vs H'
noncomputable def tDT (G : Gc) (f : List Sl -> Option Bool) : TT := fun σ H Q => ∃ Hf0 H0 Hf ρ b, zab G Hf0 H0 Hf H σ ρ /\ f ρ = some b /\ ∀ Hf' H', Ext Hf H Hf' H' -> Q b H'
noncomputable def DE (c : Str -> Addr) (X : Cx) (e : Expr) (f : List Sl -> Option D) : Prop := PE X e (tD (Gx c X) f)
noncomputable def DB (c : Str -> Addr) (X : Cx) (e : Expr) (f : List Sl -> Option D) : Prop := PE X e (tDB (Gx c X) f)
noncomputable def DC (c : Str -> Addr) (X : Cx) (e : Expr) (f : List Sl -> Option (List D)) : Prop := PE X e (tDC (Gx c X) f)
noncomputable def DO (c : Str -> Addr) (X : Cx) (e : Expr) (f : List Sl -> Option (List D)) : Prop := PE X e (tDO (Gx c X) f)
structure DA (c : Str -> Addr) (X : Cx) (es : List Expr) (f : List Sl -> Option (List D)) : Prop where
  pa : PA X es (tDA (Gx c X) f)
  len : ∀ ρ ds, f ρ = some ds -> ds.length = es.length
structure DAB (c : Str -> Addr) (X : Cx) (es : List Expr) (f : List Sl -> Option (List D)) : Prop where
  pa : PA X es (zp8 (Gx c X) f)
  len : ∀ ρ ds, f ρ = some ds -> ds.length = es.length
noncomputable def DT (c : Str -> Addr) (X : Cx) (e : Expr) (f : List Sl -> Option Bool) : Prop := PT X e (tDT (Gx c X) f)
noncomputable def DW (c : Str -> Addr) (X : Cx) (e : Expr) (f : List Sl -> Option Bool) : Prop := PW X e (tDT (Gx c X) f)
noncomputable def D.scalar : D -> Bool
  | .non => true
  | .bl _ => true
  | .int _ => true
  | .str _ => true
  | _ => false
theorem Rep.sc {G : Gc} {H H' : Hp} {d : D} {v : V} (hs : d.scalar = true) (r : Rep G H d v) : Rep G H' d v := by
  cases d <;> first | exact r | cases hs
noncomputable def zdu : D -> Option (List D)
  | .lst xs => some xs
  | .tup xs => some xs
  | .kl xs => some xs
  | .kt xs => some xs
  | _ => none
theorem zh0 {G : Gc} {H : Hp} {d : D} {v : V} {ds : List D} (e : zdu d = some ds) (r : Rep G H d v) : ∃ a vs, v = .ref a /\ (SqL G.K H a vs \/ SqT G.K H a vs) /\ zaa G H ds vs := by
  cases d with
  | lst xs => cases e; obtain ⟨a, vs, e1, q, r⟩ := r; exact ⟨a, vs, e1, .inl (SqL.of q), r⟩
  | tup xs => cases e; obtain ⟨a, vs, e1, q, r⟩ := r; exact ⟨a, vs, e1, .inr (SqT.of q), r⟩
  | kl xs => cases e; obtain ⟨a, vs, e1, q, r⟩ := r; exact ⟨a, vs, e1, .inl q, r⟩
  | kt xs => cases e; obtain ⟨a, vs, e1, q, r⟩ := r; exact ⟨a, vs, e1, .inr q, r⟩
  | _ => cases e
theorem zi0 {K : PySem.W.Frag} {H H' : Hp} (s : zac H H') {a : Addr} {vs : List V} (h : SqL K H a vs \/ SqT K H a vs) : SqL K H' a vs \/ SqT K H' a vs := h.imp s.seq s.tup
noncomputable def zbo (f : List Sl -> Option (List D)) (ρ : List Sl) : Option D := (f ρ).map .lst
noncomputable def zeb (f : List Sl -> Option (List D)) (ρ : List Sl) : Option D := (f ρ).map .tup
noncomputable def zb1 (f : List Sl -> Option D) (ρ : List Sl) : Option (List D) := (f ρ).bind zdu
section
variable {c : Str -> Addr} {X : Cx} {e a b : Expr} {es : List Expr} {pos : Pos}
theorem DE.db {f : List Sl -> Option D} (h : DE c X e f) : DB c X e f := PE.imp h fun σ H Q q_ => by
  obtain ⟨Hf0, H0, Hf, ρ, d, st, ef, k⟩ := q_
  exact (⟨Hf0, H0, Hf, ρ, d, st, ef, fun v Hf' H' x r => k v Hf' H' x (r.up x.s)⟩)
theorem DE.dc {f : List Sl -> Option D} (h : DE c X e f) : DC c X e (zb1 f) := PE.imp h fun σ H Q q_ => by
  obtain ⟨Hf0, H0, Hf, ρ, ds, st, ef, k⟩ := q_
  unfold zb1 at ef
  cases ed : f ρ with
  | none => rw [ed] at ef; cases ef
  | some d =>
    rw [ed] at ef
    refine ⟨Hf0, H0, Hf, ρ, d, st, ed, fun v Hf' H' x r => ?_⟩
    obtain ⟨a, vs, e1, q, rs⟩ := zh0 ef r
    subst e1
    exact k a vs Hf' H' x (zi0 x.s q) rs
theorem DO.de {f : List Sl -> Option (List D)} (h : DO c X e f) : DE c X e (zbo f) := PE.imp h fun σ H Q q_ => by
  obtain ⟨Hf0, H0, Hf, ρ, d, st, ef, k⟩ := q_
  unfold zbo at ef
  cases ed : f ρ with
  | none => rw [ed] at ef; cases ef
  | some ds =>
    rw [ed] at ef
    have ef : D.lst ds = d := Option.some.inj ef
    subst ef
    exact ⟨Hf0, H0, Hf, ρ, ds, st, ed, fun l vs Hf' H' x hn hf hl r => k _ (upd Hf' l (.lst vs)) H' (x.fix hn hf hl) ⟨l, vs, rfl, zan, r.up (zai hf)⟩⟩
theorem DO.dc {f : List Sl -> Option (List D)} (h : DO c X e f) : DC c X e f := PE.imp h fun σ H Q q_ => by
  obtain ⟨Hf0, H0, Hf, ρ, ds, st, ef, k⟩ := q_
  exact (
  ⟨Hf0, H0, Hf, ρ, ds, st, ef, fun l vs Hf' H' x hn hf hl r => k l vs Hf' H' x (.inl (SqL.of hl)) r⟩)
theorem DB.sc {f : List Sl -> Option D} (h : DB c X e f) (hs : ∀ ρ d, f ρ = some d -> d.scalar = true) : DE c X e f := PE.imp h fun σ H Q q_ => by
  obtain ⟨Hf0, H0, Hf, ρ, d, st, ef, k⟩ := q_
  exact (
  ⟨Hf0, H0, Hf, ρ, d, st, ef, fun v Hf' H' x r => k v Hf' H' x (r.sc (hs ρ d ef))⟩)
noncomputable def zad (i : Nat) (ρ : List Sl) : Option D := match ρ[i]? with
  | some (.im d) => some d
  | _ => none
noncomputable def zde (i : Nat) (ρ : List Sl) : Option D := match ρ[i]? with
  | some (.im d) => some d
  | some (.own xs) => some (.lst xs)
  | some (.ownd ks xs) => some (.dic ks xs)
  | some (.deep o) => if o.kn then some o.toD else none
  | _ => none
noncomputable def zbm (i : Nat) (ρ : List Sl) : Option (List D) := match ρ[i]? with
  | some (.im d) => zdu d
  | some (.own xs) => some xs
  | _ => none
theorem zsw {i : Nat} {ρ : List Sl} {d : D} (h : zad i ρ = some d) : ρ[i]? = some (.im d) := by
  unfold zad at h
  cases e : ρ[i]? with
  | none => rw [e] at h; cases h
  | some s => rw [e] at h; cases s <;> cases h; rfl
theorem zog {i : Nat} (h : PE X e (zbt i)) : DE c X e (zad i) := PE.imp h fun σ H Q q_ => by
  obtain ⟨Hf0, H0, Hf, ρ, d, st, ef, k⟩ := q_
  obtain ⟨v, e1, r⟩ := st.imm (zsw ef)
  exact ⟨v, e1, k v Hf H (Ext.refl st.sub) r⟩
theorem zlk {i : Nat} (h : PE X e (zbt i)) : DC c X e (zbm i) := PE.imp h fun σ H Q q_ => by
  obtain ⟨Hf0, H0, Hf, ρ, ds, st, ef, k⟩ := q_
  unfold zbm at ef
  cases es : ρ[i]? with
  | none => rw [es] at ef; cases ef
  | some s =>
    rw [es] at ef
    cases s with
    | im d =>
      obtain ⟨v, e1, r⟩ := st.imm es
      obtain ⟨a, vs, e2, q, rs⟩ := zh0 ef r
      subst e2
      exact ⟨_, e1, k a vs Hf H (Ext.refl st.sub) (zi0 st.sub q) rs⟩
    | own xs =>
      cases ef
      obtain ⟨l, e1, _, _, vs, q, r⟩ := st.ownAt rfl es
      exact ⟨_, e1, k l vs Hf H (Ext.refl st.sub) (.inl (SqL.of q)) r⟩
    | _ => cases ef
theorem zrg {i : Nat} (h : PE X e (zbt i)) : DB c X e (zde i) := PE.imp h fun σ H Q q_ => by
  obtain ⟨Hf0, H0, Hf, ρ, d, st, ef, k⟩ := q_
  unfold zde at ef
  cases es : ρ[i]? with
  | none => rw [es] at ef; cases ef
  | some s =>
    rw [es] at ef
    cases s with
    | im d =>
      cases ef
      obtain ⟨v, e1, r⟩ := st.imm es
      exact ⟨_, e1, k v Hf H (Ext.refl st.sub) (r.up st.sub)⟩
    | own xs =>
      cases ef
      obtain ⟨l, e1, _, _, vs, q, r⟩ := st.ownAt rfl es
      exact ⟨_, e1, k _ Hf H (Ext.refl st.sub) ⟨l, vs, rfl, q, r.up st.sub⟩⟩
    | ownd ks xs =>
      cases ef
      obtain ⟨l, e1, _, _, vs, q, z, r⟩ := st.ownAt rfl es
      exact ⟨_, e1, k _ Hf H (Ext.refl st.sub) ⟨l, vs, rfl, q, z, r.up st.sub⟩⟩
    | deep o =>
      replace ef : (if o.kn = true then some o.toD else none) = some d := ef
      split at ef
      · rename_i hk
        cases ef
        obtain ⟨v, e1, u, fp, e2, r, _⟩ := st.slot es
        subst e2
        exact ⟨_, e1, k _ Hf H (Ext.refl st.sub) (r.rep st.sub hk)⟩
      · cases ef
    | _ => cases ef
theorem zkc {v : V} {d : D} (h : PE X e (tC v)) (r : ∀ G H, Rep G H d v) : DE c X e (fun _ => some d) := PE.imp h fun σ H Q q_ => by
  obtain ⟨Hf0, H0, Hf, ρ, d', st, ef, k⟩ := q_
  cases ef
  exact k v Hf H (Ext.refl st.sub) (r _ _)
theorem zak {i : Int} {j} : DE c X (.Constant (.int i) j pos) (fun _ => some (.int i)) := zkc zlb fun _ _ => rfl
theorem zgr {i : Bool} {j} : DE c X (.Constant (.bool i) j pos) (fun _ => some (.bl i)) := zkc ztl fun _ _ => rfl
theorem zbu {i : Str} {j} : DE c X (.Constant (.str i) j pos) (fun _ => some (.str i)) := zkc zss fun _ _ => rfl
theorem dv (i : Nat) {x : Str} (hN : X.N[i]? = some x := by rfl) (hv : Vis X.env.scope x := by first | exact Or.inl rfl | exact Or.inr (Or.inl rfl) | exact Or.inr (Or.inr rfl)) (hd : (x == ("__debug__" : Str)) = false := by decide)
    (hcd : (x == ("__classdict__" : Str)) = false := by decide) : DE c X (.Name x pos) (zad i) := zog (zc4 hN hv hd hcd)
theorem dvC (i : Nat) {x : Str} (hN : X.N[i]? = some x := by rfl) (hv : Vis X.env.scope x := by first | exact Or.inl rfl | exact Or.inr (Or.inl rfl) | exact Or.inr (Or.inr rfl)) (hd : (x == ("__debug__" : Str)) = false := by decide)
    (hcd : (x == ("__classdict__" : Str)) = false := by decide) : DC c X (.Name x pos) (zbm i) := zlk (zc4 hN hv hd hcd)
theorem dvB (i : Nat) {x : Str} (hN : X.N[i]? = some x := by rfl) (hv : Vis X.env.scope x := by first | exact Or.inl rfl | exact Or.inr (Or.inl rfl) | exact Or.inr (Or.inr rfl)) (hd : (x == ("__debug__" : Str)) = false := by decide)
    (hcd : (x == ("__classdict__" : Str)) = false := by decide) : DB c X (.Name x pos) (zde i) := zrg (zc4 hN hv hd hcd)
noncomputable def zaf (f : List Sl -> Option D) (g : List Sl -> Option (List D)) (ρ : List Sl) : Option (List D) := (f ρ).bind fun d => (g ρ).map fun ds => d :: ds
theorem zhq {f : List Sl -> Option D} {g : List Sl -> Option (List D)} {ρ : List Sl} {ds : List D} (h : zaf f g ρ = some ds) : ∃ d r, f ρ = some d /\ g ρ = some r /\ ds = d :: r := by
  unfold zaf at h
  cases e1 : f ρ with
  | none => rw [e1] at h; cases h
  | some d =>
    cases e2 : g ρ with
    | none => rw [e1, e2] at h; cases h
    | some r => rw [e1, e2] at h; cases h; exact ⟨d, r, rfl, rfl, rfl⟩
theorem zav : DA c X [] (fun _ => some []) := ⟨PA.imp zby fun σ H Q ⟨Hf0, H0, Hf, ρ, ds, st, ef, k⟩ => by cases ef; exact k [] Hf H (Ext.refl st.sub) rfl, fun ρ ds h => by cases h; rfl⟩
theorem zap {f : List Sl -> Option D} {g : List Sl -> Option (List D)} (ha : DE c X e f) (hr : DA c X es g) (hs : starEach (e :: es) X.env = (false, eval e X.env) :: starEach es X.env := by rfl) : DA c X (e :: es) (zaf f g) := by
  refine ⟨PA.imp (zbr ha hr.pa hs) fun σ H Q ⟨Hf0, H0, Hf, ρ, ds, st, ef, k⟩ => ?_, fun ρ ds h => ?_⟩
  · obtain ⟨d, r, e1, e2, rfl⟩ := zhq ef
    exact ⟨Hf0, H0, Hf, ρ, d, st, e1, fun v Hf1 H1 x1 r1 => ⟨Hf0, H0, Hf1, ρ, r, st.step x1, e2, fun vs Hf2 H2 x2 r2 => k _ Hf2 H2 (x1.trans x2) (.cons (r1.up x2.f) r2)⟩⟩
  · obtain ⟨d, r, e1, e2, rfl⟩ := zhq h
    simp [hr.len ρ r e2]
theorem zdj : DAB c X [] (fun _ => some []) := ⟨PA.imp zby fun σ H Q ⟨Hf0, H0, Hf, ρ, ds, st, ef, k⟩ => by cases ef; exact k [] Hf H (Ext.refl st.sub) rfl, fun ρ ds h => by cases h; rfl⟩
theorem zcn {f : List Sl -> Option D} {g : List Sl -> Option (List D)} (ha : DB c X e f) (hr : DAB c X es g) (hs : starEach (e :: es) X.env = (false, eval e X.env) :: starEach es X.env := by rfl) : DAB c X (e :: es) (zaf f g) := by
  refine ⟨PA.imp (zbr ha hr.pa hs) fun σ H Q ⟨Hf0, H0, Hf, ρ, ds, st, ef, k⟩ => ?_, fun ρ ds h => ?_⟩
  · obtain ⟨d, r, e1, e2, rfl⟩ := zhq ef
    exact ⟨Hf0, H0, Hf, ρ, d, st, e1, fun v Hf1 H1 x1 r1 => ⟨Hf0, H0, Hf1, ρ, r, st.step x1, e2, fun vs Hf2 H2 x2 r2 => k _ Hf2 H2 (x1.trans x2) (.cons (r1.up x2.h) r2)⟩⟩
  · obtain ⟨d, r, e1, e2, rfl⟩ := zhq h
    simp [hr.len ρ r e2]
theorem zbf {f : List Sl -> Option (List D)} (h : DA c X es f) (hz : es.length <= 1000 := by exact Nat.le_of_ble_eq_true rfl) : DO c X (.List es pos) f := PE.imp (zn1 h.pa) fun σ H Q ⟨Hf0, H0, Hf, ρ, ds, st, ef, k⟩ =>
  ⟨Hf0, H0, Hf, ρ, ds, st, ef, fun vs Hf' H' x r => ⟨by
    rw [<- r.length, h.len ρ ds ef]
    exact Nat.le_of_lt (zhg hz), fun p hp => k p vs Hf' (upd H' p (.lst vs)) (x.trans (Ext.tmp x.s hp)) (x.h.free hp) (x.s.free hp) zan r⟩⟩
theorem zjh {f : List Sl -> Option (List D)} {k' : Nat} (h : DA c X es f) (hz : es.length <= 1000 := by exact Nat.le_of_ble_eq_true rfl) : DE c X (.Tuple es k' pos) (zeb f) := PE.imp (zlg h.pa) fun σ H Q q_ => by
  obtain ⟨Hf0, H0, Hf, ρ, d, st, ef, k⟩ := q_
  unfold zeb at ef
  cases ed : f ρ with
  | none => rw [ed] at ef; cases ef
  | some ds =>
    rw [ed] at ef
    have ef : D.tup ds = d := Option.some.inj ef
    subst ef
    exact ⟨Hf0, H0, Hf, ρ, ds, st, ed, fun vs Hf' H' x r => ⟨by
      rw [<- r.length, h.len ρ ds ed]
      exact Nat.le_of_lt (zhg hz), fun p hp => k _ (upd Hf' p (.tup vs)) (upd H' p (.tup vs)) (x.trans (Ext.new x.s hp)) ⟨p, vs, rfl, zan, r.up (zai (x.s.free hp))⟩⟩⟩
noncomputable def rD (G : Gc) (m : D -> D -> Option D) : R2 := fun vx vy H Q => ∃ Hf x y d, zac Hf H /\ Rep G Hf x vx /\ Rep G Hf y vy /\ m x y = some d /\ ∀ v Hf' H', Ext Hf H Hf' H' -> Rep G Hf' d v -> Q v H'
noncomputable abbrev OpD (c : Str -> Addr) (X : Cx) (f : Value -> Value -> Sem Value) (m : D -> D -> Option D) : Prop := OpR X f (rD (Gx c X) m)
noncomputable def m2 (m : D -> D -> Option D) (f g : List Sl -> Option D) (ρ : List Sl) : Option D := (f ρ).bind fun x => (g ρ).bind fun y => m x y
theorem zj5 {m : D -> D -> Option D} {f g : List Sl -> Option D} {ρ : List Sl} {d : D} (h : m2 m f g ρ = some d) : ∃ x y, f ρ = some x /\ g ρ = some y /\ m x y = some d := by
  unfold m2 at h
  cases e1 : f ρ with
  | none => rw [e1] at h; cases h
  | some x =>
    cases e2 : g ρ with
    | none => rw [e1, e2] at h; cases h
    | some y => rw [e1, e2] at h; exact ⟨x, y, rfl, rfl, h⟩
theorem two {m : D -> D -> Option D} {f g : List Sl -> Option D} {r : R2} {σ : St} {H : Hp} {Q : VK} (hr : ∀ x y H Q, rD (Gx c X) m x y H Q -> r x y H Q) (h : tD (Gx c X) (m2 m f g) σ H Q) : tOp r (tD (Gx c X) f) (tD (Gx c X) g) σ H Q := by
  obtain ⟨Hf0, H0, Hf, ρ, d, st, ef, k⟩ := h
  obtain ⟨x, y, e1, e2, e3⟩ := zj5 ef
  exact ⟨Hf0, H0, Hf, ρ, x, st, e1, fun v Hf1 H1 x1 r1 => ⟨Hf0, H0, Hf1, ρ, y, st.step x1, e2, fun u Hf2 H2 x2 r2 => hr _ _ _ _ ⟨Hf2, x, y, d, x2.s, r1.up x2.f, r2, e3, fun w Hf3 H3 x3 r3 => k w Hf3 H3 ((x1.trans x2).trans x3) r3⟩⟩⟩
theorem zos {m : D -> D -> Option D} {f g : List Sl -> Option D} {r : R2} {σ : St} {H : Hp} {Q : VK} (hr : ∀ x y H Q, rD (Gx c X) m x y H Q -> r x y H Q) (hs : ∀ x y d, m x y = some d -> d.scalar = true) (h : tD (Gx c X) (m2 m f g) σ H Q) : tOp r (tDB (Gx c X) f) (tDB (Gx c X) g) σ H Q := by
  obtain ⟨Hf0, H0, Hf, ρ, d, st, ef, k⟩ := h
  obtain ⟨x, y, e1, e2, e3⟩ := zj5 ef
  exact ⟨Hf0, H0, Hf, ρ, x, st, e1, fun v Hf1 H1 x1 r1 => ⟨Hf0, H0, Hf1, ρ, y, st.step x1, e2, fun u Hf2 H2 x2 r2 => hr _ _ _ _ ⟨H2, x, y, d, zac.refl _, r1.up x2.h, r2, e3, fun w Hf3 H3 x3 r3 =>
    k w Hf2 H3 ((x1.trans x2).trans (Ext.grow x2.s x3.h)) (r3.sc (hs _ _ _ e3))⟩⟩⟩
theorem zbk {op : Operator} {m : D -> D -> Option D} {f g : List Sl -> Option D} (ho : OpD c X (binaryOp op) m) (ha : DE c X a f) (hb : DE c X b g) : DE c X (.BinOp a op b pos) (m2 m f g) :=
  PE.imp (zkp ho ha hb) fun _ _ _ h => two (fun _ _ _ _ h => h) h
theorem zqw {op : CmpOp} {m : D -> D -> Option D} {f g : List Sl -> Option D} (ho : OpD c X (compareOp op) m) (hs : ∀ x y d, m x y = some d -> d.scalar = true) (ha : DB c X a f) (hb : DB c X b g) (hm : behindInMarks op b = false := by first | exact zjk _ | rfl) :
    DE c X (.Compare a [op] [b] pos) (m2 m f g) := PE.imp (zwa ho ha hb hm) fun _ _ _ h => zos (fun _ _ _ _ h => h) hs h
noncomputable def mB (f : List Sl -> Option D) (ρ : List Sl) : Option Bool := (f ρ).bind fun d => match d with
  | .bl b => some b
  | _ => none
theorem zmr {f : List Sl -> Option D} {ρ : List Sl} {b : Bool} (h : mB f ρ = some b) : f ρ = some (.bl b) := by
  unfold mB at h
  cases e : f ρ with
  | none => rw [e] at h; cases h
  | some d => rw [e] at h; cases d <;> cases h; rfl
theorem zec {op : CmpOp} {m : D -> D -> Option D} {f g : List Sl -> Option D} (ho : OpD c X (compareOp op) m) (hs : ∀ x y d, m x y = some d -> d.scalar = true) (ha : DB c X a f) (hb : DB c X b g) (hm : behindInMarks op b = false := by first | exact zjk _ | rfl) :
    DT c X (.Compare a [op] [b] pos) (mB (m2 m f g)) := PT.imp (znz ho ha hb hm) fun σ H Q ⟨Hf0, H0, Hf, ρ, b, st, ef, k⟩ =>
  zos (fun _ _ _ _ h => h) hs ⟨Hf0, H0, Hf, ρ, .bl b, st, zmr ef, fun v Hf' H' x r => ⟨b, r, k Hf' H' x⟩⟩
noncomputable def zi6 : D -> Option Bool
  | .non => some false
  | .bl b => some b
  | .int i => some (i != 0)
  | .str x => if x.length <= 16777216 then some ((x.length : Int) != 0) else none
  | .lst xs => some (!xs.isEmpty)
  | .tup xs => some (!xs.isEmpty)
  | .kl xs => some (!xs.isEmpty)
  | .kt xs => some (!xs.isEmpty)
  | .dic ks _ => some (!ks.isEmpty)
  | _ => none
theorem zaa.empty {G : Gc} {H : Hp} {ds : List D} {vs : List V} (r : zaa G H ds vs) : ds.isEmpty = vs.isEmpty := by
  cases ds with
  | nil => cases (show vs = [] from r); rfl
  | cons d ds => obtain ⟨v, r', e, _⟩ := r; subst e; rfl
theorem zv7 {α β : Type} {ks : List α} {vs : List β} (h : ks.length = vs.length) : (ks.zip vs).isEmpty = ks.isEmpty := by
  cases ks <;> cases vs <;> first | rfl | cases h
theorem zse {G : Gc} {H : Hp} {d : D} {v : V} {b : Bool} (e : zi6 d = some b) (r : Rep G H d v) : ziz G.K v H b := by
  cases d with
  | non => cases e; cases r; rfl
  | bl x => cases e; cases r; rfl
  | int i => cases e; cases r; rfl
  | str x =>
    cases r
    replace e : (if x.length <= 16777216 then some ((x.length : Int) != 0) else none) = some b := e
    split at e
    · rename_i hl
      cases e
      exact ⟨by rw [sizeLine_eq]; exact hl, rfl⟩
    · cases e
  | lst xs => cases e; obtain ⟨a, vs, e1, q, r⟩ := r; subst e1; exact .inl ⟨vs, SqL.of q, by rw [r.empty]⟩
  | tup xs => cases e; obtain ⟨a, vs, e1, q, r⟩ := r; subst e1; exact .inr (.inl ⟨vs, SqT.of q, by rw [r.empty]⟩)
  | kl xs => cases e; obtain ⟨a, vs, e1, q, r⟩ := r; subst e1; exact .inl ⟨vs, q, by rw [r.empty]⟩
  | kt xs => cases e; obtain ⟨a, vs, e1, q, r⟩ := r; subst e1; exact .inr (.inl ⟨vs, q, by rw [r.empty]⟩)
  | dic ks xs => cases e; obtain ⟨a, vs, e1, q, l, r⟩ := r; subst e1; exact .inr (.inr ⟨_, q, by rw [zv7 l]⟩)
  | ins _ _ _ => cases e
  | kd _ _ => cases e
noncomputable def zcd (f : List Sl -> Option D) (ρ : List Sl) : Option Bool := (f ρ).bind zi6
theorem zhf {f : List Sl -> Option D} (ha : DB c X a f) (he : ∀ whole, isTrue a X.env whole = (do let v <- whole; standAt a.pos; holding [v] (truthy v)) := by intro _; rfl) : DT c X a (zcd f) :=
  PT.imp (zw0 ha he) fun σ H Q q_ => by
    obtain ⟨Hf0, H0, Hf, ρ, b, st, ef, k⟩ := q_
    unfold zcd at ef
    cases ed : f ρ with
    | none => rw [ed] at ef; cases ef
    | some d =>
      rw [ed] at ef
      exact ⟨Hf0, H0, Hf, ρ, d, st, ed, fun v Hf' H' x r => ⟨b, zse ef r, k Hf' H' x⟩⟩
noncomputable def zgo (f g : List Sl -> Option Bool) (ρ : List Sl) : Option Bool := (f ρ).bind fun b => if b then g ρ else some false
noncomputable def mOr (f g : List Sl -> Option Bool) (ρ : List Sl) : Option Bool := (f ρ).bind fun b => if b then some true else g ρ
noncomputable def zcg (f : List Sl -> Option Bool) (ρ : List Sl) : Option Bool := (f ρ).map not
theorem DW.dt {f : List Sl -> Option Bool} (h : DW c X e f) : DT c X e f := PW.pt h
theorem zig {f : List Sl -> Option Bool} (h : DT c X a f) : DW c X (.BoolOp .Or [a] pos) f := zwu h
theorem zgq {f g : List Sl -> Option Bool} {zam : List Expr} (h : DT c X a f) (h' : DW c X (.BoolOp .Or (b :: zam) pos) g) : DW c X (.BoolOp .Or (a :: b :: zam) pos) (mOr f g) := PW.imp (zvf h h') fun σ H Q q_ => by
  obtain ⟨Hf0, H0, Hf, ρ, b, st, ef, k⟩ := q_
  unfold mOr at ef
  cases e1 : f ρ with
  | none => rw [e1] at ef; cases ef
  | some x =>
    rw [e1] at ef
    refine ⟨Hf0, H0, Hf, ρ, x, st, e1, fun Hf1 H1 x1 => ?_⟩
    cases x with
    | false => rw [if_neg Bool.false_ne_true]; exact ⟨Hf0, H0, Hf1, ρ, b, st.step x1, ef, fun Hf2 H2 x2 => k Hf2 H2 (x1.trans x2)⟩
    | true => cases ef; rw [if_pos rfl]; exact k Hf1 H1 x1
theorem zik {f : List Sl -> Option Bool} (h : DT c X a f) : DT c X (.UnaryOp .Not a pos) (zcg f) := PT.imp (zvz h) fun σ H Q q_ => by
  obtain ⟨Hf0, H0, Hf, ρ, b, st, ef, k⟩ := q_
  unfold zcg at ef
  cases e1 : f ρ with
  | none => rw [e1] at ef; cases ef
  | some x =>
    rw [e1] at ef
    cases ef
    exact ⟨Hf0, H0, Hf, ρ, x, st, e1, fun Hf1 H1 x1 => k Hf1 H1 x1⟩
noncomputable def zgk (f g : List Sl -> Option D) (ρ : List Sl) : Option D := (mB f ρ).bind fun b => if b then g ρ else some (.bl false)
noncomputable def vOr (f g : List Sl -> Option D) (ρ : List Sl) : Option D := (mB f ρ).bind fun b => if b then some (.bl true) else g ρ
noncomputable def zor (f : List Sl -> Option D) (ρ : List Sl) : Option D := (mB f ρ).map fun b => .bl (!b)
theorem zpi {f : List Sl -> Option D} {op} (h : DE c X a f) : DE c X (.BoolOp op [a] pos) f := zsm h
theorem ztn {f g : List Sl -> Option D} {zam : List Expr} (h : DE c X a f) (h' : DE c X (.BoolOp .And (b :: zam) pos) g) : DE c X (.BoolOp .And (a :: b :: zam) pos) (zgk f g) := PE.imp (ztg h h') fun σ H Q q_ => by
  obtain ⟨Hf0, H0, Hf, ρ, d, st, ef, k⟩ := q_
  unfold zgk at ef
  cases e1 : mB f ρ with
  | none => rw [e1] at ef; cases ef
  | some x =>
    rw [e1] at ef
    refine ⟨Hf0, H0, Hf, ρ, .bl x, st, zmr e1, fun v Hf1 H1 x1 r1 => ⟨x, r1, ?_⟩⟩
    cases x with
    | true => rw [if_pos rfl]; exact ⟨Hf0, H0, Hf1, ρ, d, st.step x1, ef, fun v Hf2 H2 x2 r2 => k v Hf2 H2 (x1.trans x2) r2⟩
    | false => cases ef; rw [if_neg Bool.false_ne_true]; exact k _ Hf1 H1 x1 rfl
end
end L2
namespace L2
open PySem PySem.Spec PyProof.Rows
noncomputable instance {i j : Int} : Decidable (zfu i j) := by unfold zfu; infer_instance
noncomputable instance {i j : Int} : Decidable (zgb i j) := by unfold zgb; infer_instance
noncomputable instance {i j : Int} : Decidable (zd9 i j) := by unfold zd9; infer_instance
noncomputable def dI (C : Int -> Int -> Prop) [∀ i j, Decidable (C i j)] (g : Int -> Int -> D) : D -> D -> Option D
  | .int i, .int j => if C i j then some (g i j) else none
  | _, _ => none
noncomputable def dI0 (g : Int -> Int -> D) : D -> D -> Option D
  | .int i, .int j => some (g i j)
  | _, _ => none
noncomputable def zbj : D -> D -> Option D
  | .int i, .int j => some (.int (i + j))
  | .str a, .str b => if a.length + b.length <= 16777216 then some (.str (a ++ b)) else none
  | .lst a, .lst b => if a.length + b.length <= 16777216 then some (.lst (a ++ b)) else none
  | _, _ => none
noncomputable abbrev zep : D -> D -> Option D := dI0 fun i j => .int (i - j)
noncomputable abbrev zrq : D -> D -> Option D := dI zd9 fun i j => .int (i * j)
noncomputable abbrev zkl : D -> D -> Option D := dI zfu fun i j => .int (i / j)
noncomputable abbrev zeu : D -> D -> Option D := dI (fun _ j => 0 < j) fun i j => .int (i % j)
noncomputable abbrev zgv : D -> D -> Option D := dI zgb fun i j => .int (i ^ j.toNat)
noncomputable abbrev zw2 : D -> D -> Option D := dI (fun _ j => 0 <= j) fun i j => .int (i / 2 ^ j.toNat)
noncomputable abbrev zw1 : D -> D -> Option D := dI0 fun i j => .int (Builtin.bitAnd i j)
noncomputable abbrev dLt : D -> D -> Option D := dI0 fun i j => .bl (decide (i < j))
noncomputable abbrev dLe : D -> D -> Option D := dI0 fun i j => .bl (decide (i <= j))
noncomputable abbrev dGt : D -> D -> Option D := dI0 fun i j => .bl (decide (j < i))
noncomputable abbrev dGe : D -> D -> Option D := dI0 fun i j => .bl (decide (j <= i))
section
variable {c : Str -> Addr} {X : Cx}
theorem zhk {f : Value -> Value -> Sem Value} {C : Int -> Int -> Prop} [∀ i j, Decidable (C i j)] {g : Int -> Int -> V} {gd : Int -> Int -> D} (h : OpR X f (rI C g)) (hg : ∀ G H i j, Rep G H (gd i j) (g i j)) : OpD c X f (dI C gd) := by
  rintro pins s σ H vx vy v u Q I rx ry ⟨Hf, x, y, d, s0, r1, r2, e, k⟩
  unfold dI at e
  split at e
  · split at e
    · rename_i hc
      cases e
      exact h pins s σ H vx vy v u Q I rx ry ⟨_, _, r1, r2, hc, k _ Hf H (Ext.refl s0) (hg _ _ _ _)⟩
    · cases e
  · cases e
theorem zur {f : Value -> Value -> Sem Value} {g : Int -> Int -> V} {gd : Int -> Int -> D} (h : OpR X f (rI0 g)) (hg : ∀ G H i j, Rep G H (gd i j) (g i j)) : OpD c X f (dI0 gd) := by
  rintro pins s σ H vx vy v u Q I rx ry ⟨Hf, x, y, d, s0, r1, r2, e, k⟩
  unfold dI0 at e
  split at e
  · cases e
    exact h pins s σ H vx vy v u Q I rx ry ⟨_, _, r1, r2, k _ Hf H (Ext.refl s0) (hg _ _ _ _)⟩
  · cases e
theorem zcz : OpD c X (binaryOp .Add) zbj := by
  rintro pins s σ H vx vy v u Q I rx ry ⟨Hf, x, y, d, s0, r1, r2, e, k⟩
  unfold zbj at e
  split at e
  · cases e
    exact zr9 pins s σ H vx vy v u Q I rx ry ⟨_, _, r1, r2, k _ Hf H (Ext.refl s0) rfl⟩
  · split at e
    · rename_i hl
      cases e
      exact ztr pins s σ H vx vy v u Q I rx ry ⟨_, _, r1, r2, by rw [sizeLine_eq]; exact hl, k _ Hf H (Ext.refl s0) rfl⟩
    · cases e
  · split at e
    · rename_i hl
      cases e
      obtain ⟨a, vs, e1, q1, r1⟩ := r1
      obtain ⟨b, us, e2, q2, r2⟩ := r2
      exact zot pins s σ H vx vy v u Q I rx ry ⟨a, b, vs, us, e1, e2, s0 _ _ q1, s0 _ _ q2, by rw [sizeLine_eq, <- r1.length, <- r2.length]; exact hl,
        fun p hp => k _ (upd Hf p (.lst (vs ++ us))) (upd H p (.lst (vs ++ us))) (Ext.new s0 hp) ⟨p, _, rfl, zan, (r1.append r2).up (zai (s0.free hp))⟩⟩
    · cases e
  · cases e
theorem zix : OpD c X (binaryOp .Sub) zep := zur zpy fun _ _ _ _ => rfl
theorem zr1 : OpD c X (binaryOp .FloorDiv) zkl := zhk zr7 fun _ _ _ _ => rfl
theorem zhx : OpD c X (binaryOp .Mod) zeu := zhk zvj fun _ _ _ _ => rfl
theorem zjw : OpD c X (binaryOp .Pow) zgv := zhk zra fun _ _ _ _ => rfl
noncomputable def zer : D -> Option D
  | .int i => some (.int (-i))
  | _ => none
noncomputable def m1 (m : D -> Option D) (f : List Sl -> Option D) (ρ : List Sl) : Option D := (f ρ).bind m
theorem zoh {a : Expr} {f : List Sl -> Option D} {pos : Pos} (ha : DE c X a f) : DE c X (.UnaryOp .USub a pos) (m1 zer f) := PE.imp (zsa zrs ha) fun σ H Q q_ => by
  obtain ⟨Hf0, H0, Hf, ρ, d, st, ef, k⟩ := q_
  unfold m1 at ef
  cases e1 : f ρ with
  | none => rw [e1] at ef; cases ef
  | some y =>
    rw [e1] at ef
    cases y with
    | int i => cases ef; exact ⟨Hf0, H0, Hf, ρ, .int i, st, e1, fun v Hf' H' x r => ⟨i, r, k _ Hf' H' x rfl⟩⟩
    | _ => cases ef
theorem zkw {x : Option Bool} {g : Bool -> Bool} : ∀ d, x.map (fun b => D.bl (g b)) = some d -> d.scalar = true := by
  intro d e
  cases x with
  | none => cases e
  | some b => cases e; rfl
noncomputable def eqF : D -> D -> Bool
  | .non, .non => true
  | .bl a, .bl b => a == b
  | .int a, .int b => a == b
  | .str a, .str b => a == b
  | _, _ => false
noncomputable def za7 (f : D -> D -> Option Bool) : List D -> List D -> Option Bool
  | [], [] => some true
  | x :: xs, y :: ys => (f x y).bind fun b => (za7 f xs ys).map fun r => b && r
  | _, _ => some false
noncomputable def zkk : D -> D -> Bool
  | .bl _, .int _ => true
  | .int _, .bl _ => true
  | _, _ => false
noncomputable def zin (f : D -> D -> Option Bool) : D -> D -> Option Bool
  | .lst xs, .lst ys => if xs.length = ys.length then za7 f xs ys else some false
  | .tup xs, .tup ys => if xs.length = ys.length then za7 f xs ys else none
  | x, y => if x.scalar && y.scalar && !zkk x y then some (eqF x y) else none
noncomputable def deq : Nat -> D -> D -> Option Bool
  | 0, _, _ => none
  | n + 1, x, y => zin (deq n) x y
noncomputable def dEq (x y : D) : Option D := (deq 20 x y).map .bl
noncomputable def dNe (x y : D) : Option D := (deq 20 x y).map fun b => .bl (!b)
theorem zm2 : ∀ x y d, dEq x y = some d -> d.scalar = true := fun _ _ d e => zkw (g := id) d e
theorem zgu : ∀ x y d, dNe x y = some d -> d.scalar = true := fun _ _ d e => zkw (g := not) d e
theorem zlh {f : D -> D -> Option Bool} {x y : D} {xs ys : List D} {b : Bool} (h : za7 f (x :: xs) (y :: ys) = some b) : ∃ b1 b2, f x y = some b1 /\ za7 f xs ys = some b2 /\ b = (b1 && b2) := by
  unfold za7 at h
  cases e1 : f x y with
  | none => rw [e1] at h; cases h
  | some b1 =>
    cases e2 : za7 f xs ys with
    | none => rw [e1, e2] at h; cases h
    | some b2 => rw [e1, e2] at h; cases h; exact ⟨b1, b2, rfl, rfl, rfl⟩
theorem zet {f : D -> D -> Option Bool} : ∀ {xs ys : List D} {b : Bool}, xs.length = ys.length -> za7 f xs ys = some b -> ∃ e : Nat -> Bool, (∀ j x y, xs[j]? = some x -> ys[j]? = some y -> f x y = some (e j)) /\ (List.range xs.length).all e = b
  | [], [], b, _, h => by cases h; exact ⟨fun _ => true, fun j x y e => by simp at e, rfl⟩
  | x :: xs, y :: ys, b, hl, h => by
    obtain ⟨b1, b2, h1, h2, rfl⟩ := zlh h
    obtain ⟨e, he, ha⟩ := zet (by simpa using hl) h2
    refine ⟨fun j => match j with | 0 => b1 | j + 1 => e j, fun j x' y' ex ey => ?_, ?_⟩
    · cases j with
      | zero => simp at ex ey; subst ex ey; exact h1
      | succ j => exact he j x' y' (by simpa using ex) (by simpa using ey)
    · rw [List.length_cons, List.range_succ_eq_map, List.all_cons, List.all_map, <- ha]
      rfl
  | [], _ :: _, _, hl, _ => by cases hl
  | _ :: _, [], _, hl, _ => by cases hl
theorem zg9 {G : Gc} {H : Hp} {x y : D} {v u : V} (hs : (x.scalar && y.scalar && !zkk x y) = true) (r1 : Rep G H x v) (r2 : Rep G H y u) : zbp v = true /\ zbp u = true /\ eqV v u = eqF x y /\ zk3 v u = true /\ decide (v = u) = eqF x y := by
  cases x <;> first
    | (cases hs; done)
    | (cases y <;> first
      | (cases hs; done)
      | (cases r1; cases r2; refine ⟨rfl, rfl, rfl, rfl, ?_⟩; first | exact zkz | exact ziu | exact zjm | rfl))
theorem zhd {n : Nat} {x y : D} {b : Bool} (hs : ¬ (∃ xs ys, x = .lst xs /\ y = .lst ys) /\ ¬ (∃ xs ys, x = .tup xs /\ y = .tup ys)) (h : deq (n + 1) x y = some b) : (x.scalar && y.scalar && !zkk x y) = true /\ b = eqF x y := by
  replace h : zin (deq n) x y = some b := h
  unfold zin at h
  split at h
  · exact absurd ⟨_, _, rfl, rfl⟩ hs.1
  · exact absurd ⟨_, _, rfl, rfl⟩ hs.2
  · split at h
    · rename_i hc
      cases h
      exact ⟨hc, rfl⟩
    · cases h
theorem zmw {G : Gc} {H : Hp} : ∀ (n : Nat) {x y : D} {b : Bool} {v : V}, deq n x y = some b -> Rep G H x v -> Rep G H y v -> b = true := by
  intro n
  induction n with
  | zero => intro x y b v h; cases h
  | succ n ih =>
    have all : ∀ (xs ys : List D) (vs : List V) (b : Bool), zaa G H xs vs -> zaa G H ys vs -> za7 (deq n) xs ys = some b -> b = true := by
      intro xs
      induction xs with
      | nil =>
        intro ys vs b r1 r2 h
        cases (show vs = [] from r1)
        have : ys = [] := List.length_eq_zero_iff.mp r2.length
        subst this
        cases h; rfl
      | cons x xs ihx =>
        intro ys vs b r1 r2 h
        obtain ⟨v, r, e, h1, h2⟩ := r1
        subst e
        cases ys with
        | nil => cases (show v :: r = [] from r2)
        | cons y ys =>
          obtain ⟨v', r', e, h1', h2'⟩ := r2
          cases e
          obtain ⟨b1, b2, e1, e2, rfl⟩ := zlh h
          rw [ih e1 h1 h1', ihx ys _ b2 h2 h2' e2]
          rfl
    intro x y b v h r1 r2
    by_cases hl : ∃ xs ys, x = .lst xs /\ y = .lst ys
    · obtain ⟨xs, ys, rfl, rfl⟩ := hl
      obtain ⟨a, vs, e, q, r1⟩ := r1
      obtain ⟨a', vs', e', q', r2⟩ := r2
      subst e; cases e'
      rw [q] at q'; cases q'
      have hlen : xs.length = ys.length := r1.length.trans r2.length.symm
      replace h : (if xs.length = ys.length then za7 (deq n) xs ys else some false) = some b := h
      rw [if_pos hlen] at h
      exact all xs ys vs b r1 r2 h
    · by_cases ht : ∃ xs ys, x = .tup xs /\ y = .tup ys
      · obtain ⟨xs, ys, rfl, rfl⟩ := ht
        obtain ⟨a, vs, e, q, r1⟩ := r1
        obtain ⟨a', vs', e', q', r2⟩ := r2
        subst e; cases e'
        rw [q] at q'; cases q'
        have hlen : xs.length = ys.length := r1.length.trans r2.length.symm
        replace h : (if xs.length = ys.length then za7 (deq n) xs ys else none) = some b := h
        rw [if_pos hlen] at h
        exact all xs ys vs b r1 r2 h
      · obtain ⟨hs, rfl⟩ := zhd ⟨hl, ht⟩ h
        obtain ⟨_, _, _, _, e⟩ := zg9 hs r1 r2
        rw [<- e]
        exact decide_eq_true rfl
section
variable {pins : List (Addr × Obj)} {σ : St} {H : Hp} {s : Shared}
theorem ze1 {G : Gc} {xs ys : List D} {vs us : List V} {its its2 : List Value} {n : Nat} {A : Around} {e : Nat -> Bool} (r1 : zaa G H xs vs) (r2 : zaa G H ys us) (r : zae vs its) (r' : zae us its2)
    (he : ∀ j x y, xs[j]? = some x -> ys[j]? = some y -> deq n x y = some (e j))
    (ih : ∀ {x y : D} {b : Bool} {v u : V} {w w' : Value}, deq n x y = some b -> Rep G H x v -> Rep G H y u -> zah v w -> zah u w' -> SeqAt.EqAt A s w w' b) :
    ∀ j (h1 : j < its.toArray.size) (h2 : j < its2.toArray.size), SeqAt.EqAt A s its.toArray[j] its2.toArray[j] (e j) := fun j h1 h2 => by
  have h1' : j < its.length := by simpa using h1
  have h2' : j < its2.length := by simpa using h2
  obtain ⟨v, ev, rv⟩ := r.at' (i := j) (u := its[j]) (by simp [h1'])
  obtain ⟨u, eu, ru⟩ := r'.at' (i := j) (u := its2[j]) (by simp [h2'])
  obtain ⟨x, ex, rx⟩ := r1.get' ev
  obtain ⟨y, ey, ry⟩ := r2.get' eu
  exact ih (he j x y ex ey) rx ry rv ru
theorem zlv (I : Inv X pins σ H s) : ∀ (n : Nat) {A : Around} {x y : D} {b : Bool} {v u : V} {w w' : Value}, A.units + n < cLine -> deq n x y = some b -> Rep (Gx c X) H x v -> Rep (Gx c X) H y u -> zah v w -> zah u w' -> SeqAt.EqAt A s w w' b := by
  intro n
  induction n with
  | zero => intro A x y b v u w w' _ h; cases h
  | succ n ih =>
    intro A x y b v u w w' hu h r1 r2 rv ru
    have hin : ∀ {x y : D} {b : Bool} {v u : V} {w w' : Value}, deq n x y = some b -> Rep (Gx c X) H x v -> Rep (Gx c X) H y u -> zah v w -> zah u w' -> SeqAt.EqAt A.in1 s w w' b := fun h a b c d => ih (by rw [Around.in1_units]; omega) h a b c d
    by_cases hl : ∃ xs ys, x = .lst xs /\ y = .lst ys
    · obtain ⟨xs, ys, rfl, rfl⟩ := hl
      obtain ⟨a, vs, e, q, rs1⟩ := id r1
      obtain ⟨a', vs', e', q', rs2⟩ := id r2
      subst e e'
      cases rv; cases ru
      by_cases hab : a = a'
      · subst hab
        have := zmw (n + 1) h (show Rep (Gx c X) H (.lst xs) (.ref a) from ⟨a, vs, rfl, q, rs1⟩) ⟨a, vs', rfl, q', rs2⟩
        subst this
        exact SeqAt.EqAt.same _
      · refine SeqAt.EqAt.of_refs hab ?_
        obtain ⟨its, rr, pl, hz⟩ := I.list (SqL.of (K := X.K) q)
        obtain ⟨its2, rr2, pl2, hz2⟩ := I.list (SqL.of (K := X.K) q')
        have l1 := rr.length
        have l2 := rr2.length
        have l3 := rs1.length
        have l4 := rs2.length
        replace h : (if xs.length = ys.length then za7 (deq n) xs ys else some false) = some b := h
        split at h
        · rename_i hlen
          obtain ⟨ee, he, ha⟩ := zet hlen h
          have := SeqAt.RcAt.lists (A := A) (s := s) pl.isList pl2.isList (by simp only [List.size_toArray]; omega) (by omega) (ze1 (A := A.in1) (s := s) rs1 rs2 rr rr2 he hin)
          rw [List.size_toArray, <- l1, <- l3, ha] at this
          exact this
        · rename_i hlen
          cases h
          exact SeqAt.RcAt.lists_lengths (A := A) (s := s) pl.isList pl2.isList (by simp only [List.size_toArray, bne_iff_ne, ne_eq]; omega) (by omega)
    · by_cases ht : ∃ xs ys, x = .tup xs /\ y = .tup ys
      · obtain ⟨xs, ys, rfl, rfl⟩ := ht
        obtain ⟨a, vs, e, q, rs1⟩ := id r1
        obtain ⟨a', vs', e', q', rs2⟩ := id r2
        subst e e'
        cases rv; cases ru
        by_cases hab : a = a'
        · subst hab
          have := zmw (n + 1) h (show Rep (Gx c X) H (.tup xs) (.ref a) from ⟨a, vs, rfl, q, rs1⟩) ⟨a, vs', rfl, q', rs2⟩
          subst this
          exact SeqAt.EqAt.same _
        · refine SeqAt.EqAt.of_refs hab ?_
          obtain ⟨its, rr, pl, hz⟩ := I.tuple (SqT.of (K := X.K) q)
          obtain ⟨its2, rr2, pl2, hz2⟩ := I.tuple (SqT.of (K := X.K) q')
          have l1 := rr.length
          have l2 := rr2.length
          have l3 := rs1.length
          have l4 := rs2.length
          replace h : (if xs.length = ys.length then za7 (deq n) xs ys else none) = some b := h
          split at h
          · rename_i hlen
            obtain ⟨ee, he, ha⟩ := zet hlen h
            have := SeqAt.RcAt.tuples (A := A) (s := s) (show s.heap.IsTuple a its.toArray from pl) (show s.heap.IsTuple a' its2.toArray from pl2) (by omega) (ze1 (A := A.in1) (s := s) rs1 rs2 rr rr2 he hin)
            have hsz : its.toArray.size = its2.toArray.size := by simp only [List.size_toArray]; omega
            rw [<- hsz, Nat.min_self, beq_self_eq_true, Bool.and_true, List.size_toArray, <- l1, <- l3, ha] at this
            exact this
          · cases h
      · obtain ⟨hs, rfl⟩ := zhd ⟨hl, ht⟩ h
        obtain ⟨f1, f2, e, _, _⟩ := zg9 hs r1 r2
        rw [<- e]
        exact zmt rv ru f1 f2
end
theorem zk1 (hu : X.A.units + 64 < cLine) : OpD c X (compareOp .Eq) dEq := by
  rintro pins s σ H v u w w' Q I rv ru ⟨Hf, x, y, d, s0, r1, r2, e, k⟩
  unfold dEq at e
  cases h : deq 20 x y with
  | none => rw [h] at e; cases e
  | some b =>
    rw [h] at e
    cases e
    have q0 := k (.bl b) Hf H (Ext.refl s0) rfl
    have fin : EP X pins σ Q (.bool b) s := ⟨.bl b, H, I, rfl, q0⟩
    have r1 := r1.up s0
    have r2 := r2.up s0
    have hin : ∀ {x y : D} {b : Bool} {v u : V} {w w' : Value}, deq 19 x y = some b -> Rep (Gx c X) H x v -> Rep (Gx c X) H y u -> zah v w -> zah u w' -> SeqAt.EqAt X.A.in1 s w w' b := fun h a b c d => zlv I 19 (by rw [Around.in1_units]; omega) h a b c d
    by_cases hl : ∃ xs ys, x = .lst xs /\ y = .lst ys
    · obtain ⟨xs, ys, rfl, rfl⟩ := hl
      obtain ⟨a, vs, e, q, rs1⟩ := id r1
      obtain ⟨a', vs', e', q', rs2⟩ := id r2
      subst e e'
      cases rv; cases ru
      obtain ⟨its, rr, pl, hz⟩ := I.list (SqL.of (K := X.K) q)
      obtain ⟨its2, rr2, pl2, hz2⟩ := I.list (SqL.of (K := X.K) q')
      have l1 := rr.length
      have l2 := rr2.length
      have l3 := rs1.length
      have l4 := rs2.length
      replace h : (if xs.length = ys.length then za7 (deq 19) xs ys else some false) = some b := h
      split at h
      · rename_i hlen
        obtain ⟨ee, he, ha⟩ := zet hlen h
        refine SeqAt.eq_listAt pl.isList pl2.isList (by simp only [List.size_toArray]; omega) (by omega) (ze1 rs1 rs2 rr rr2 he hin) ?_
        rw [List.size_toArray, <- l1, <- l3, ha]
        exact fin
      · rename_i hlen
        cases h
        exact SeqAt.eq_list_lengthsAt pl.isList pl2.isList (by simp only [List.size_toArray, bne_iff_ne, ne_eq]; omega) (by omega) fin
    · by_cases ht : ∃ xs ys, x = .tup xs /\ y = .tup ys
      · obtain ⟨xs, ys, rfl, rfl⟩ := ht
        obtain ⟨a, vs, e, q, rs1⟩ := id r1
        obtain ⟨a', vs', e', q', rs2⟩ := id r2
        subst e e'
        cases rv; cases ru
        obtain ⟨its, rr, pl, hz⟩ := I.tuple (SqT.of (K := X.K) q)
        obtain ⟨its2, rr2, pl2, hz2⟩ := I.tuple (SqT.of (K := X.K) q')
        have l1 := rr.length
        have l2 := rr2.length
        have l3 := rs1.length
        have l4 := rs2.length
        replace h : (if xs.length = ys.length then za7 (deq 19) xs ys else none) = some b := h
        split at h
        · rename_i hlen
          obtain ⟨ee, he, ha⟩ := zet hlen h
          refine SeqAt.eq_tupleAt (show s.heap.IsTuple a its.toArray from pl) (show s.heap.IsTuple a' its2.toArray from pl2) (by omega) (ze1 rs1 rs2 rr rr2 he hin) ?_
          have hsz : its.toArray.size = its2.toArray.size := by simp only [List.size_toArray]; omega
          rw [<- hsz, Nat.min_self, beq_self_eq_true, Bool.and_true, List.size_toArray, <- l1, <- l3, ha]
          exact fin
        · cases h
      · obtain ⟨hs, rfl⟩ := zhd ⟨hl, ht⟩ h
        obtain ⟨_, _, _, hsc, e⟩ := zg9 hs r1 r2
        exact zpb pins s σ H v u w w' Q I rv ru ⟨hsc, by rw [e]; exact q0⟩
theorem zg3 (hu : X.A.units + 64 < cLine) : OpD c X (compareOp .NotEq) dNe := by
  rintro pins s σ H v u w w' Q I rv ru ⟨Hf, x, y, d, s0, r1, r2, e, k⟩
  unfold dNe at e
  cases h : deq 20 x y with
  | none => rw [h] at e; cases e
  | some b =>
    rw [h] at e
    cases e
    have q0 := k (.bl (!b)) Hf H (Ext.refl s0) rfl
    have fin : EP X pins σ Q (.bool (!b)) s := ⟨.bl (!b), H, I, rfl, q0⟩
    have r1 := r1.up s0
    have r2 := r2.up s0
    have hin : ∀ {x y : D} {b : Bool} {v u : V} {w w' : Value}, deq 19 x y = some b -> Rep (Gx c X) H x v -> Rep (Gx c X) H y u -> zah v w -> zah u w' -> SeqAt.EqAt X.A.in1 s w w' b := fun h a b c d => zlv I 19 (by rw [Around.in1_units]; omega) h a b c d
    by_cases hl : ∃ xs ys, x = .lst xs /\ y = .lst ys
    · obtain ⟨xs, ys, rfl, rfl⟩ := hl
      obtain ⟨a, vs, e, q, rs1⟩ := id r1
      obtain ⟨a', vs', e', q', rs2⟩ := id r2
      subst e e'
      cases rv; cases ru
      obtain ⟨its, rr, pl, hz⟩ := I.list (SqL.of (K := X.K) q)
      obtain ⟨its2, rr2, pl2, hz2⟩ := I.list (SqL.of (K := X.K) q')
      have l1 := rr.length
      have l2 := rr2.length
      have l3 := rs1.length
      have l4 := rs2.length
      replace h : (if xs.length = ys.length then za7 (deq 19) xs ys else some false) = some b := h
      split at h
      · rename_i hlen
        obtain ⟨ee, he, ha⟩ := zet hlen h
        refine SeqAt.RcNeAt.lists (A := X.A) (s := s) pl.isList pl2.isList (by simp only [List.size_toArray]; omega) (by omega) (ze1 rs1 rs2 rr rr2 he hin) X.prog X.w X.xe _ ?_
        rw [List.size_toArray, <- l1, <- l3, ha]
        exact fin
      · rename_i hlen
        cases h
        exact SeqAt.RcNeAt.lists_lengths (A := X.A) (s := s) pl.isList pl2.isList (by simp only [List.size_toArray, bne_iff_ne, ne_eq]; omega) (by omega) X.prog X.w X.xe _ fin
    · by_cases ht : ∃ xs ys, x = .tup xs /\ y = .tup ys
      · obtain ⟨xs, ys, rfl, rfl⟩ := ht
        obtain ⟨a, vs, e, q, rs1⟩ := id r1
        obtain ⟨a', vs', e', q', rs2⟩ := id r2
        subst e e'
        cases rv; cases ru
        obtain ⟨its, rr, pl, hz⟩ := I.tuple (SqT.of (K := X.K) q)
        obtain ⟨its2, rr2, pl2, hz2⟩ := I.tuple (SqT.of (K := X.K) q')
        have l1 := rr.length
        have l2 := rr2.length
        have l3 := rs1.length
        have l4 := rs2.length
        replace h : (if xs.length = ys.length then za7 (deq 19) xs ys else none) = some b := h
        split at h
        · rename_i hlen
          obtain ⟨ee, he, ha⟩ := zet hlen h
          refine SeqAt.RcNeAt.tuples (A := X.A) (s := s) (show s.heap.IsTuple a its.toArray from pl) (show s.heap.IsTuple a' its2.toArray from pl2) (by omega) (ze1 rs1 rs2 rr rr2 he hin) X.prog X.w X.xe _ ?_
          have hsz : its.toArray.size = its2.toArray.size := by simp only [List.size_toArray]; omega
          rw [<- hsz, Nat.min_self, beq_self_eq_true, Bool.and_true, List.size_toArray, <- l1, <- l3, ha]
          exact fin
        · cases h
      · obtain ⟨hs, rfl⟩ := zhd ⟨hl, ht⟩ h
        obtain ⟨_, _, _, hsc, e⟩ := zg9 hs r1 r2
        exact zt3 pins s σ H v u w w' Q I rv ru ⟨hsc, by rw [e]; exact q0⟩
noncomputable def eqX : D -> D -> Bool
  | .non, .non => true
  | .bl a, .bl b => a == b
  | .bl a, .int b => (if a then 1 else 0) == b
  | .int a, .bl b => a == (if b then 1 else 0)
  | .int a, .int b => a == b
  | .str a, .str b => a == b
  | _, _ => false
noncomputable def inD (x y : D) : Option Bool := (zdu y).bind fun ds => if x.scalar && ds.all D.scalar then some (ds.any fun d => eqX d x) else none
noncomputable def zfq (x y : D) : Option D := (inD x y).map fun b => .bl (!b)
theorem zvn : ∀ x y d, zfq x y = some d -> d.scalar = true := fun _ _ d e => zkw (g := not) d e
theorem zq0 {G : Gc} {H : Hp} {x y : D} {v u : V} (hx : x.scalar = true) (hy : y.scalar = true) (r1 : Rep G H x v) (r2 : Rep G H y u) : zbp v = true /\ zbp u = true /\ eqV v u = eqX x y := by
  cases x <;> first
    | (cases hx; done)
    | (cases y <;> first
      | (cases hy; done)
      | (cases r1; cases r2; exact ⟨rfl, rfl, rfl⟩))
theorem zm3 {G : Gc} {H : Hp} {x : D} {v : V} (hx : x.scalar = true) (r : Rep G H x v) : ∀ {ds : List D} {vs : List V}, ds.all D.scalar = true -> zaa G H ds vs -> vs.all zbp = true /\ inV v vs = ds.any fun d => eqX d x
  | [], _, _, h => by cases (show _ = [] from h); exact ⟨rfl, rfl⟩
  | d :: ds, _, ha, ⟨u, r', e, h1, h2⟩ => by
    subst e
    rw [List.all_cons, Bool.and_eq_true] at ha
    obtain ⟨f1, f2, e⟩ := zq0 ha.1 hx h1 r
    obtain ⟨g1, g2⟩ := zm3 hx r ha.2 h2
    refine ⟨by rw [List.all_cons, f1, g1]; rfl, ?_⟩
    unfold inV at g2 ⊢
    rw [List.any_cons, List.any_cons, e, g2]
theorem zta {G : Gc} {H : Hp} {x y : D} {v u : V} {b : Bool} (e : inD x y = some b) (r1 : Rep G H x v) (r2 : Rep G H y u) : ∃ p vs, u = .ref p /\ (SqL G.K H p vs \/ SqT G.K H p vs) /\ zbp v = true /\ vs.all zbp = true /\ inV v vs = b := by
  unfold inD at e
  cases es : zdu y with
  | none => rw [es] at e; cases e
  | some ds =>
    rw [es] at e
    replace e : (if (x.scalar && ds.all D.scalar) = true then some (ds.any fun d => eqX d x) else none) = some b := e
    split at e
    · rename_i hc
      cases e
      rw [Bool.and_eq_true] at hc
      obtain ⟨a, vs, e1, q, r⟩ := zh0 es r2
      obtain ⟨g1, g2⟩ := zm3 hc.1 r1 hc.2 r
      have f : zbp v = true := by cases x <;> first | (cases r1; rfl) | (cases hc.1)
      exact ⟨a, vs, e1, q, f, g1, g2⟩
    · cases e
theorem zrv : OpD c X (compareOp .NotIn) zfq := by
  rintro pins s σ H v u w w' Q I rv ru ⟨Hf, x, y, d, s0, r1, r2, e, k⟩
  unfold zfq at e
  cases h : inD x y with
  | none => rw [h] at e; cases e
  | some b =>
    rw [h] at e
    cases e
    obtain ⟨p, vs, e1, q, f1, f2, e2⟩ := zta h (r1.up s0) (r2.up s0)
    refine zsg pins s σ H v u w w' Q I rv ru ⟨p, vs, e1, q, f1, f2, ?_⟩
    rw [if_pos rfl, e2]
    exact k _ Hf H (Ext.refl s0) rfl
end
end L2
namespace L2
open PySem PySem.Spec PyProof.Rows
section
variable {c : Str -> Addr} {X : Cx} {e a b o : Expr} {es : List Expr} {pos p apos : Pos}
theorem zj3 {G : Gc} {H : Hp} {ds : List D} {vs : List V} {i : Int} {d : D} (h : atI ds i = some d) (r : zaa G H ds vs) : ∃ v, atI vs i = some v /\ Rep G H d v := by
  unfold atI at h ⊢
  rw [<- r.length]
  cases e : ixN ds.length i with
  | none => rw [e] at h; cases h
  | some j =>
    rw [e] at h
    exact r.get h
noncomputable def ixD (ds : List D) : D -> Option D
  | .int k => atI ds k
  | _ => none
noncomputable def mIx (f : List Sl -> Option (List D)) (g : List Sl -> Option D) (ρ : List Sl) : Option D := (f ρ).bind fun ds => (g ρ).bind fun i => ixD ds i
theorem zc0 {f : List Sl -> Option (List D)} {g : List Sl -> Option D} (ha : DC c X a f) (hb : DE c X b g) (hs : zjc b := by exact fun _ _ => rfl) : DE c X (.Subscript a b pos) (mIx f g) :=
  PE.imp (zj0 (zku.or zkm) ha hb hs) fun σ H Q q_ => by
    obtain ⟨Hf0, H0, Hf, ρ, d, st, ef, k⟩ := q_
    unfold mIx at ef
    cases e1 : f ρ with
    | none => rw [e1] at ef; cases ef
    | some ds =>
      cases e2 : g ρ with
      | none => rw [e1, e2] at ef; cases ef
      | some i =>
        rw [e1, e2] at ef
        replace ef : ixD ds i = some d := ef
        cases i with
        | int n =>
          replace ef : atI ds n = some d := ef
          refine ⟨Hf0, H0, Hf, ρ, ds, st, e1, fun l vs Hf1 H1 x1 q r => ⟨Hf0, H0, Hf1, ρ, .int n, st.step x1, e2, fun u Hf2 H2 x2 r2 => ?_⟩⟩
          cases (show u = V.int n from r2)
          obtain ⟨v, ev, rv⟩ := zj3 ef r
          have fin := k v Hf2 H2 (x1.trans x2) (rv.up x2.f)
          rcases q with q | q
          · exact .inl ⟨l, vs, n, v, rfl, rfl, x2.h.seq q, ev, fin⟩
          · exact .inr ⟨l, vs, n, v, rfl, rfl, x2.h.tup q, ev, fin⟩
        | _ => cases ef
noncomputable def zgl (xs : List D) (lo hi : Option Int) : List D := (xs.drop (HT.sIx xs.length 0 lo)).take (HT.sIx xs.length xs.length hi - HT.sIx xs.length 0 lo)
noncomputable def lsD : D -> Option (List D)
  | .lst xs => some xs
  | .kl xs => some xs
  | _ => none
theorem zjv {G : Gc} {H : Hp} {d : D} {v : V} {ds : List D} (e : lsD d = some ds) (r : Rep G H d v) : ∃ a vs, v = .ref a /\ SqL G.K H a vs /\ zaa G H ds vs := by
  cases d with
  | lst xs => cases e; obtain ⟨a, vs, e1, q, r⟩ := r; exact ⟨a, vs, e1, SqL.of q, r⟩
  | kl xs => cases e; obtain ⟨a, vs, e1, q, r⟩ := r; exact ⟨a, vs, e1, q, r⟩
  | _ => cases e
noncomputable def mSl (f : List Sl -> Option D) (l h : List Sl -> Option (Option Int)) (ρ : List Sl) : Option (List D) := (f ρ).bind fun d => (lsD d).bind fun ds => (l ρ).bind fun lo => (h ρ).map fun hi => zgl ds lo hi
noncomputable def rCD (G : Gc) (m : List D -> Option D) : List V -> Hp -> VK -> Prop := fun vs H Q => ∃ Hf ds d, zac Hf H /\ zaa G Hf ds vs /\ m ds = some d /\ ∀ v Hf' H', Ext Hf H Hf' H' -> Rep G Hf' d v -> Q v H'
noncomputable abbrev zlt (c : Str -> Addr) (X : Cx) (f : Value) (m : List D -> Option D) : Prop := zbq X f (rCD (Gx c X) m)
noncomputable def za4 (m : List D -> Option D) (f : List Sl -> Option (List D)) (ρ : List Sl) : Option D := (f ρ).bind m
theorem zjb {m : List D -> Option D} {f : List Sl -> Option (List D)} {ρ : List Sl} {d : D} (h : za4 m f ρ = some d) : ∃ ds, f ρ = some ds /\ m ds = some d := by
  unfold za4 at h
  cases e : f ρ with
  | none => rw [e] at h; cases h
  | some ds => rw [e] at h; exact ⟨ds, rfl, h⟩
theorem zd7 {m : List D -> Option D} {f : List Sl -> Option (List D)} {x : Str} {id : String} (hc : zlt c X (.builtin id) m) (hs : ∀ ds d, m ds = some d -> d.scalar = true) (hg : Gl X x) (hm : X.mg x = none) (hv : bootBuiltins x = some (.builtin id)) (ha : DAB c X (e :: es) f) (hn : x ≠ "__name__" := by decide) (hdb : (x == ("__debug__" : Str)) = false := by decide)
    (he : starEach (e :: es) X.env = (false, eval e X.env) :: starEach es X.env := by rfl) (hpl : (backTo pos (starEach es X.env)).any (·.1) = false := by rfl) :
    DE c X (.Call (.Name x p) (e :: es) [] pos) (za4 m f) := PE.imp (zi9 hc hg hm hv ha.pa hn hdb he hpl) fun σ H Q q_ => by
  obtain ⟨Hf0, H0, Hf, ρ, d, st, ef, k⟩ := q_
  obtain ⟨ds, e1, e2⟩ := zjb ef
  exact ⟨Hf0, H0, Hf, ρ, ds, st, e1, fun vs Hf' H' x r => ⟨H', ds, d, zac.refl _, r, e2, fun v Hf2 H2 x2 r2 => k v Hf' H2 (x.trans (Ext.grow x.s x2.h)) (r2.sc (hs _ _ e2))⟩⟩
noncomputable def za3 : List D -> Option D
  | [.lst xs] => some (.int xs.length)
  | [.tup xs] => some (.int xs.length)
  | [.kl xs] => some (.int xs.length)
  | [.kt xs] => some (.int xs.length)
  | [.str x] => if x.length <= 16777216 then some (.int x.length) else none
  | _ => none
theorem zaa.one {G : Gc} {H : Hp} {d : D} {vs : List V} (r : zaa G H [d] vs) : ∃ v, vs = [v] /\ Rep G H d v := by
  obtain ⟨v, r', e, h, q⟩ := r
  cases (show r' = [] from q)
  exact ⟨v, e, h⟩
theorem zaa.two {G : Gc} {H : Hp} {d d' : D} {vs : List V} (r : zaa G H [d, d'] vs) : ∃ v v', vs = [v, v'] /\ Rep G H d v /\ Rep G H d' v' := by
  obtain ⟨v, r', e, h, q⟩ := r
  obtain ⟨v', e', h'⟩ := q.one
  subst e'
  exact ⟨v, v', e, h, h'⟩
theorem zen : zlt c X (.builtin "len") za3 := by
  rintro pins s σ H vs us Q I rv ⟨Hf, ds, d, s0, r, e, k⟩
  have sq : ∀ (d0 : D) (xs : List D), ds = [d0] -> zdu d0 = some xs -> d = .int xs.length -> wpAny (model X.prog X.w) X.A (call (.builtin "len") us) (EP X pins σ Q) X.xe s := fun d0 xs ed es e0 => by
    subst ed e0
    obtain ⟨v, e1, r1⟩ := r.one
    subst e1
    obtain ⟨a, ws, e2, q, rs⟩ := zh0 es r1
    subst e2
    refine zu2 pins s σ H _ us Q I rv ⟨a, ws, rfl, zi0 s0 q, ?_⟩
    rw [<- rs.length]
    exact k _ Hf H (Ext.refl s0) rfl
  unfold za3 at e
  split at e
  · cases e; exact sq _ _ rfl rfl rfl
  · cases e; exact sq _ _ rfl rfl rfl
  · cases e; exact sq _ _ rfl rfl rfl
  · cases e; exact sq _ _ rfl rfl rfl
  · split at e
    · rename_i hl
      cases e
      obtain ⟨v, e1, r1⟩ := r.one
      subst e1
      exact ztz pins s σ H _ us Q I rv ⟨_, by rw [show v = V.str _ from r1], by rw [sizeLine_eq]; exact hl, k _ Hf H (Ext.refl s0) rfl⟩
    · cases e
  · cases e
theorem zd0 : ∀ ds d, za3 ds = some d -> d.scalar = true := by
  intro ds d e
  unfold za3 at e
  split at e <;> first | (cases e; done) | (cases e; rfl) | (split at e <;> first | (cases e; done) | (cases e; rfl))
theorem zng {f : List Sl -> Option (List D)} {x : Str} (hx : bootBuiltins x = some (.type "list")) (hg : Gl X x) (hm : X.mg x = none) (ha : DC c X e f) (hs : starEach [e] X.env = (false, eval e X.env) :: starEach [] X.env := by rfl) (hn : x ≠ "__name__" := by decide) (hdb : (x == ("__debug__" : Str)) = false := by decide)
    (hpl : (backTo pos (starEach [] X.env)).any (·.1) = false := by rfl) : DO c X (.Call (.Name x p) [e] [] pos) f :=
  PE.imp (zmj zpa hg hm hx (zbr ha zby hs) hn hdb hs hpl) fun σ H Q ⟨Hf0, H0, Hf, ρ, ds, st, ef, k⟩ =>
    ⟨Hf0, H0, Hf, ρ, ds, st, ef, fun a vs Hf' H' x q r => ⟨a, vs, rfl, q, fun l hl => k l vs Hf' (upd H' l (.lst vs)) (x.trans (Ext.tmp x.s hl)) (x.h.free hl) (x.s.free hl) zan r⟩⟩
noncomputable def tyN : D -> Option String
  | .non => some "NoneType"
  | .bl _ => some "bool"
  | .int _ => some "int"
  | .str _ => some "str"
  | .lst _ => some "list"
  | .tup _ => some "tuple"
  | .dic _ _ => some "dict"
  | _ => none
noncomputable def zkh (T : String) (d : D) : Option D := (tyN d).map fun t => .bl (t == T || (t == "bool" && T == "int"))
theorem zqx {G : Gc} {H : Hp} {d : D} {v : V} {t : String} (e : tyN d = some t) (r : Rep G H d v) : zb2 G.K H v (.type t) := by
  cases d with
  | non => cases e; cases r; exact .non
  | bl b => cases e; cases r; exact .bl b
  | int i => cases e; cases r; exact .int i
  | str x => cases e; cases r; exact .str x
  | lst xs => cases e; obtain ⟨a, vs, e1, q, r⟩ := r; subst e1; exact .lst q
  | tup xs => cases e; obtain ⟨a, vs, e1, q, r⟩ := r; subst e1; exact .tup q
  | dic ks xs => cases e; obtain ⟨a, vs, e1, q, l, r⟩ := r; subst e1; exact .dK q
  | _ => cases e
noncomputable def zki (K : PySem.W.Frag) (T : String) : Prop := ∀ t ∈ ["NoneType", "bool", "int", "str", "list", "tuple", "dict"], PySem.W.kitOne K (.type t) (.type T) = some (t == T || (t == "bool" && T == "int"))
theorem zp9 {d : D} {t : String} (e : tyN d = some t) : t ∈ ["NoneType", "bool", "int", "str", "list", "tuple", "dict"] := by
  cases d <;> first | (cases e; decide) | cases e
noncomputable def zdb (T : String) (f : List Sl -> Option D) (ρ : List Sl) : Option D := (f ρ).bind (zkh T)
theorem zji {f : List Sl -> Option D} {T : String} {q1 : Pos} {y : Str} (hk : zki X.K T) (hg : Gl X "isinstance") (hm : X.mg "isinstance" = none) (hy : bootBuiltins y = some (.type T)) (hgy : Gl X y) (hmy : X.mg y = none) (ha : DB c X e f)
    (hs : starEach [e, .Name y q1] X.env = (false, eval e X.env) :: starEach [.Name y q1] X.env := by rfl) (hs2 : starEach [.Name y q1] X.env = (false, eval (.Name y q1) X.env) :: starEach [] X.env := by rfl)
    (hn : y ≠ "__name__" := by decide) (hdb : (y == ("__debug__" : Str)) = false := by decide) (hpl : (backTo pos (starEach [.Name y q1] X.env)).any (·.1) = false := by rfl) :
    DE c X (.Call (.Name "isinstance" p) [e, .Name y q1] [] pos) (zdb T f) :=
  PE.imp (zi9 zrj hg hm boot_isinstance (zbr ha (zbr (zpo (v := .ty T) hgy hmy hy rfl hn hdb) zby hs2) hs) (by decide) (by decide) hs hpl) fun σ H Q q_ => by
    obtain ⟨Hf0, H0, Hf, ρ, d, st, ef, k⟩ := q_
    unfold zdb at ef
    cases e1 : f ρ with
    | none => rw [e1] at ef; cases ef
    | some x =>
      rw [e1] at ef
      replace ef : zkh T x = some d := ef
      unfold zkh at ef
      cases e2 : tyN x with
      | none => rw [e2] at ef; cases ef
      | some t =>
        rw [e2] at ef
        cases ef
        exact ⟨Hf0, H0, Hf, ρ, x, st, e1, fun v Hf' H' x1 r => ⟨v, T, .type t, _, rfl, zqx e2 r, hk t (zp9 e2), k _ Hf' H' x1 rfl⟩⟩
end
noncomputable def tDG (G : Gc) (g : D -> List Sl -> Option (List Sl)) : TG := fun v σ H Q => ∃ Hf0 H0 Hf ρ d ρ', zab G Hf0 H0 Hf H σ ρ /\ Rep G Hf d v /\ g d ρ = some ρ' /\ ∀ σ', zab G Hf0 H0 Hf H σ' ρ' -> Q σ' H
noncomputable def zrn (G : Gc) (g : List D -> List Sl -> Option (List Sl)) : TGs := fun vs σ H Q => ∃ Hf0 H0 Hf ρ ds ρ', zab G Hf0 H0 Hf H σ ρ /\ zaa G Hf ds vs /\ g ds ρ = some ρ' /\ ∀ σ', zab G Hf0 H0 Hf H σ' ρ' -> Q σ' H
structure DG (c : Str -> Addr) (X : Cx) (tg : Expr) (k : Nat) (g : D -> List Sl -> Option (List Sl)) : Prop where
  pg : PG X tg (tDG (Gx c X) g)
  len : ∀ d ρ ρ', g d ρ = some ρ' -> ρ'.length = ρ.length
  keep : ∀ d ρ ρ' i, g d ρ = some ρ' -> k <= i -> ρ'[i]? = ρ[i]?
structure DGs (c : Str -> Addr) (X : Cx) (tg : List Expr) (k : Nat) (g : List D -> List Sl -> Option (List Sl)) : Prop where
  pg : PGs X tg (zrn (Gx c X) g)
  len : ∀ d ρ ρ', g d ρ = some ρ' -> ρ'.length = ρ.length
  keep : ∀ d ρ ρ' i, g d ρ = some ρ' -> k <= i -> ρ'[i]? = ρ[i]?
  many : ∀ ds ρ ρ', g ds ρ = some ρ' -> ds.length = tg.length
section
variable {c : Str -> Addr} {X : Cx} {e : Expr} {es : List Expr} {pos : Pos}
noncomputable def za9 (i : Nat) (d : D) (ρ : List Sl) : Option (List Sl) := some (ρ.set i (.im d))
theorem zmq {i k : Nat} (h : PG X e (ze7 i)) (hk : i < k) : DG c X e k (za9 i) :=
  ⟨PG.imp h fun v σ H Q ⟨Hf0, H0, Hf, ρ, d, ρ', st, r, eg, q⟩ => by cases eg; exact q _ (st.setIm r), fun d ρ ρ' h => by cases h; simp, fun d ρ ρ' j h hj => by
    cases h
    rw [List.getElem?_set_ne (by omega)]⟩
theorem zbx (i k : Nat) {x : Str} (hN : X.N.Nodup) (hk : i < k := by decide) (hi : X.N[i]? = some x := by rfl) (hx : Loc X.env.scope x := by first | exact Or.inl rfl | exact Or.inr rfl) (hf : X.fn x = true \/ X.env.scope.names.lookup x = some .local := by first | exact .inl rfl | exact .inr rfl) : DG c X (.Name x pos) k (za9 i) :=
  zmq (zlw hN hi hx hf) hk
noncomputable def zf4 (ds : List D) (ρ : List Sl) : Option (List Sl) := match ds with
  | [] => some ρ
  | _ => none
noncomputable def zc5 (g : D -> List Sl -> Option (List Sl)) (h : List D -> List Sl -> Option (List Sl)) (ds : List D) (ρ : List Sl) : Option (List Sl) := match ds with
  | d :: ds => (g d ρ).bind fun ρ1 => h ds ρ1
  | [] => none
theorem zhi {k : Nat} : DGs c X [] k zf4 := by
  refine ⟨PGs.imp ztb fun vs σ H Q ⟨Hf0, H0, Hf, ρ, ds, ρ', st, r, eg, q⟩ => ?_, fun d ρ ρ' h => ?_, fun d ρ ρ' i h _ => ?_, fun d ρ ρ' h => ?_⟩
  · cases ds with
    | nil => cases eg; exact ⟨r, q _ st⟩
    | cons d ds => cases eg
  · cases d with
    | nil => cases h; rfl
    | cons a b => cases h
  · cases d with
    | nil => cases h; rfl
    | cons a b => cases h
  · cases d with
    | nil => cases h; rfl
    | cons a b => cases h
theorem zim {g : D -> List Sl -> Option (List Sl)} {h : List D -> List Sl -> Option (List Sl)} {ds : List D} {ρ ρ' : List Sl} (e : zc5 g h ds ρ = some ρ') : ∃ d r ρ1, ds = d :: r /\ g d ρ = some ρ1 /\ h r ρ1 = some ρ' := by
  cases ds with
  | nil => cases e
  | cons d r =>
    replace e : (g d ρ).bind _ = _ := e
    cases e1 : g d ρ with
    | none => rw [e1] at e; cases e
    | some ρ1 => rw [e1] at e; exact ⟨d, r, ρ1, rfl, e1, e⟩
theorem zdv {k : Nat} {g : D -> List Sl -> Option (List Sl)} {h : List D -> List Sl -> Option (List Sl)} (h1 : DG c X e k g) (h2 : DGs c X es k h) (hs : (assignEach (e :: es) X.env).map (·.2) = assign e X.env :: (assignEach es X.env).map (·.2) := by rfl) : DGs c X (e :: es) k (zc5 g h) := by
  refine ⟨PGs.imp (zrl h1.pg h2.pg hs) fun vs σ H Q ⟨Hf0, H0, Hf, ρ, ds, ρ', st, r, eg, q⟩ => ?_, fun d ρ ρ' h => ?_, fun d ρ ρ' i h hi => ?_, fun d ρ ρ' h => ?_⟩
  · obtain ⟨d, dr, ρ1, rfl, e1, e2⟩ := zim eg
    obtain ⟨v, vr, ev, rv, rr⟩ := r
    exact ⟨v, vr, ev, Hf0, H0, Hf, ρ, d, ρ1, st, rv, e1, fun σ1 st1 => ⟨Hf0, H0, Hf, ρ1, dr, ρ', st1, rr, e2, q⟩⟩
  · obtain ⟨d, dr, ρ1, rfl, e1, e2⟩ := zim h
    rw [h2.len _ _ _ e2, h1.len _ _ _ e1]
  · obtain ⟨d, dr, ρ1, rfl, e1, e2⟩ := zim h
    rw [h2.keep _ _ _ _ e2 hi, h1.keep _ _ _ _ e1 hi]
  · obtain ⟨d, dr, ρ1, rfl, e1, e2⟩ := zim h
    rw [List.length_cons, List.length_cons, h2.many _ _ _ e2]
noncomputable def tpD : D -> Option (List D)
  | .tup xs => some xs
  | .kt xs => some xs
  | _ => none
theorem zn3 {G : Gc} {H : Hp} {d : D} {v : V} {ds : List D} (e : tpD d = some ds) (r : Rep G H d v) : ∃ a vs, v = .ref a /\ SqT G.K H a vs /\ zaa G H ds vs := by
  cases d with
  | tup xs => cases e; obtain ⟨a, vs, e1, q, r⟩ := r; exact ⟨a, vs, e1, SqT.of q, r⟩
  | kt xs => cases e; obtain ⟨a, vs, e1, q, r⟩ := r; exact ⟨a, vs, e1, q, r⟩
  | _ => cases e
noncomputable def zes (g : List D -> List Sl -> Option (List Sl)) (d : D) (ρ : List Sl) : Option (List Sl) := (tpD d).bind fun ds => g ds ρ
theorem zk2 {g : List D -> List Sl -> Option (List Sl)} {d : D} {ρ ρ' : List Sl} (h : zes g d ρ = some ρ') : ∃ ds, tpD d = some ds /\ g ds ρ = some ρ' := by
  unfold zes at h
  cases e : tpD d with
  | none => rw [e] at h; cases h
  | some ds => rw [e] at h; exact ⟨ds, rfl, h⟩
theorem zhc {k : Nat} {g : List D -> List Sl -> Option (List Sl)} {kk : Nat} (hc : X.calm = true) (h : DGs c X es k g) (hn : (assignEach es X.env).length = es.length := by rfl) (hst : (assignEach es X.env).findIdx? (·.1) = none := by rfl) : DG c X (.Tuple es kk pos) k (zes g) := by
  refine ⟨PG.imp (zwv hc h.pg hn hst) fun v σ H Q ⟨Hf0, H0, Hf, ρ, d, ρ', st, r, eg, q⟩ => ?_, fun d ρ ρ' h' => ?_, fun d ρ ρ' i h' hi => ?_⟩
  · obtain ⟨ds, e1, e2⟩ := zk2 eg
    obtain ⟨a, vs, ea, qa, ra⟩ := zn3 e1 r
    exact ⟨a, vs, ea, st.sub.tup qa, by rw [<- ra.length]; exact h.many _ _ _ e2, Hf0, H0, Hf, ρ, ds, ρ', st, ra, e2, q⟩
  · obtain ⟨ds, e1, e2⟩ := zk2 h'
    exact h.len _ _ _ e2
  · obtain ⟨ds, e1, e2⟩ := zk2 h'
    exact h.keep _ _ _ _ e2 hi
end
noncomputable def zd1 (G : Gc) (Hf : Hp) (J : It) (ds : List D) : Prop := ∀ Hf' H', zac Hf Hf' -> zac Hf' H' -> ∀ i : Nat,
  (∀ d, ds[i]? = some d -> J.go i H' /\ ∀ x H2, J.yld i H' x H2 -> ∃ Hf2, Ext Hf' H' Hf2 H2 /\ Rep G Hf2 d x) /\ (i = ds.length -> J.stop i H')
noncomputable def zoa (G : Gc) (Hf H : Hp) (J : It) (ds : List D) : Prop := ∀ Hf' H', Ext Hf H Hf' H' -> ∀ i : Nat,
  (∀ d, ds[i]? = some d -> J.go i H' /\ ∀ x H2, J.yld i H' x H2 -> ∃ Hf2, Ext Hf' H' Hf2 H2 /\ Rep G Hf2 d x) /\ (i = ds.length -> J.stop i H')
theorem zd1.toE {G : Gc} {Hf H : Hp} {J : It} {ds : List D} (h : zd1 G Hf J ds) : zoa G Hf H J ds := fun Hf' H' x i => h Hf' H' x.f x.s i
noncomputable def tDI (G : Gc) (f : List Sl -> Option (List D)) : TI := fun σ H R => ∃ Hf0 H0 Hf ρ ds, zab G Hf0 H0 Hf H σ ρ /\ f ρ = some ds /\ ∀ J Hf' H', Ext Hf H Hf' H' -> zd1 G Hf' J ds -> R J H'
noncomputable def zkb (G : Gc) (f : List Sl -> Option (List D)) : TI := fun σ H R => ∃ Hf0 H0 Hf ρ ds, zab G Hf0 H0 Hf H σ ρ /\ f ρ = some ds /\ ∀ J Hf' H', Ext Hf H Hf' H' -> zoa G Hf' H' J ds -> R J H'
noncomputable def DI (c : Str -> Addr) (X : Cx) (tg iter : Expr) (f : List Sl -> Option (List D)) : Prop := PI X tg iter (tDI (Gx c X) f)
noncomputable def DIe (c : Str -> Addr) (X : Cx) (tg iter : Expr) (f : List Sl -> Option (List D)) : Prop := PI X tg iter (zkb (Gx c X) f)
section
variable {c : Str -> Addr} {X : Cx} {tg e a b : Expr} {es : List Expr} {pos p : Pos}
theorem DI.de {f : List Sl -> Option (List D)} (h : DI c X tg e f) : DIe c X tg e f := PI.imp h fun σ H R q_ => by
  obtain ⟨Hf0, H0, Hf, ρ, ds, st, ef, k⟩ := q_
  exact (⟨Hf0, H0, Hf, ρ, ds, st, ef, fun J Hf' H' x i => k J Hf' H' x i.toE⟩)
theorem zqm {G : Gc} {Hf : Hp} {ds : List D} {l : Addr} {vs : List V} (q : SqT G.K Hf l vs) (r : zaa G Hf ds vs) : zd1 G Hf (Itt G.K l) ds := fun Hf' H' f s i => by
  have q' : SqT G.K H' l vs := (f.trans s).tup q
  refine ⟨fun d ed => ?_, fun ei => ⟨vs, q', by rw [<- r.length, ei]; exact Nat.le_refl _⟩⟩
  obtain ⟨v, ev, rv⟩ := r.get ed
  refine ⟨⟨vs, v, q', ev⟩, fun x H2 ⟨e2, y⟩ => ?_⟩
  subst e2
  have := y vs q'
  rw [ev] at this
  cases this
  exact ⟨Hf', Ext.refl s, rv.up f⟩
theorem zfx {f : List Sl -> Option D} (h : DE c X e f) : DI c X tg e (zb1 f) := fun pins s σ H R I q_ => by
  obtain ⟨Hf0, H0, Hf, ρ, ds, st, ef, k⟩ := q_
  unfold zb1 at ef
  cases e1 : f ρ with
  | none => rw [e1] at ef; cases ef
  | some d =>
    rw [e1] at ef
    replace ef : zdu d = some ds := ef
    have un : ∀ {l : Addr} {H' : Hp} {us vs : List V}, SqL X.K H' l us -> SqL X.K H' l vs -> us = vs \/ True := fun _ _ => .inr trivial
    cases e2 : lsD d with
    | some ds' =>
      have : ds' = ds := by cases d <;> first | (cases e2; done) | (cases e2; cases ef; rfl)
      subst this
      refine zpu h pins s σ H R I ⟨Hf0, H0, Hf, ρ, d, st, e1, fun v Hf' H' x r => ?_⟩
      obtain ⟨a, vs, ea, q, rs⟩ := zjv e2 r
      exact ⟨a, ea, ⟨vs, x.s.seq q⟩, k _ Hf' H' x fun Hf2 H2 f2 s2 i => by
        have q' : SqL X.K H2 a vs := (f2.trans s2).seq q
        refine ⟨fun d ed => ?_, fun ei => ⟨vs, q', by rw [<- rs.length, ei]; exact Nat.le_refl _⟩⟩
        obtain ⟨v, ev, rv⟩ := rs.get ed
        refine ⟨⟨vs, v, q', ev⟩, fun x H3 ⟨e3, y⟩ => ?_⟩
        subst e3
        have := y vs q'
        rw [ev] at this
        cases this
        exact ⟨Hf2, Ext.refl s2, rv.up f2⟩⟩
    | none =>
      have e3 : tpD d = some ds := by cases d <;> first | (cases e2; done) | (cases ef; done) | (cases ef; rfl)
      refine zwk h pins s σ H R I ⟨Hf0, H0, Hf, ρ, d, st, e1, fun v Hf' H' x r => ?_⟩
      obtain ⟨a, vs, ea, q, rs⟩ := zn3 e3 r
      exact ⟨a, ea, ⟨vs, x.s.tup q⟩, k _ Hf' H' x (zqm q rs)⟩
noncomputable def rng (lo : Int) (n : Nat) : List D := (List.range n).map fun (i : Nat) => .int (lo + i)
theorem znx {G : Gc} {Hf : Hp} {lo : Int} {n : Nat} : zd1 G Hf (Itr lo n) (rng lo n) := fun Hf' H' f s i => by
  refine ⟨fun d ed => ?_, fun ei => ?_⟩
  · unfold rng at ed
    rw [List.getElem?_map] at ed
    cases e : (List.range n)[i]? with
    | none => rw [e] at ed; cases ed
    | some j =>
      rw [e] at ed
      obtain ⟨hi, ej⟩ := List.getElem?_eq_some_iff.mp e
      rw [List.length_range] at hi
      rw [List.getElem_range] at ej
      subst ej
      cases ed
      exact ⟨hi, fun x H2 ⟨e2, y⟩ => by subst e2; exact ⟨Hf', Ext.refl s, y⟩⟩
  · unfold rng at ei
    rw [List.length_map, List.length_range] at ei
    exact Nat.le_of_eq ei.symm
noncomputable def zdr : List D -> Option (List D)
  | [.int j] => if -(2 ^ 62) <= j /\ j < 2 ^ 62 then some (rng 0 j.toNat) else none
  | [.int i, .int j] => if -(2 ^ 62) <= i /\ i < 2 ^ 62 /\ -(2 ^ 62) <= j /\ j < 2 ^ 62 then some (rng i (j - i).toNat) else none
  | _ => none
noncomputable def zfc (f : List Sl -> Option (List D)) (ρ : List Sl) : Option (List D) := (f ρ).bind zdr
theorem zn5 {f : List Sl -> Option (List D)} (hg : Gl X "range") (hm : X.mg "range" = none) (ha : DA c X [a] f) (hs : starEach [a] X.env = [(false, eval a X.env)] := by rfl) : DI c X tg (.Call (.Name "range" p) [a] [] pos) (zfc f) :=
  PI.imp (zmc hg hm ha.pa hs) fun σ H R q_ => by
    obtain ⟨Hf0, H0, Hf, ρ, ds, st, ef, k⟩ := q_
    unfold zfc at ef
    cases e1 : f ρ with
    | none => rw [e1] at ef; cases ef
    | some as =>
      rw [e1] at ef
      replace ef : zdr as = some ds := ef
      have hl := ha.len ρ as e1
      refine ⟨Hf0, H0, Hf, ρ, as, st, e1, fun vs Hf' H' x r => ?_⟩
      unfold zdr at ef
      split at ef
      · split at ef
        · rename_i j hj
          cases ef
          obtain ⟨v, ev, rv⟩ := r.one
          cases (show v = V.int j from rv)
          exact ⟨j, ev, hj.1, hj.2, k _ Hf' H' x znx⟩
        · cases ef
      · cases hl
      · cases ef
end
end L2
namespace L2
open PySem PySem.Spec PyProof.Rows
noncomputable def za2 (k : Nat) (js : List Nat) (ρ : List Sl) : List Sl := List.replicate k .no ++ js.map fun j => (ρ[j]?).getD .no
section
variable {G : Gc} {Hf0 H0 Hf H : Hp} {σ : St} {ρ : List Sl}
theorem zab.weak {ρ' : List Sl} (h : zab G Hf0 H0 Hf H σ ρ) (hl : ρ'.length = ρ.length) (hw : ∀ (i : Nat) (s : Sl), ρ'[i]? = some s -> s = .no \/ ρ[i]? = some s) : zab G Hf0 H0 Hf H σ ρ' := by
  refine h.re h.ext hl (fun i v s a b => ?_) fun i s v a b c p => ?_
  · rcases hw i s b with e | e
    · subst e; trivial
    · exact h.at' i v s a e
  · rcases hw i s b with e | e
    · subst e; exact (p.calm rfl).elim
    · exact ⟨s, e, p⟩
theorem zga {α : Type} {k : Nat} {x : α} {l : List α} {i : Nat} {y : α} (h : (List.replicate k x ++ l)[i]? = some y) : (i < k /\ y = x) \/ (k <= i /\ l[i - k]? = some y) := by
  by_cases hi : i < k
  · left
    rw [List.getElem?_append_left (by simpa using hi), List.getElem?_replicate, if_pos hi] at h
    exact ⟨hi, (Option.some.inj h).symm⟩
  · right
    rw [List.getElem?_append_right (by simpa using Nat.le_of_not_lt hi), List.length_replicate] at h
    exact ⟨Nat.le_of_not_lt hi, h⟩
theorem zif {α β : Type} {f : α -> β} {l : List α} {i : Nat} {y : β} (h : (l.map f)[i]? = some y) : ∃ x, l[i]? = some x /\ y = f x := by
  rw [List.getElem?_map] at h
  cases e : l[i]? with
  | none => rw [e] at h; cases h
  | some x => rw [e] at h; exact ⟨x, rfl, (Option.some.inj h).symm⟩
theorem zqd {js : List Nat} (h : js.Nodup) {i j x : Nat} (a : js[i]? = some x) (b : js[j]? = some x) : i = j := by
  obtain ⟨h1, e1⟩ := List.getElem?_eq_some_iff.mp a
  obtain ⟨h2, e2⟩ := List.getElem?_eq_some_iff.mp b
  exact (List.getElem_inj h).mp (e1.trans e2.symm)
theorem zab.comp (k : Nat) {js : List Nat} (h : zab G Hf0 H0 Hf H σ ρ) (hj : js.Nodup) : zab G Hf0 H0 Hf H (zc1 k js σ) (za2 k js ρ) := by
  have own : ∀ (i : Nat) (s : Sl), (za2 k js ρ)[i]? = some s -> s.calm = false -> ∃ j, k <= i /\ js[i - k]? = some j /\ ρ[j]? = some s := fun i s a hs => by
    rcases zga a with ⟨_, e⟩ | ⟨hi, a⟩
    · subst e; cases hs
    · obtain ⟨j, ej, es⟩ := zif a
      cases e : ρ[j]? with
      | none => rw [e] at es; subst es; cases hs
      | some t => rw [e] at es; replace es : s = t := es; subst es; exact ⟨j, hi, ej, e⟩
  have val : ∀ (i : Nat) (v : Option V) (j : Nat), (zc1 k js σ)[i]? = some v -> k <= i -> js[i - k]? = some j -> v = (σ[j]?).getD none := fun i v j a hi ej => by
    rcases zga a with ⟨hi', _⟩ | ⟨_, a⟩
    · omega
    · obtain ⟨j', ej', es⟩ := zif a
      rw [ej] at ej'; cases ej'
      exact es
  refine ⟨h.ext, by simp [zc1, za2], fun i v s a b => ?_, fun i j s t y z l a b c d p q => ?_⟩
  · rcases zga b with ⟨_, e⟩ | ⟨hi, b⟩
    · subst e; trivial
    · obtain ⟨j, ej, es⟩ := zif b
      have ev := val i v j a hi ej
      cases e : ρ[j]? with
      | none => rw [e] at es; subst es; trivial
      | some t =>
        rw [e] at es
        replace es : s = t := es
        subst es
        obtain ⟨u, eu, q⟩ := h.slot e
        rw [eu] at ev
        replace ev : v = u := ev
        subst ev
        exact q
  · have hs : s.calm = false := by
      cases hc : s.calm with
      | true => exact (p.calm hc).elim
      | false => rfl
    have ht : t.calm = false := by
      cases hc : t.calm with
      | true => exact (q.calm hc).elim
      | false => rfl
    obtain ⟨i', hi, ei, e1⟩ := own i s a hs
    obtain ⟨j', hj', ej, e2⟩ := own j t b ht
    have v1 := val i _ i' c hi ei
    have v2 := val j _ j' d hj' ej
    obtain ⟨u1, eu1, _⟩ := h.slot e1
    obtain ⟨u2, eu2, _⟩ := h.slot e2
    rw [eu1] at v1
    rw [eu2] at v2
    replace v1 : some y = u1 := v1
    replace v2 : some z = u2 := v2
    subst v1 v2
    have := h.dj i' j' s t y z l e1 e2 eu1 eu2 p q
    subst this
    have := zqd hj ei ej
    omega
end
noncomputable def zcc (h : D -> Option (Option D)) : List D -> Option (List D)
  | [] => some []
  | d :: ds => (h d).bind fun o => (zcc h ds).map fun r => match o with
    | some y => y :: r
    | none => r
theorem zqi {h : D -> Option (Option D)} {d : D} {ds r : List D} (e : zcc h (d :: ds) = some r) : ∃ o r', h d = some o /\ zcc h ds = some r' /\ r = (match o with | some y => y :: r' | none => r') := by
  unfold zcc at e
  cases e1 : h d with
  | none => rw [e1] at e; cases e
  | some o =>
    cases e2 : zcc h ds with
    | none => rw [e1, e2] at e; cases e
    | some r' =>
      rw [e1, e2] at e
      cases e
      refine ⟨o, r', rfl, rfl, ?_⟩
      cases o <;> rfl
noncomputable def zda (g : D -> List Sl -> Option (List Sl)) (ft : List Sl -> Option Bool) (fe : List Sl -> Option D) (ρ : List Sl) (d : D) : Option (Option D) := (g d ρ).bind fun ρ1 => (ft ρ1).bind fun b => if b then (fe ρ1).map some else some none
noncomputable def zfj (k : Nat) (js : List Nat) (fi : List Sl -> Option (List D)) (g : D -> List Sl -> Option (List Sl)) (ft : List Sl -> Option Bool) (fe : List Sl -> Option D) (ρ : List Sl) : Option (List D) :=
  (fi ρ).bind fun ds => if ds.length <= 16777216 then zcc (zda g ft fe (za2 k js ρ)) ds else none
theorem zg8 {α : Type} {l : List α} {i : Nat} (h : i < l.length) : ∃ x, l[i]? = some x /\ l.drop i = x :: l.drop (i + 1) := ⟨l[i], by simp [h], (List.drop_eq_getElem_cons h)⟩
noncomputable def DTs (c : Str -> Addr) (X : Cx) (ifs : List Expr) (f : List Sl -> Option Bool) : Prop := PTs X ifs (tDT (Gx c X) f)
section
variable {c : Str -> Addr} {X : Cx} {elt tg iter e : Expr} {ifs : List Expr} {scope : Scope} {pos : Pos} {Nc : List Str} {k : Nat} {js : List Nat}
  {fi : List Sl -> Option (List D)} {g : D -> List Sl -> Option (List Sl)} {ft : List Sl -> Option Bool} {fe : List Sl -> Option D}
theorem zll : DTs c X [] (fun _ => some true) := PTs.imp zrf fun σ H Q q_ => by
  obtain ⟨Hf0, H0, Hf, ρ, b, st, ef, k⟩ := q_
  exact (by cases ef; exact k Hf H (Ext.refl st.sub))
theorem zud {G : Gc} (hj : js.Nodup) (hk : ∀ d ρ ρ' i, g d ρ = some ρ' -> k <= i -> ρ'[i]? = ρ[i]?) (hlen : ∀ d ρ ρ', g d ρ = some ρ' -> ρ'.length = ρ.length) {σ : St} {H : Hp} {Q : VK} (h : tDO G (zfj k js fi g ft fe) σ H Q) :
    zky k js (zkb G fi) (tDG G g) (tDT G ft) (tD G fe) σ H Q := by
  obtain ⟨Hf0, H0, Hf, ρ, rs, st, ef, kq⟩ := h
  unfold zfj at ef
  cases e1 : fi ρ with
  | none => rw [e1] at ef; cases ef
  | some ds =>
    rw [e1] at ef
    replace ef : (if ds.length <= 16777216 then zcc (zda g ft fe (za2 k js ρ)) ds else none) = some rs := ef
    by_cases hz : ds.length <= 16777216
    · rw [if_pos hz] at ef
      refine ⟨Hf0, H0, Hf, ρ, ds, st, e1, fun J Hf1 H1 x1 it => ?_⟩
      refine ⟨fun i m ys σ' H' => m = ds.length - i /\ i <= ds.length /\ ∃ Hf' as zam, Ext Hf1 H1 Hf' H' /\ zab G Hf0 H0 Hf' H' σ' (za2 k js ρ) /\ zaa G Hf' as ys /\ zcc (zda g ft fe (za2 k js ρ)) (ds.drop i) = some zam /\ rs = as ++ zam /\ as.length <= i,
        ⟨ds.length, rfl, Nat.zero_le _, Hf1, [], rs, Ext.refl x1.s, (st.step x1).comp k hj, rfl, ef, rfl, Nat.le_refl _⟩, ?_⟩
      rintro i m ys σ' H' ⟨rfl, hi, Hf', as, zam, x2, st2, ra, ec, er, hal⟩
      have hys : ys.length <= sizeLine := by rw [sizeLine_eq, <- ra.length]; omega
      obtain ⟨it1, it2⟩ := it Hf' H' x2 i
      by_cases hlt : i < ds.length
      · obtain ⟨d, ed, edr⟩ := zg8 hlt
        obtain ⟨go, yl⟩ := it1 d ed
        refine .inr ⟨go, hys, fun ys' σ2 H2 => ds.length - (i + 1) = ds.length - (i + 1) /\ i + 1 <= ds.length /\ ∃ Hf' as zam, Ext Hf1 H1 Hf' H2 /\ zab G Hf0 H0 Hf' H2 σ2 (za2 k js ρ) /\ zaa G Hf' as ys' /\ zcc (zda g ft fe (za2 k js ρ)) (ds.drop (i + 1)) = some zam /\ rs = as ++ zam /\ as.length <= i + 1,
          fun ys' σ2 H2 w => ⟨ds.length - (i + 1), by omega, w⟩, fun x H2 y => ?_⟩
        obtain ⟨Hf2, x3, rx⟩ := yl x H2 y
        rw [edr] at ec
        obtain ⟨o, r', eo, ec', erest⟩ := zqi ec
        unfold zda at eo
        cases eg : g d (za2 k js ρ) with
        | none => rw [eg] at eo; cases eo
        | some ρ1 =>
          rw [eg] at eo
          replace eo : (ft ρ1).bind _ = _ := eo
          cases et : ft ρ1 with
          | none => rw [et] at eo; cases eo
          | some b =>
            rw [et] at eo
            replace eo : (if b = true then (fe ρ1).map some else some none) = some o := eo
            refine ⟨Hf0, H0, Hf2, za2 k js ρ, d, ρ1, st2.step x3, rx, eg, fun σ3 st3 => ⟨Hf0, H0, Hf2, ρ1, b, st3, et, fun Hf4 H4 x4 => ?_⟩⟩
            have back : ∀ {Hf5 H5 : Hp}, zab G Hf0 H0 Hf5 H5 σ3 ρ1 -> zab G Hf0 H0 Hf5 H5 σ3 (za2 k js ρ) := fun {Hf5 H5} s5 => s5.weak (hlen _ _ _ eg).symm fun j s hs => by
              rcases zga hs with ⟨_, e⟩ | ⟨hj', _⟩
              · exact .inl e
              · exact .inr (by rw [hk _ _ _ _ eg hj']; exact hs)
            cases b with
            | true =>
              rw [if_pos rfl] at eo
              refine zmp ?_
              cases ee : fe ρ1 with
              | none => rw [ee] at eo; cases eo
              | some y' =>
                rw [ee] at eo
                cases eo
                refine ⟨Hf0, H0, Hf4, ρ1, y', st3.step x4, ee, fun v Hf5 H5 x5 r5 => ?_⟩
                have x := (x3.trans x4).trans x5
                refine ⟨rfl, hlt, Hf5, as ++ [y'], r', x2.trans x, back ((st3.step x4).step x5), (ra.up x.f).append (.cons r5 .nil), ec', ?_, by rw [List.length_append, List.length_singleton]; omega⟩
                rw [er, erest, List.append_assoc]
                rfl
            | false =>
              rw [if_neg Bool.false_ne_true] at eo
              refine zoi ?_
              cases eo
              have x := x3.trans x4
              exact ⟨rfl, hlt, Hf4, as, r', x2.trans x, back (st3.step x4), ra.up x.f, ec', by rw [er, erest], by omega⟩
      · have ei : i = ds.length := by omega
        subst ei
        refine .inl ⟨it2 rfl, hys, fun l h1 h2 => ?_⟩
        rw [List.drop_eq_nil_of_le (Nat.le_refl _)] at ec
        cases ec
        rw [List.append_nil] at er
        subst er
        have x := x1.trans x2
        exact kq l ys Hf' (upd H' l (.lst ys)) (x.trans (Ext.tmp x.s h2)) (x.h.free h2) (x.s.free h2) zan ra
    · rw [if_neg hz] at ef
      cases ef
theorem zuv (k : Nat) (js : List Nat) (Nc : List Str) (hc : X.calm = true) (hi : DIe c X tg iter fi) (hg : ∀ cl C ex s₂ H₂, DG c (X.comp scope Nc cl C ex s₂ H₂) tg k g) (ht : ∀ cl C ex s₂ H₂, DTs c (X.comp scope Nc cl C ex s₂ H₂) ifs ft)
    (he : ∀ cl C ex s₂ H₂, DE c (X.comp scope Nc cl C ex s₂ H₂) elt fe) (ck : zf8 scope X.env.scope.names X.N Nc k js = true := by rfl) (hs : ∀ x, foldedSetIterable iter X.env x = pure x := by intro _; rfl) (hj : js.Nodup := by decide) :
    DO c X (.ListComp elt [⟨tg, iter, ifs, 0⟩] scope pos) (zfj k js fi g ft fe) :=
  PE.imp (zof (g := tDG (Gx c X) g) (tt := tDT (Gx c X) ft) (te := tD (Gx c X) fe) k js Nc hc hi (fun cl C ex s₂ H₂ => (hg cl C ex s₂ H₂).pg) ht he ck hs) fun σ H Q h =>
    zud hj (hg [] 0 [] X.s₀ X.H₀).keep (hg [] 0 [] X.s₀ X.H₀).len h
end
section
variable {c : Str -> Addr} {X : Cx} {tg : Expr} {scope : Scope} {Nc : List Str} {cl : List (Str × Addr)} {C : Addr} {ex : List Addr} {s₂ : Shared} {H₂ : Hp}
theorem dvc (i : Nat) {x : Str} {pos : Pos} (hN : Nc[i]? = some x := by rfl) (hv : Vis scope x := by first | exact Or.inl rfl | exact Or.inr (Or.inl rfl) | exact Or.inr (Or.inr rfl)) (hd : (x == ("__debug__" : Str)) = false := by decide)
    (hcd : (x == ("__classdict__" : Str)) = false := by decide) : DE c (X.comp scope Nc cl C ex s₂ H₂) (.Name x pos) (zad i) := zog (pvc i hN hv hd hcd)
theorem zr4 (i : Nat) {x : Str} {pos : Pos} (hN : Nc[i]? = some x := by rfl) (hv : Vis scope x := by first | exact Or.inl rfl | exact Or.inr (Or.inl rfl) | exact Or.inr (Or.inr rfl)) (hd : (x == ("__debug__" : Str)) = false := by decide)
    (hcd : (x == ("__classdict__" : Str)) = false := by decide) : DC c (X.comp scope Nc cl C ex s₂ H₂) (.Name x pos) (zbm i) := zlk (pvc i hN hv hd hcd)
theorem dgc (i k : Nat) {x : Str} {pos : Pos} (hk : i < k := by decide) (hN : Nc.Nodup := by decide +kernel) (hi : Nc[i]? = some x := by rfl) (hl : scope.names.lookup x = some .local := by rfl) : DG c (X.comp scope Nc cl C ex s₂ H₂) (.Name x pos) k (za9 i) :=
  zmq (pgc i hN hi hl) hk
end
inductive Fl where
  | nx (ρ : List Sl)
  | bk (ρ : List Sl)
  | ct (ρ : List Sl)
  | rt (d : D)
  | rtO (ds : List D)
  | rtS (d : D) (ρ : List Sl)
  | rtT (o : O)
noncomputable def zia (G : Gc) (Hf0 H0 Hf : Hp) (E : zcy) : Fl -> Prop
  | .nx ρ' => ∀ σ' Hf' H', zac Hf Hf' -> zab G Hf0 H0 Hf' H' σ' ρ' -> E.nx σ' H'
  | .bk ρ' => ∀ σ' Hf' H', zac Hf Hf' -> zab G Hf0 H0 Hf' H' σ' ρ' -> E.bk σ' H'
  | .ct ρ' => ∀ σ' Hf' H', zac Hf Hf' -> zab G Hf0 H0 Hf' H' σ' ρ' -> E.ct σ' H'
  | .rt d => ∀ v Hf' H', Ext Hf0 H0 Hf' H' -> Rep G Hf' d v -> E.rt v H'
  | .rtO ds => ∀ l vs Hf' H', Ext Hf0 H0 Hf' H' -> H0 l = none -> Hf' l = none -> H' l = some (.lst vs) -> zaa G Hf' ds vs -> E.rt (.ref l) H'
  | .rtS d ρ => ∀ v σ' Hf' H', zab G Hf0 H0 Hf' H' σ' ρ -> Rep G Hf' d v -> E.rt v H'
  | .rtT o => ∀ u fp Hf' H', Ext Hf0 H0 Hf' H' -> OT G Hf' H' o u fp -> fp.Nodup -> (∀ a ∈ fp, H0 a = none /\ Hf' a = none) -> E.rt u H'
noncomputable def tDS (G : Gc) (F : List Sl -> Option Fl) : TS := fun E σ H => ∃ Hf0 H0 Hf ρ o, zab G Hf0 H0 Hf H σ ρ /\ F ρ = some o /\ zia G Hf0 H0 Hf E o
noncomputable def DS (c : Str -> Addr) (X : Cx) (st : Stmt) (F : List Sl -> Option Fl) : Prop := PS X st (tDS (Gx c X) F)
noncomputable def DSs (c : Str -> Addr) (X : Cx) (st : List Stmt) (F : List Sl -> Option Fl) : Prop := PSs X st (tDS (Gx c X) F)
noncomputable def zdy (ρ : List Sl) : Option Fl := some (.nx ρ)
noncomputable def zal (F F' : List Sl -> Option Fl) (ρ : List Sl) : Option Fl := (F ρ).bind fun o => match o with
  | .nx ρ' => F' ρ'
  | o => some o
noncomputable def zc9 (t : List Sl -> Option Bool) (F F' : List Sl -> Option Fl) (ρ : List Sl) : Option Fl := (t ρ).bind fun b => if b then F ρ else F' ρ
noncomputable def zbw (i : Nat) (f : List Sl -> Option D) (ρ : List Sl) : Option Fl := (f ρ).map fun d => .nx (ρ.set i (.im d))
noncomputable def zcs (i : Nat) (f : List Sl -> Option (List D)) (ρ : List Sl) : Option Fl := (f ρ).map fun d => .nx (ρ.set i (.own d))
noncomputable def zcj (f : List Sl -> Option D) (ρ : List Sl) : Option Fl := (f ρ).map .rt
noncomputable def zgj (f : List Sl -> Option (List D)) (ρ : List Sl) : Option Fl := (f ρ).map .rtO
noncomputable def ze8 (i : Nat) (ρ : List Sl) : Option Fl := match ρ[i]? with
  | some (.im d) => some (.rt d)
  | some (.own xs) => some (.rtO xs)
  | _ => none
noncomputable def zbv (g : D -> List Sl -> Option (List Sl)) (F : List Sl -> Option Fl) : List D -> List Sl -> Option Fl
  | [], ρ => some (.nx ρ)
  | d :: ds, ρ => (g d ρ).bind fun ρ1 => (F ρ1).bind fun o => match o with
    | .nx ρ2 => zbv g F ds ρ2
    | .ct ρ2 => zbv g F ds ρ2
    | .bk ρ2 => some (.nx ρ2)
    | .rt d => some (.rt d)
    | .rtO d => some (.rtO d)
    | .rtS d ρ2 => some (.rtS d ρ2)
    | .rtT o => some (.rtT o)
noncomputable def zb5 (fi : List Sl -> Option (List D)) (g : D -> List Sl -> Option (List Sl)) (F : List Sl -> Option Fl) (ρ : List Sl) : Option Fl := (fi ρ).bind fun ds => zbv g F ds ρ
noncomputable def zkx (i : Nat) (ρ : List Sl) : List Sl := match ρ[i]? with
  | some (.own xs) => ρ.set i (.im (.lst xs))
  | some (.ownd ks xs) => ρ.set i (.im (.dic ks xs))
  | some (.obj c ns xs) => ρ.set i (.im (.ins c ns xs))
  | _ => ρ
noncomputable def zc8 (i : Nat) (F : List Sl -> Option Fl) (ρ : List Sl) : Option Fl := F (zkx i ρ)
noncomputable def zeo (i : Nat) (f : List Sl -> Option D) (ρ : List Sl) : Option Fl := (f ρ).bind fun d => match ρ[i]? with
  | some (.own xs) => if xs.length < 16777216 then some (.nx (ρ.set i (.own (xs ++ [d])))) else none
  | _ => none
section
variable {c : Str -> Addr} {X : Cx} {st : Stmt} {sts a b : List Stmt} {e cd tg iter : Expr} {pos : Pos} {F F' : List Sl -> Option Fl}
theorem zfe : DSs c X [] zdy := PSs.imp zv6 fun E σ H q_ => by
  obtain ⟨Hf0, H0, Hf, ρ, o, so, ef, k⟩ := q_
  exact (by cases ef; exact k σ Hf H (zac.refl _) so)
theorem zia.up {G : Gc} {Hf0 H0 Hf Hf' : Hp} {E : zcy} {o : Fl} (h : zia G Hf0 H0 Hf E o) (s : zac Hf Hf') : zia G Hf0 H0 Hf' E o := by
  cases o with
  | nx ρ => exact fun σ' Hf2 H2 s2 q => h σ' Hf2 H2 (s.trans s2) q
  | bk ρ => exact fun σ' Hf2 H2 s2 q => h σ' Hf2 H2 (s.trans s2) q
  | ct ρ => exact fun σ' Hf2 H2 s2 q => h σ' Hf2 H2 (s.trans s2) q
  | rt d => exact h
  | rtO d => exact h
  | rtS d ρ => exact h
  | rtT o => exact h
theorem zar (h1 : DS c X st F) (h2 : DSs c X sts F') : DSs c X (st :: sts) (zal F F') := PSs.imp (zpw h1 h2) fun E σ H q_ => by
  obtain ⟨Hf0, H0, Hf, ρ, o, so, ef, k⟩ := q_
  unfold zal at ef
  cases e1 : F ρ with
  | none => rw [e1] at ef; cases ef
  | some o1 =>
    rw [e1] at ef
    refine ⟨Hf0, H0, Hf, ρ, o1, so, e1, ?_⟩
    cases o1 with
    | nx ρ1 => exact fun σ1 Hf1 H1 s1 so1 => ⟨Hf0, H0, Hf1, ρ1, o, so1, ef, k.up s1⟩
    | bk ρ1 => cases ef; exact k
    | ct ρ1 => cases ef; exact k
    | rt d => cases ef; exact k
    | rtO d => cases ef; exact k
    | rtS d ρ1 => cases ef; exact k
    | rtT o' => cases ef; exact k
theorem za1 (h1 : DS c X st F) : DSs c X [st] F := zp4 h1
theorem zgc {t : List Sl -> Option Bool} (hc : DT c X cd t) (ha : DSs c X a F) (hb : DSs c X b F') : DS c X (.If cd a b pos) (zc9 t F F') := PS.imp (zo1 hc ha hb) fun E σ H q_ => by
  obtain ⟨Hf0, H0, Hf, ρ, o, so, ef, k⟩ := q_
  unfold zc9 at ef
  cases e1 : t ρ with
  | none => rw [e1] at ef; cases ef
  | some x =>
    rw [e1] at ef
    refine ⟨Hf0, H0, Hf, ρ, x, so, e1, fun Hf1 H1 x1 => ?_⟩
    cases x with
    | true => rw [if_pos rfl]; exact ⟨Hf0, H0, Hf1, ρ, o, so.step x1, ef, k.up x1.f⟩
    | false => rw [if_neg Bool.false_ne_true]; exact ⟨Hf0, H0, Hf1, ρ, o, so.step x1, ef, k.up x1.f⟩
theorem ztx {te : TE} {i : Nat} {f : List Sl -> Option D} (hp : PS X st (zfy te (ze7 i))) (hi : ∀ σ H Q, tD (Gx c X) f σ H Q -> te σ H Q) : DS c X st (zbw i f) := PS.imp hp fun E σ H q_ => by
  obtain ⟨Hf0, H0, Hf, ρ, o, so, ef, k⟩ := q_
  unfold zbw at ef
  cases e1 : f ρ with
  | none => rw [e1] at ef; cases ef
  | some d =>
    rw [e1] at ef
    cases ef
    exact hi _ _ _ ⟨Hf0, H0, Hf, ρ, d, so, e1, fun v Hf' H' x r => k _ Hf' H' x.f ((so.step x).setIm r)⟩
theorem zq8 {te : TE} {i : Nat} {f : List Sl -> Option (List D)} (hp : PS X st (zfy te (ze7 i))) (hi : ∀ σ H Q, tDO (Gx c X) f σ H Q -> te σ H Q) : DS c X st (zcs i f) := PS.imp hp fun E σ H q_ => by
  obtain ⟨Hf0, H0, Hf, ρ, o, so, ef, k⟩ := q_
  unfold zcs at ef
  cases e1 : f ρ with
  | none => rw [e1] at ef; cases ef
  | some d =>
    rw [e1] at ef
    cases ef
    exact hi _ _ _ ⟨Hf0, H0, Hf, ρ, d, so, e1, fun l vs Hf' H' x hn hf hl r => k _ Hf' H' x.f (so.setOwn (s := .own d) rfl x hn hf ⟨vs, hl, r⟩)⟩
theorem zdz (i : Nat) {x : Str} {f : List Sl -> Option D} {pos' : Pos} (hN : X.N.Nodup) (he : DE c X e f) (hi : X.N[i]? = some x := by rfl) (hx : Loc X.env.scope x := by first | exact Or.inl rfl | exact Or.inr rfl) (hs : swapsWith e (some (.Name x pos')) pos.line X.env = pure false := by rfl) (hf : X.fn x = true \/ X.env.scope.names.lookup x = some .local := by first | exact .inl rfl | exact .inr rfl) :
    DS c X (.Assign [.Name x pos'] e pos) (zbw i f) := ztx (zft hN hi hx he hs hf) fun _ _ _ h => h
theorem zgt (i : Nat) {x : Str} {f : List Sl -> Option (List D)} {pos' : Pos} (hN : X.N.Nodup) (he : DO c X e f) (hi : X.N[i]? = some x := by rfl) (hx : Loc X.env.scope x := by first | exact Or.inl rfl | exact Or.inr rfl) (hs : swapsWith e (some (.Name x pos')) pos.line X.env = pure false := by rfl) (hf : X.fn x = true \/ X.env.scope.names.lookup x = some .local := by first | exact .inl rfl | exact .inr rfl) :
    DS c X (.Assign [.Name x pos'] e pos) (zcs i f) := zq8 (zft hN hi hx he hs hf) fun _ _ _ h => h
theorem zez {f : List Sl -> Option D} (he : DE c X e f) : DS c X (.Return (some e) pos) (zcj f) := PS.imp (zf9 he) fun E σ H q_ => by
  obtain ⟨Hf0, H0, Hf, ρ, o, so, ef, k⟩ := q_
  unfold zcj at ef
  cases e1 : f ρ with
  | none => rw [e1] at ef; cases ef
  | some d =>
    rw [e1] at ef
    cases ef
    exact ⟨Hf0, H0, Hf, ρ, d, so, e1, fun v Hf' H' x r => k v Hf' H' (so.ext.trans x) r⟩
noncomputable def zea (f : List Sl -> Option D) (ρ : List Sl) : Option Fl := (f ρ).map fun d => .rtS d ρ
theorem zjq {f : List Sl -> Option D} (he : DE c X e f) : DS c X (.Return (some e) pos) (zea f) := PS.imp (zf9 he) fun E σ H q_ => by
  obtain ⟨Hf0, H0, Hf, ρ, o, so, ef, k⟩ := q_
  unfold zea at ef
  cases e1 : f ρ with
  | none => rw [e1] at ef; cases ef
  | some d =>
    rw [e1] at ef
    cases ef
    exact ⟨Hf0, H0, Hf, ρ, d, so, e1, fun v Hf' H' x r => k v σ Hf' H' (so.step x) r⟩
theorem zt6 {f : List Sl -> Option (List D)} (he : DO c X e f) : DS c X (.Return (some e) pos) (zgj f) := PS.imp (zf9 he) fun E σ H q_ => by
  obtain ⟨Hf0, H0, Hf, ρ, o, so, ef, k⟩ := q_
  unfold zgj at ef
  cases e1 : f ρ with
  | none => rw [e1] at ef; cases ef
  | some d =>
    rw [e1] at ef
    cases ef
    exact ⟨Hf0, H0, Hf, ρ, d, so, e1, fun l vs Hf' H' x hn hf hl r => k l vs Hf' H' (so.ext.trans x) (so.ext.h.free hn) hf hl r⟩
theorem zvm {i : Nat} (he : PE X e (zbt i)) : DS c X (.Return (some e) pos) (ze8 i) := PS.imp (zf9 he) fun E σ H q_ => by
  obtain ⟨Hf0, H0, Hf, ρ, o, so, ef, k⟩ := q_
  unfold ze8 at ef
  cases es : ρ[i]? with
  | none => rw [es] at ef; cases ef
  | some s =>
    rw [es] at ef
    cases s with
    | im d =>
      cases ef
      obtain ⟨v, e1, r⟩ := so.imm es
      exact ⟨_, e1, k v Hf H so.ext r⟩
    | own xs =>
      cases ef
      obtain ⟨l, e1, h0, hf, vs, q, r⟩ := so.ownAt rfl es
      exact ⟨_, e1, k l vs Hf H so.ext h0 hf q r⟩
    | _ => cases ef
theorem zqq (i : Nat) {x : Str} {p : Pos} (hN : X.N[i]? = some x := by rfl) (hv : Vis X.env.scope x := by first | exact Or.inl rfl | exact Or.inr (Or.inl rfl) | exact Or.inr (Or.inr rfl)) (hd : (x == ("__debug__" : Str)) = false := by decide)
    (hcd : (x == ("__classdict__" : Str)) = false := by decide) : DS c X (.Return (some (.Name x p)) pos) (ze8 i) := zvm (zc4 hN hv hd hcd)
theorem zdx {fi : List Sl -> Option (List D)} {g : D -> List Sl -> Option (List Sl)} {kk : Nat} (hp : PassesOwn (model X.prog X.w) X.A X.env X.xe) (hc : X.calm = true) (hi : DI c X tg iter fi) (hg : DG c X tg kk g) (hb : DSs c X a F) (hs : ∀ x, foldedSetIterable iter X.env x = pure x := by intro _; rfl) :
    DS c X (.For tg iter a [] pos) (zb5 fi g F) := PS.imp (zob hp hc hi hg.pg hb hs) fun E σ H q_ => by
  obtain ⟨Hf0, H0, Hf, ρ, o, so, ef, k⟩ := q_
  unfold zb5 at ef
  cases e1 : fi ρ with
  | none => rw [e1] at ef; cases ef
  | some ds =>
    rw [e1] at ef
    replace ef : zbv g F ds ρ = some o := ef
    refine ⟨Hf0, H0, Hf, ρ, ds, so, e1, fun J Hf1 H1 x1 it => ?_⟩
    refine ⟨fun i m σ' H' => m = ds.length - i /\ i <= ds.length /\ ∃ Hf' ρ', zab (Gx c X) Hf0 H0 Hf' H' σ' ρ' /\ zac Hf1 Hf' /\ zbv g F (ds.drop i) ρ' = some o, ⟨ds.length, rfl, Nat.zero_le _, Hf1, ρ, so.step x1, zac.refl _, ef⟩, ?_⟩
    rintro i m σ' H' ⟨rfl, hi', Hf', ρ', so', s1, em⟩
    obtain ⟨it1, it2⟩ := it Hf' H' s1 so'.sub i
    by_cases hlt : i < ds.length
    · obtain ⟨d, ed, edr⟩ := zg8 hlt
      obtain ⟨go, yl⟩ := it1 d ed
      rw [edr] at em
      unfold zbv at em
      refine .inr ⟨go, fun σ2 H2 => ds.length - (i + 1) = ds.length - (i + 1) /\ i + 1 <= ds.length /\ ∃ Hf' ρ', zab (Gx c X) Hf0 H0 Hf' H2 σ2 ρ' /\ zac Hf1 Hf' /\ zbv g F (ds.drop (i + 1)) ρ' = some o, fun σ2 H2 w => ⟨ds.length - (i + 1), by omega, w⟩, fun x H2 y => ?_⟩
      obtain ⟨Hf2, x2, rx⟩ := yl x H2 y
      cases eg : g d ρ' with
      | none => rw [eg] at em; cases em
      | some ρ1 =>
        rw [eg] at em
        replace em : (F ρ1).bind _ = _ := em
        cases eF : F ρ1 with
        | none => rw [eF] at em; cases em
        | some o1 =>
          rw [eF] at em
          refine ⟨Hf0, H0, Hf2, ρ', d, ρ1, so'.step x2, rx, eg, fun σ3 so3 => ⟨Hf0, H0, Hf2, ρ1, o1, so3, eF, ?_⟩⟩
          have sf := s1.trans x2.f
          cases o1 with
          | nx ρ2 => exact fun σ4 Hf4 H4 s4 so4 => ⟨rfl, hlt, Hf4, ρ2, so4, sf.trans s4, em⟩
          | ct ρ2 => exact fun σ4 Hf4 H4 s4 so4 => ⟨rfl, hlt, Hf4, ρ2, so4, sf.trans s4, em⟩
          | bk ρ2 => cases em; exact fun σ4 Hf4 H4 s4 so4 => k σ4 Hf4 H4 ((x1.f.trans sf).trans s4) so4
          | rt d => cases em; exact k
          | rtO d => cases em; exact k
          | rtS d ρ2 => cases em; exact k
          | rtT o' => cases em; exact k
    · have ei : i = ds.length := by omega
      subst ei
      rw [List.drop_eq_nil_of_le (Nat.le_refl _)] at em
      cases em
      exact .inl ⟨it2 rfl, k σ' Hf' H' (x1.f.trans s1) so'⟩
theorem ztj {G : Gc} {i : Nat} {E : zcy} {σ : St} {H : Hp} (h : tDS G (zc8 i F) E σ H) : tDS G F E σ H := by
  obtain ⟨Hf0, H0, Hf, ρ, o, so, ef, k⟩ := h
  unfold zc8 zkx at ef
  split at ef
  · rename_i xs es
    obtain ⟨l, e1, h0, hf, vs, q, r⟩ := so.ownAt rfl es
    exact ⟨Hf0, H0, _, _, o, so.fixd (d := .lst xs) rfl es e1 q ⟨l, vs, rfl, zan, r.up (zai hf)⟩, ef, k.up (zai hf)⟩
  · rename_i ks xs es
    obtain ⟨l, e1, h0, hf, vs, q, z, r⟩ := so.ownAt rfl es
    exact ⟨Hf0, H0, _, _, o, so.fixd (d := .dic ks xs) rfl es e1 q ⟨l, vs, rfl, zan, z, r.up (zai hf)⟩, ef, k.up (zai hf)⟩
  · rename_i c' ns xs es
    obtain ⟨l, e1, h0, hf, dx, vs, q, z, r⟩ := so.ownAt rfl es
    exact ⟨Hf0, H0, _, _, o, so.fixd (d := .ins c' ns xs) rfl es e1 q ⟨l, dx, vs, rfl, zan, z, r.up (zai hf)⟩, ef, k.up (zai hf)⟩
  · exact ⟨Hf0, H0, Hf, ρ, o, so, ef, k⟩
theorem zgw (i : Nat) (h : DS c X st F) : DS c X st (zc8 i F) := PS.imp h fun _ _ _ => ztj
theorem zmz {i : Nat} {f : List Sl -> Option D} (h : PS X st (zfa (tBM X.K "list" zgs (zbt i) (ze4 (tD (Gx c X) f) zfd)))) : DS c X st (zeo i f) := PS.imp h fun E σ H q_ => by
  obtain ⟨Hf0, H0, Hf, ρ, o, so, ef, k⟩ := q_
  unfold zeo at ef
  cases e1 : f ρ with
  | none => rw [e1] at ef; cases ef
  | some d =>
    rw [e1] at ef
    replace ef : (match ρ[i]? with | some (.own xs) => if xs.length < 16777216 then some (Fl.nx (ρ.set i (.own (xs ++ [d])))) else none | _ => none) = some o := ef
    split at ef
    · rename_i xs es
      split at ef
      · rename_i hl
        cases ef
        obtain ⟨l, e2, h0, hf, vs, q, r⟩ := so.ownAt rfl es
        refine ⟨_, e2, .inl ⟨rfl, _, SqL.of q⟩, Hf0, H0, Hf, ρ, d, so, e1, fun v Hf' H' x r' => ?_⟩
        have so' := so.step x
        have q' := x.h _ _ q
        refine ⟨l, vs, v, rfl, rfl, q', by rw [sizeLine_eq, <- r.length]; exact hl, k σ Hf' _ x.f (so'.mutd (s := .own xs) (s' := .own (xs ++ [d])) rfl rfl es e2 ⟨vs ++ [v], zan, (r.up x.f).append (.cons r' .nil)⟩)⟩
      · cases ef
    · cases ef
end
noncomputable def zjr : Fl -> Option D
  | .rt d => some d
  | .rtO ds => some (.lst ds)
  | .rtS d _ => some d
  | .nx _ => some .non
  | _ => none
noncomputable def zcb (n : Nat) (ds : List D) : List Sl := ds.map .im ++ List.replicate (n - ds.length) .no
noncomputable def zdk (n : Nat) (F : List Sl -> Option Fl) (ds : List D) : Option D := (F (zcb n ds)).bind zjr
noncomputable def spD (G : Gc) (n : Nat) (m : List D -> Option D) : Sp := fun vs H Q _ => ∃ Hf ds d, zac Hf H /\ zaa G Hf ds vs /\ ds.length = n /\ m ds = some d /\ ∀ v Hf' H', Ext Hf H Hf' H' -> Rep G Hf' d v -> Q v H'
theorem zab.start {G : Gc} {Hf H : Hp} {N : List Str} {ds : List D} {vs : List V} (s0 : zac Hf H) (r : zaa G Hf ds vs) : zab G Hf H Hf H (start N vs) (zcb N.length ds) := by
  have hl := r.length
  have im : ∀ (i : Nat) (s : Sl), (zcb N.length ds)[i]? = some s -> s = .no \/ ∃ d, ds[i]? = some d /\ s = .im d := fun i s b => by
    unfold zcb at b
    by_cases hi : i < ds.length
    · rw [List.getElem?_append_left (by simpa using hi)] at b
      obtain ⟨d, ed, es⟩ := zif b
      exact .inr ⟨d, ed, es⟩
    · rw [List.getElem?_append_right (by simpa using Nat.le_of_not_lt hi)] at b
      obtain ⟨_, e⟩ := List.getElem?_eq_some_iff.mp b
      rw [List.getElem_replicate] at e
      exact .inl e.symm
  refine ⟨Ext.refl s0, by simp [L2.start, zcb, hl], fun i v s a b => ?_, fun i j s t v w l a b c d p q => ?_⟩
  · rcases im i s b with e | ⟨d, ed, es⟩
    · subst e; trivial
    · subst es
      obtain ⟨u, eu, ru⟩ := r.get ed
      refine ⟨u, ?_, ru⟩
      have hi : i < vs.length := (List.getElem?_eq_some_iff.mp eu).1
      unfold L2.start at a
      rw [List.getElem?_append_left (by simpa using hi), List.getElem?_map, eu] at a
      exact (Option.some.inj a).symm
  · rcases im i s a with e | ⟨d, ed, es⟩
    · subst e; exact (p.calm rfl).elim
    · subst es; exact (p.calm rfl).elim
section
variable {P : Program} {w : World} {K : PySem.W.Frag} {mg : Str -> Option Value} {base : Heap} {c : Str -> Addr}
theorem zh2 {x qual : Str} {st : Stmt} {f : Addr} {fd : FuncData} {N ps : List Str} {k : Nat} {F : List Sl -> Option Fl} (Fn : Fun K x qual st f fd) (S : zb3 N ps (zas st))
    (h : ∀ (cdv : Value) (A : Around) (outer : List Env) (s : Shared) (H : Hp) (E : XK), zat k (A.deeper (envOfC qual (zas st) s.heap.objs.size f cdv)) -> DSs c (zdd CX0 P w K mg base N qual (zas st) f cdv A outer s H E).nox (zbn st) F) :
    zax P w K mg base CX0 (k + 1) f fd ps (spD ⟨K, c⟩ ps.length (zdk N.length F)) := by
  refine Fn.ok S (fun vs H Q E ⟨Hf, ds, d, s0, r, hl, _⟩ => by rw [<- r.length]; exact hl) fun cdv A outer s H vs Q E hr ⟨Hf, ds, d, s0, r, hl, e, kq⟩ => ⟨_, h cdv A outer s H E hr, ?_⟩
  unfold zdk at e
  cases eF : F (zcb N.length ds) with
  | none => rw [eF] at e; cases e
  | some o =>
    rw [eF] at e
    replace e : zjr o = some d := e
    refine ⟨Hf, H, Hf, _, o, zab.start s0 r, eF, ?_⟩
    cases o with
    | nx ρ => cases e; exact fun σ' Hf' H' _ so => kq _ Hf' H' so.ext rfl
    | bk ρ => cases e
    | ct ρ => cases e
    | rt d => cases e; exact kq
    | rtO rs => cases e; exact fun l vs Hf' H' x hn hf hl r => kq _ (upd Hf' l (.lst vs)) H' (x.fix hn hf hl) ⟨l, vs, rfl, zan, r.up (zai hf)⟩
    | rtS d ρ => cases e; exact fun v σ' Hf' H' so r => kq v Hf' H' so.ext r
    | rtT o => cases e
end
section
variable {c : Str -> Addr} {X : Cx} {k : Nat} {f C : Addr} {fd : FuncData} {ps : List Str} {x : Str} {p pos apos : Pos} {e o : Expr} {es : List Expr} {fa : List Sl -> Option (List D)}
theorem zoc {m : List D -> Option D} (F : zax X.prog X.w X.K X.mg X.base CX0 k f fd ps (spD (Gx c X) ps.length m)) (hr : zat k X.A) (hg : Gl X x) (hm : X.mg x = some (.ref f)) (hk : PySem.W.keepIn X.K (.ref f) = true) (hb : zbe X.K fd ps []) (ha : DA c X (e :: es) fa)
    (hl : (e :: es).length = ps.length := by rfl) (hdb : (x == ("__debug__" : Str)) = false := by decide) (he : starEach (e :: es) X.env = (false, eval e X.env) :: starEach es X.env := by rfl) (hpl : (backTo pos (starEach es X.env)).any (·.1) = false := by rfl) :
    DE c X (.Call (.Name x p) (e :: es) [] pos) (za4 m fa) := PE.imp (zg4 F hr hg hm hk hb .nil zf5 ha.pa hdb he hpl) fun σ H Q q_ => by
  obtain ⟨Hf0, H0, Hf, ρ, d, st, ef, kq⟩ := q_
  obtain ⟨ds, e1, e2⟩ := zjb ef
  refine ⟨Hf0, H0, Hf, ρ, ds, st, e1, fun vs Hf' H' x r => ?_⟩
  dsimp only
  rw [List.append_nil]
  exact ⟨Hf', ds, d, x.s, r, (ha.len ρ ds e1).trans hl, e2, fun v Hf2 H2 x2 r2 => kq v Hf2 H2 (x.trans x2) r2⟩
noncomputable def zei (m : List D -> Option D) (f : List Sl -> Option (List D)) (ρ : List Sl) : Option D := (f ρ).bind fun ds => (m ds).bind fun d => if d.scalar then some d else none
theorem zmn {m : List D -> Option D} (F : zax X.prog X.w X.K X.mg X.base CX0 k f fd ps (spD (Gx c X) ps.length m)) (hr : zat k X.A) (hg : Gl X x) (hm : X.mg x = some (.ref f)) (hk : PySem.W.keepIn X.K (.ref f) = true) (hb : zbe X.K fd ps []) (ha : DAB c X (e :: es) fa)
    (hl : (e :: es).length = ps.length := by rfl) (hdb : (x == ("__debug__" : Str)) = false := by decide) (he : starEach (e :: es) X.env = (false, eval e X.env) :: starEach es X.env := by rfl) (hpl : (backTo pos (starEach es X.env)).any (·.1) = false := by rfl) :
    DE c X (.Call (.Name x p) (e :: es) [] pos) (zei m fa) := PE.imp (zg4 F hr hg hm hk hb .nil zf5 ha.pa hdb he hpl) fun σ H Q q_ => by
  obtain ⟨Hf0, H0, Hf, ρ, d, st, ef, kq⟩ := q_
  unfold zei at ef
  cases e1 : fa ρ with
  | none => rw [e1] at ef; cases ef
  | some ds =>
    rw [e1] at ef
    replace ef : (m ds).bind _ = _ := ef
    cases e2 : m ds with
    | none => rw [e2] at ef; cases ef
    | some d' =>
      rw [e2] at ef
      replace ef : (if d'.scalar = true then some d' else none) = some d := ef
      split at ef
      · rename_i hs
        cases ef
        refine ⟨Hf0, H0, Hf, ρ, ds, st, e1, fun vs Hf' H' x r => ?_⟩
        dsimp only
        rw [List.append_nil]
        exact ⟨H', ds, _, zac.refl _, r, (ha.len ρ ds e1).trans hl, e2, fun v Hf2 H2 x2 r2 => kq v Hf' H2 (x.trans (Ext.grow x.s x2.h)) (r2.sc hs)⟩
      · cases ef
end
end L2
namespace L2
open PySem PySem.Spec PyProof.Rows
section
variable {c : Str -> Addr} {X : Cx} {k : Nat} {f C : Addr} {fd : FuncData} {ps : List Str} {x fl cn : Str} {p pos apos : Pos} {e o : Expr} {es : List Expr} {fo : List Sl -> Option D} {fa : List Sl -> Option (List D)}
end
section
variable {c : Str -> Addr} {X : Cx} {cn fl : Str} {e o : Expr} {sts : List Stmt} {pos pos' : Pos} {m : List Sl -> Option D} {fs : List (Str × (List Sl -> Option D))}
end
section
variable {P : Program} {w : World} {K : PySem.W.Frag} {mg : Str -> Option Value} {base : Heap} {c : Str -> Addr}
end
section
variable {c : Str -> Addr} {X : Cx} {k : Nat} {f : Addr} {fd : FuncData} {ps : List Str} {x cn : Str} {p pos : Pos} {e : Expr} {es : List Expr} {fa : List Sl -> Option (List D)}
end
end L2
namespace L2
open PySem PySem.Spec PyProof.Rows
theorem zvb {i : Nat} {f : List Sl -> Option D} {ρ : List Sl} {d : D} (h : f ρ = some d) : zbw i f ρ = some (.nx (ρ.set i (.im d))) := by
  unfold zbw
  rw [h]
  rfl
theorem zpp {i : Nat} {f : List Sl -> Option (List D)} {ρ : List Sl} {d : List D} (h : f ρ = some d) : zcs i f ρ = some (.nx (ρ.set i (.own d))) := by
  unfold zcs
  rw [h]
  rfl
theorem zvu {f : List Sl -> Option D} {ρ : List Sl} {d : D} (h : f ρ = some d) : zcj f ρ = some (.rt d) := by
  unfold zcj
  rw [h]
  rfl
theorem zcq {m : List D -> Option D} {f : List Sl -> Option (List D)} {ρ : List Sl} {ds : List D} {d : D} (h : f ρ = some ds) (h' : m ds = some d) : za4 m f ρ = some d := by
  unfold za4
  rw [h]
  exact h'
theorem zn6 {α : Type} {h : D -> Option (Option D)} (f : α -> D) (p : α -> Bool) (q : α -> D) : ∀ (xs : List α), (∀ x ∈ xs, h (f x) = some (if p x then some (q x) else none)) -> zcc h (xs.map f) = some ((xs.filter p).map q)
  | [], _ => rfl
  | x :: xs, hh => by
    rw [List.map_cons]
    unfold zcc
    rw [hh x List.mem_cons_self, zn6 f p q xs fun y hy => hh y (List.mem_cons_of_mem _ hy)]
    cases hp : p x with
    | true => rw [List.filter_cons_of_pos hp]; rfl
    | false => rw [List.filter_cons_of_neg (by rw [hp]; exact Bool.false_ne_true)]; rfl
theorem zqn {α : Type} {h : D -> Option (Option D)} (f : α -> D) (q : α -> D) (xs : List α) (hh : ∀ x ∈ xs, h (f x) = some (some (q x))) : zcc h (xs.map f) = some (xs.map q) := by
  have := zn6 (h := h) f (fun _ => true) q xs fun x hx => (hh x hx).trans rfl
  rw [this, List.filter_eq_self.mpr fun _ _ => rfl]
theorem zwh {α : Type} {k : Nat} {js : List Nat} {fi : List Sl -> Option (List D)} {g : D -> List Sl -> Option (List Sl)} {ft : List Sl -> Option Bool} {fe : List Sl -> Option D} {ρ : List Sl} (xs : List α) (f : α -> D) (q : α -> D)
    (hi : fi ρ = some (xs.map f)) (hz : xs.length <= 16777216) (hh : ∀ x ∈ xs, zda g ft fe (za2 k js ρ) (f x) = some (some (q x))) : zfj k js fi g ft fe ρ = some (xs.map q) := by
  unfold zfj
  rw [hi]
  show (if (xs.map f).length <= 16777216 then _ else none) = _
  rw [List.length_map, if_pos hz]
  exact zqn f q xs hh
theorem zwq (lo : Int) (n : Nat) : rng lo n = (List.range n).map fun (i : Nat) => D.int (lo + i) := rfl
noncomputable def za5 : Nat -> D -> Prop
  | 0, _ => False
  | n + 1, d => match d with
    | .lst xs => ∀ x ∈ xs, za5 n x
    | .tup xs => ∀ x ∈ xs, za5 n x
    | d => d.scalar = true
theorem zj6 {f : D -> D -> Option Bool} : ∀ (xs : List D), (∀ x ∈ xs, f x x = some true) -> za7 f xs xs = some true
  | [], _ => rfl
  | x :: xs, h => by
    unfold za7
    rw [h x List.mem_cons_self, zj6 xs fun y hy => h y (List.mem_cons_of_mem _ hy)]
    rfl
theorem zhu : ∀ (n : Nat) (d : D), za5 n d -> deq n d d = some true
  | 0, _, h => h.elim
  | n + 1, d, h => by
    show zin (deq n) d d = some true
    cases d with
    | lst xs =>
      show (if xs.length = xs.length then za7 (deq n) xs xs else some false) = _
      rw [if_pos rfl]
      exact zj6 xs fun x hx => zhu n x (h x hx)
    | tup xs =>
      show (if xs.length = xs.length then za7 (deq n) xs xs else none) = _
      rw [if_pos rfl]
      exact zj6 xs fun x hx => zhu n x (h x hx)
    | non => rfl
    | bl b => show some (b == b) = _; rw [beq_self_eq_true]
    | int b => show some (b == b) = _; rw [beq_self_eq_true]
    | str b => show some (b == b) = _; rw [beq_self_eq_true]
    | _ => cases h
theorem za5.mono : ∀ (n : Nat) (d : D), za5 n d -> za5 (n + 1) d
  | 0, _, h => h.elim
  | n + 1, d, h => by
    cases d with
    | lst xs => exact fun x hx => za5.mono n x (h x hx)
    | tup xs => exact fun x hx => za5.mono n x (h x hx)
    | _ => exact h
theorem za5.le {n m : Nat} {d : D} (h : za5 n d) (hm : n <= m) : za5 m d := by
  induction hm with
  | refl => exact h
  | step _ ih => exact za5.mono _ _ ih
theorem zth {d : D} (h : za5 20 d) : dEq d d = some (.bl true) := by
  unfold dEq
  rw [zhu 20 d h]
  rfl
theorem zma {d : D} (h : za5 20 d) : dNe d d = some (.bl false) := by
  unfold dNe
  rw [zhu 20 d h]
  rfl
theorem zjd (i j : Int) : dEq (.int i) (.int j) = some (.bl (i == j)) := rfl
theorem zpd (i j : Str) : dEq (.str i) (.str j) = some (.bl (i == j)) := rfl
theorem zsq (i j : Bool) : dEq (.bl i) (.bl j) = some (.bl (i == j)) := rfl
theorem zka (i j : Int) : dNe (.int i) (.int j) = some (.bl (!(i == j))) := rfl
theorem zm8 (i j : Str) : dNe (.str i) (.str j) = some (.bl (!(i == j))) := rfl
end L2
namespace L2
open PySem PySem.Spec PyProof.Rows
theorem zay {m : D -> D -> Option D} {f g : List Sl -> Option D} {ρ : List Sl} {x y d : D} (h1 : f ρ = some x) (h2 : g ρ = some y) (h3 : m x y = some d) : m2 m f g ρ = some d := by
  unfold m2
  rw [h1, h2]
  exact h3
theorem zco {f : List Sl -> Option D} {ρ : List Sl} {b : Bool} (h : f ρ = some (.bl b)) : mB f ρ = some b := by
  unfold mB
  rw [h]
  rfl
theorem zj9 {f : List Sl -> Option D} {ρ : List Sl} {d : D} {b : Bool} (h : f ρ = some d) (h' : zi6 d = some b) : zcd f ρ = some b := by
  unfold zcd
  rw [h]
  exact h'
theorem zje {f : List Sl -> Option Bool} {ρ : List Sl} {b : Bool} (h : f ρ = some b) : zcg f ρ = some (!b) := by
  unfold zcg
  rw [h]
  rfl
theorem zqe {f g : List Sl -> Option Bool} {ρ : List Sl} {r : Option Bool} (h : f ρ = some true) (h' : g ρ = r) : zgo f g ρ = r := by
  unfold zgo
  rw [h]
  exact h'
theorem zo4 {f g : List Sl -> Option Bool} {ρ : List Sl} (h : f ρ = some false) : zgo f g ρ = some false := by
  unfold zgo
  rw [h]
  rfl
theorem zwj {f g : List Sl -> Option Bool} {ρ : List Sl} (h : f ρ = some true) : mOr f g ρ = some true := by
  unfold mOr
  rw [h]
  rfl
theorem zst {f g : List Sl -> Option Bool} {ρ : List Sl} {r : Option Bool} (h : f ρ = some false) (h' : g ρ = r) : mOr f g ρ = r := by
  unfold mOr
  rw [h]
  exact h'
theorem zwe {f g : List Sl -> Option Bool} {ρ : List Sl} {a b : Bool} (h : f ρ = some a) (h' : g ρ = some b) : zgo f g ρ = some (a && b) := by
  cases a with
  | true => exact zqe h h'
  | false => exact zo4 h
theorem zv8 {f g : List Sl -> Option Bool} {ρ : List Sl} {a b : Bool} (h : f ρ = some a) (h' : g ρ = some b) : mOr f g ρ = some (a || b) := by
  cases a with
  | true => exact zwj h
  | false => exact zst h h'
theorem znk {f g : List Sl -> Option D} {ρ : List Sl} {a b : Bool} (h : f ρ = some (.bl a)) (h' : g ρ = some (.bl b)) : zgk f g ρ = some (.bl (a && b)) := by
  unfold zgk
  rw [zco h]
  cases a with
  | true => exact h'
  | false => rfl
theorem zw3 {f g : List Sl -> Option D} {ρ : List Sl} {a b : Bool} (h : f ρ = some (.bl a)) (h' : g ρ = some (.bl b)) : vOr f g ρ = some (.bl (a || b)) := by
  unfold vOr
  rw [zco h]
  cases a with
  | true => rfl
  | false => exact h'
theorem zre {f : List Sl -> Option D} {ρ : List Sl} {a : Bool} (h : f ρ = some (.bl a)) : zor f ρ = some (.bl (!a)) := by
  unfold zor
  rw [zco h]
  rfl
theorem za8 {f : List Sl -> Option D} {g : List Sl -> Option (List D)} {ρ : List Sl} {d : D} {ds : List D} (h : f ρ = some d) (h' : g ρ = some ds) : zaf f g ρ = some (d :: ds) := by
  unfold zaf
  rw [h, h']
  rfl
theorem zu1 {f : List Sl -> Option (List D)} {ρ : List Sl} {ds : List D} (h : f ρ = some ds) : zeb f ρ = some (.tup ds) := by
  unfold zeb
  rw [h]
  rfl
theorem zwm {f : List Sl -> Option (List D)} {ρ : List Sl} {ds : List D} (h : f ρ = some ds) : zbo f ρ = some (.lst ds) := by
  unfold zbo
  rw [h]
  rfl
theorem zhb {f : List Sl -> Option (List D)} {g : List Sl -> Option D} {ρ : List Sl} {ds : List D} {i : Int} {r : Option D} (h : f ρ = some ds) (h' : g ρ = some (.int i)) (h2 : atI ds i = r) : mIx f g ρ = r := by
  unfold mIx
  rw [h, h']
  exact h2
theorem zfb {C : Int -> Int -> Prop} [∀ i j, Decidable (C i j)] {g : Int -> Int -> D} {i j : Int} (h : C i j) : dI C g (.int i) (.int j) = some (g i j) := by
  show (if C i j then some (g i j) else none) = _
  rw [if_pos h]
theorem zql {i : Nat} {f : List Sl -> Option D} {ρ : List Sl} {d : D} {xs : List D} (h : f ρ = some d) (h' : ρ[i]? = some (.own xs)) (hl : xs.length < 16777216) : zeo i f ρ = some (.nx (ρ.set i (.own (xs ++ [d])))) := by
  unfold zeo
  rw [h]
  show (match ρ[i]? with | some (.own xs) => if xs.length < 16777216 then some (Fl.nx (ρ.set i (.own (xs ++ [d])))) else none | _ => none) = _
  rw [h']
  show (if xs.length < 16777216 then _ else none) = _
  rw [if_pos hl]
theorem zp7 {g : D -> List Sl -> Option (List Sl)} {ft : List Sl -> Option Bool} {fe : List Sl -> Option D} {ρ ρ1 : List Sl} {d y : D} {b : Bool} (h1 : g d ρ = some ρ1) (h2 : ft ρ1 = some b) (h3 : b = true -> fe ρ1 = some y) : zda g ft fe ρ d = some (if b then some y else none) := by
  unfold zda
  rw [h1]
  show (ft ρ1).bind _ = _
  rw [h2]
  show (if b = true then (fe ρ1).map some else some none) = _
  cases b with
  | true => rw [h3 rfl]; rfl
  | false => rfl
theorem ztc {g : D -> List Sl -> Option (List Sl)} {ft : List Sl -> Option Bool} {fe : List Sl -> Option D} {ρ ρ1 : List Sl} {d y : D} (h1 : g d ρ = some ρ1) (h2 : ft ρ1 = some true) (h3 : fe ρ1 = some y) : zda g ft fe ρ d = some (some y) := zp7 h1 h2 fun _ => h3
theorem zks {f : List Sl -> Option D} {ρ : List Sl} {d : D} {ds : List D} (h : f ρ = some d) (h' : zdu d = some ds) : zb1 f ρ = some ds := by
  unfold zb1
  rw [h]
  exact h'
end L2
namespace L2
open PySem PySem.Spec PyProof.Rows
end L2
namespace L2
open PySem PySem.Spec PyProof.Rows
noncomputable def itD (z : Int × Int) : D := .tup [.int z.1, .int z.2]
noncomputable def InN (n : Nat) (its : List (Int × Int)) : Prop := ∀ z ∈ its, 0 <= z.1 /\ z.1 < (n : Int) /\ 0 <= z.2
noncomputable def Prt.toD : Prt -> D
  | .inn t => .tup [.str "in", .int t]
  | .out t => .tup [.str "out", .int t]
  | .least k its => .tup [.str "least", .int k, .lst (its.map itD)]
  | .most k its => .tup [.str "most", .int k, .lst (its.map itD)]
noncomputable def Prt.obj : Prt -> D
  | .inn t => .ins "In" ["thing"] [.int t]
  | .out t => .ins "Out" ["thing"] [.int t]
  | .least k its => .ins "Least" ["bound", "pieces"] [.int k, .lst (its.map itD)]
  | .most k its => .ins "Most" ["bound", "pieces"] [.int k, .lst (its.map itD)]
noncomputable def Prt.Ok (n : Nat) : Prt -> Prop
  | .inn t => 0 <= t /\ t < (n : Int)
  | .out t => 0 <= t /\ t < (n : Int)
  | .least _ its => InN n its /\ its.length <= 100000
  | .most _ its => InN n its /\ its.length <= 100000
end L2
namespace L2
open PySem PySem.Spec PyProof.Rows
section
variable {c : Str -> Addr} {X : Cx}
noncomputable def zed : List D -> Option (List Bool)
  | [] => some []
  | .bl b :: ds => (zed ds).map fun r => b :: r
  | _ => none
theorem zn2 (bs : List Bool) : zed (bs.map D.bl) = some bs := by
  induction bs with
  | nil => rfl
  | cons n ns ih => rw [List.map_cons, zed, ih]; rfl
noncomputable def zox : List D -> Option D
  | [d] => (lsD d).bind fun ds => (zed ds).map fun bs => .bl (bs.all id)
  | _ => none
noncomputable def zn9 : List D -> Option D
  | [d] => (lsD d).bind fun ds => (zed ds).map fun bs => .bl (bs.any id)
  | _ => none
theorem zt9 (bs : List Bool) : zox [.lst (bs.map D.bl)] = some (.bl (bs.all id)) := by
  show (zed (bs.map D.bl)).map _ = _
  rw [zn2]
  rfl
theorem zty (bs : List Bool) : zn9 [.lst (bs.map D.bl)] = some (.bl (bs.any id)) := by
  show (zed (bs.map D.bl)).map _ = _
  rw [zn2]
  rfl
end
end L2
namespace L2
open PySem PySem.Spec PyProof.Rows
inductive Wrd where
  | make | may | never
  deriving DecidableEq
noncomputable def Wrd.s : Wrd -> Str
  | .make => "make"
  | .may => "may"
  | .never => "never"
structure Rul where
  w : Wrd
  hd : Int
  ps : List Prt
noncomputable def Rul.hdD (r : Rul) : D := match r.w with
  | .never => .non
  | _ => .int r.hd
noncomputable def Rul.toD (r : Rul) : D := .tup [.str r.w.s, r.hdD, .lst (r.ps.map Prt.toD)]
structure Rul.Ok (n : Nat) (r : Rul) : Prop where
  hd : r.w ≠ .never -> 0 <= r.hd /\ r.hd < (n : Int)
  ps : ∀ p ∈ r.ps, p.Ok n
  len : r.ps.length <= 100000
theorem zny {α : Type} (f : α -> Bool) (xs : List α) : (xs.map fun x => D.bl (f x)) = (xs.map f).map D.bl := by
  rw [List.map_map]
  rfl
theorem all_map (f : Prt -> Bool) (xs : List Prt) : zox [.lst (xs.map fun x => D.bl (f x))] = some (.bl (xs.all f)) := by
  rw [zny, zt9, List.all_map]
  rfl
theorem any_map (f : Prt -> Bool) (xs : List Prt) : zn9 [.lst (xs.map fun x => D.bl (f x))] = some (.bl (xs.any f)) := by
  rw [zny, zty, List.any_map]
  rfl
end L2
namespace L2
open PySem PySem.Spec PyProof.Rows
structure zn7 (es es' : List (Option Bool)) : Prop where
  len : es'.length = es.length
  at' : ∀ i, es.getD i none = none \/ es'.getD i none = es.getD i none
structure zoj (ws ws' : List Bool) : Prop where
  len : ws'.length = ws.length
  at' : ∀ i, ws.getD i false = true -> ws'.getD i false = true
theorem zn7.refl (es : List (Option Bool)) : zn7 es es := ⟨rfl, fun _ => .inr rfl⟩
theorem zoj.refl (ws : List Bool) : zoj ws ws := ⟨rfl, fun _ h => h⟩
theorem Prt.Ok.le {n m : Nat} {p : Prt} (h : p.Ok n) (e : m = n) : p.Ok m := e ▸ h
end L2
namespace L2
open PySem PySem.Spec PyProof.Rows
noncomputable def Ite (K : PySem.W.Frag) (l : Addr) : It :=
  ⟨fun i H => ∃ xs x, SqL K H l xs /\ xs[i]? = some x,
   fun i H v H' => ∃ p x, v = .ref p /\ H p = none /\ H' = upd H p (.tup [.int i, x]) /\ (∀ xs, SqL K H l xs -> xs[i]? = some x),
   fun i H => ∃ xs, SqL K H l xs /\ xs.length <= i⟩
theorem zsk {P : Program} {w : World} {K : PySem.W.Frag} {elts : List Expr} {kx : Nat} {pos : Pos} (e it l : Addr) (ne : e ≠ it) :
    zef P w K (.Tuple elts kx pos) (Ite K l) [e, it] e (fun i h => (∃ old, IsEnum h e it (i : Int) old) /\ h.IsListIter it l i) where
  mem := by simp
  obj := fun i h st b hb => by
    obtain ⟨⟨old, he⟩, ⟨o1, e1, _, d1⟩⟩ := st
    simp only [List.mem_cons, List.not_mem_nil, or_false] at hb
    rcases hb with rfl | rfl
    · exact ⟨_, he, fun v q => by cases q⟩
    · exact ⟨o1, e1, fun v q => by rw [d1] at q; cases q⟩
  keep := fun i h h' st k => by
    obtain ⟨⟨old, he⟩, h1⟩ := st
    exact ⟨⟨old, k e (by simp) _ he⟩, h1.at fun o q => k it (by simp) o q⟩
  item := by
    intro X hP hw hK hc i pins s σ H E I hf st hg
    subst hP hw hK
    obtain ⟨⟨old, he⟩, h1⟩ := st
    obtain ⟨xs, x, q1, hx⟩ := hg
    obtain ⟨its1, r1, p1, z1⟩ := I.list q1
    obtain ⟨u1, e1, ru1⟩ := r1.get hx
    refine wpAny_pyNext_enum_item he h1 p1.isList (x := u1) (by simpa using e1) ne fun h' a1 a3 a5 a6 a7 => ⟨_, rfl, ?_⟩
    refine wpAny_letOwnedTupleGo_enum (s := { s with heap := h', toks := s.toks + 1 }) a1 fun h'' b1 b2 => ?_
    have lt : ∀ b ∈ [e, it], b < s.heap.objs.size := fun b hb => by
      simp only [List.mem_cons, List.not_mem_nil, or_false] at hb
      rcases hb with rfl | rfl
      · exact Heap.lt_size he
      · obtain ⟨o, e, _⟩ := h1; exact Heap.lt_size e
    have kk : ∀ b o, b ∉ [e, it] -> s.heap.get? b = some o -> h''.get? b = some o := fun b o hb e => by
      simp only [List.mem_cons, List.not_mem_nil, or_false, not_or] at hb
      obtain ⟨n1, n2⟩ := hb
      exact (b2.2 b n1).trans (a7 b o n1 n2 e)
    have fr : H s.heap.objs.size = none := I.hok.fresh (Nat.le_refl _)
    have I1 : Inv X pins σ H { s with heap := h'', toks := s.toks + 1 } := I.turnedMany (t' := s.toks + 1) kk hf
    have hp : h''.get? s.heap.objs.size = some { cls := .type "tuple", data := .seq #[.int i s.toks, u1] } := (b2.2 _ (Nat.ne_of_gt (lt e (by simp)))).trans a5
    have I2 : Inv X pins σ (upd H s.heap.objs.size (.tup [.int i, x])) { s with heap := h'', toks := s.toks + 1 } :=
      I1.track (I.fpOk (Nat.le_refl _) fr) ⟨(by show 2 <= sizeLine; decide), [.int i s.toks, u1], .cons ⟨s.toks, rfl⟩ (.cons ru1 .nil), ⟨_, hp, rfl, _, rfl⟩⟩
    refine ⟨.ref s.heap.objs.size, _, I2, rfl, ⟨_, x, rfl, fr, rfl, fun xs' h => by rw [I.list_inj h q1]; exact hx⟩, ⟨⟨u1, ?_⟩, ?_⟩, fun b hb => ?_⟩
    · have : ((i + 1 : Nat) : Int) = (i : Int) + 1 := by push_cast; rfl
      rw [this]; exact b1
    · exact a3.at fun o q => (b2.2 it (Ne.symm ne)).trans q
    · rw [zag (Nat.ne_of_lt (lt b hb))]
      exact (hf b hb).1
  done := by
    intro X hP hw hK hc i pins s σ H E I hf st hg
    subst hP hw hK
    obtain ⟨⟨old, he⟩, h1⟩ := st
    obtain ⟨xs, q1, hend⟩ := hg
    obtain ⟨its1, r1, p1, z1⟩ := I.list q1
    have l1' := r1.length
    refine wpAny_pyNext_enum_end (I.ok.hd hc) he h1 p1.isList (by simp; omega) fun h' kk => ⟨rfl, I.turnedMany (t' := s.toks) (ch := [e, it]) (fun b o hb q => ?_) hf⟩
    simp only [List.mem_cons, List.not_mem_nil, or_false, not_or] at hb
    exact kk b o hb.2 q
  self := fun _ _ _ _ _ st h => by obtain ⟨⟨old, he⟩, _⟩ := st; exact wpAny_pyIter_enum he h
section
variable {X : Cx} {elts : List Expr} {kx : Nat} {tpos : Pos}
noncomputable def zvy (K : PySem.W.Frag) (ta : TA) : TI := fun σ H R => ta σ H fun vs H1 => ∃ l, vs = [.ref l] /\ (∃ xs, SqL K H1 l xs) /\ R (Ite K l) H1
theorem zvx {a : Expr} {ta : TA} {p pos : Pos} (hg : Gl X "enumerate") (hm : X.mg "enumerate" = none) (ha : PA X [a] ta) (hs : starEach [a] X.env = [(false, eval a X.env)] := by rfl) :
    PI X (.Tuple elts kx tpos) (.Call (.Name "enumerate" p) [a] [] pos) (zvy X.K ta) := by
  intro pins s σ H R I h
  refine Call_ (zfm I hg hm boot_enumerate (PyProof.Rows.callWith_type1 (thn (ha pos pins s σ H _ I h) fun us s1 ⟨vs, H1, I1, r1, q1⟩ => ?_) (by rw [hs]; rfl) (by rfl)))
  obtain ⟨l, e, ⟨xs, h1⟩, q⟩ := q1
  subst e
  obtain ⟨u, rfl, ru⟩ := zf0 r1
  cases ru
  obtain ⟨its1, r1, p1, z1⟩ := I1.list h1
  refine call_enumerate_list p1.isList fun h' a1 a4 a6 a7 => ?_
  refine wpAny_pyIter_enum a1 ?_
  have I2 : Inv X pins σ H1 { s1 with heap := h' } := I1.kept (t' := s1.toks) a7
  refine ⟨_, [s1.heap.objs.size + 1, s1.heap.objs.size], _, _, H1, rfl, I2, zsk _ _ _ (Nat.succ_ne_self _), ⟨⟨_, a1⟩, a4⟩, fun b hb => ?_, q⟩
  simp only [List.mem_cons, List.not_mem_nil, or_false] at hb
  have hle : s1.heap.objs.size <= b := by
    rcases hb with rfl | rfl
    · exact Nat.le_add_right _ _
    · exact Nat.le_refl _
  exact I1.fpOk hle (I1.hok.fresh hle)
end
noncomputable def zeg : Nat -> List D -> List D
  | _, [] => []
  | i, x :: xs => .tup [.int i, x] :: zeg (i + 1) xs
theorem zoz : ∀ (i : Nat) (xs : List D), (zeg i xs).length = xs.length
  | _, [] => rfl
  | i, x :: xs => by rw [zeg, List.length_cons, List.length_cons, zoz]
theorem zjp : ∀ (k : Nat) (xs : List D) (i : Nat), (zeg k xs)[i]? = (xs[i]?).map fun x => .tup [.int (k + i : Nat), x]
  | _, [], _ => rfl
  | k, x :: xs, 0 => rfl
  | k, x :: xs, i + 1 => by rw [zeg, List.getElem?_cons_succ, List.getElem?_cons_succ, zjp (k + 1) xs i, show k + 1 + i = k + (i + 1) by omega]
noncomputable def zi2 : List D -> Option (List D)
  | [x] => (lsD x).map (zeg 0)
  | _ => none
noncomputable def zg0 (f : List Sl -> Option (List D)) (ρ : List Sl) : Option (List D) := (f ρ).bind zi2
section
variable {c : Str -> Addr} {X : Cx} {a : Expr} {pos p : Pos}
theorem zp6 {f : List Sl -> Option (List D)} {elts : List Expr} {kx : Nat} {tpos : Pos} (hg : Gl X "enumerate") (hm : X.mg "enumerate" = none) (ha : DA c X [a] f) (hs : starEach [a] X.env = [(false, eval a X.env)] := by rfl) :
    DI c X (.Tuple elts kx tpos) (.Call (.Name "enumerate" p) [a] [] pos) (zg0 f) :=
  PI.imp (zvx hg hm ha.pa hs) fun σ H R q_ => by
    obtain ⟨Hf0, H0, Hf, ρ, ds, st, ef, k⟩ := q_
    unfold zg0 at ef
    cases e1 : f ρ with
    | none => rw [e1] at ef; cases ef
    | some as =>
      rw [e1] at ef
      replace ef : zi2 as = some ds := ef
      refine ⟨Hf0, H0, Hf, ρ, as, st, e1, fun vs Hf' H' x r => ?_⟩
      unfold zi2 at ef
      split at ef
      · rename_i dx
        cases ex : lsD dx with
        | none => rw [ex] at ef; cases ef
        | some xs =>
          rw [ex] at ef
          cases ef
          obtain ⟨v, ev, rv⟩ := r.one
          obtain ⟨l1, w1, el1, q1, r1⟩ := zjv ex rv
          subst el1
          refine ⟨l1, ev, ⟨w1, x.s.seq q1⟩, k _ Hf' H' x fun Hf2 H2 f2 s2 i => ?_⟩
          have g1 : SqL X.K H2 l1 w1 := (f2.trans s2).seq q1
          have h1 := r1.length
          refine ⟨fun d ed => ?_, fun ei => ⟨w1, g1, by rw [zoz] at ei; omega⟩⟩
          rw [zjp] at ed
          cases hx : xs[i]? with
          | none => rw [hx] at ed; cases ed
          | some x' =>
            rw [hx] at ed
            cases ed
            obtain ⟨u1, eu1, ru1⟩ := r1.get hx
            refine ⟨⟨w1, u1, g1, eu1⟩, fun z H3 ⟨pp, z1, ez, hp, eh, y1⟩ => ?_⟩
            subst ez eh
            have a1 := y1 w1 g1
            rw [eu1] at a1; cases a1
            exact ⟨upd Hf2 pp (.tup [.int i, u1]), Ext.new s2 hp, pp, [.int i, u1], rfl, zan, .cons (by rw [Nat.zero_add]; rfl) (.cons (ru1.up (f2.trans (zai (s2.free hp)))) .nil)⟩
      · cases ef
end
noncomputable def zey : D -> Option Key
  | .int i => some (.inl i)
  | .str x => some (.inr x)
  | _ => none
theorem zmg {G : Gc} {H : Hp} {d : D} {v : V} {k : Key} (e : zey d = some k) (r : Rep G H d v) : v = kV k := by
  cases d <;> first | (cases e; done) | (cases e; exact r)
section
variable {c : Str -> Addr} {X : Cx} {st : Stmt} {e a b i' value : Expr} {pos pos' p' : Pos}
end
end L2
namespace L2
open PySem PySem.Spec PyProof.Rows
section
variable {c : Str -> Addr} {X : Cx} {st : Stmt} {e a b i' value : Expr} {pos pos' : Pos}
end
section
variable {c : Str -> Addr} {X : Cx}
open Classical in
end
end L2
namespace L2
open PySem PySem.Spec PyProof.Rows
noncomputable def Ris (xs : Array Nat) : Prop := xs.toList.Pairwise (· < ·)
end L2
namespace L2
open PySem PySem.Spec PyProof.Rows
noncomputable def zfl (P : Program) (w : World) (h : Heap) (a : Addr) (led : Bool) (S : Int -> Bool) (n : Nat) : Prop :=
  ∃ o ents ep tb, h.get? a = some o /\ o.ExactSet /\ o.data = .set ents ep tb /\ ElemsOf (intKind P w) ents.toList /\ (∀ k, S k = true ↔ ∃ e ∈ ents.toList, (intKind P w).is k e.2 = true)
    /\ ents.size < scanBound /\ tb.fits ents.size = true /\ ents.size = n /\ Ris tb.place /\ tb.led = led
section
variable {P : Program} {w : World} {A : Around} {E : Value -> Shared -> Prop} {s : Shared}
theorem zfl.stay {h h' : Heap} {a : Addr} {led : Bool} {S : Int -> Bool} {n : Nat} (q : zfl P w h a led S n) (k : ∀ o, h.get? a = some o -> h'.get? a = some o) : zfl P w h' a led S n := by
  obtain ⟨o, ents, ep, tb, ho, r⟩ := q
  exact ⟨o, ents, ep, tb, k o ho, r⟩
theorem zfl.congr {h : Heap} {a : Addr} {led : Bool} {S S' : Int -> Bool} {n n' : Nat} (q : zfl P w h a led S n) (e : ∀ k, S k = S' k) (en : n = n') : zfl P w h a led S' n' := by
  have : S = S' := funext e
  subst this en
  exact q
end
end L2
namespace L2
open PySem PySem.Spec PyProof.Rows
set_option maxRecDepth 100000
section
variable {P : Program} {w : World} {A : Around} {R : Result -> Shared -> Prop} {I : Addr} {fp wr : List Addr} {G : Array GenState -> Array GenState -> Prop} {n : Nat} {Pv : Nat -> Value -> Prop} {St : Nat -> Shared -> Prop}
end
section
variable {P : Program} {w : World} {A : Around} {E : Value -> Shared -> Prop} {s : Shared}
end
end L2
namespace L2
open PySem PySem.Spec PyProof.Rows
set_option maxRecDepth 100000
section
variable {P : Program} {w : World} {A : Around} {E : Value -> Shared -> Prop} {s : Shared}
end
end L2
namespace L2
open PySem PySem.Spec PyProof.Rows
set_option maxRecDepth 100000
section
variable {P : Program} {w : World} {A : Around} {E : Value -> Shared -> Prop}
end
end L2
namespace L2
open PySem PySem.Spec PyProof.Rows
set_option maxRecDepth 100000
section
variable {P : Program} {w : World} {A : Around} {E : Value -> Shared -> Prop} {s : Shared}
end
end L2
namespace L2
open PySem PySem.Spec PyProof.Rows
set_option maxRecDepth 100000
section
variable {P : Program} {w : World} {A : Around} {E : Value -> Shared -> Prop} {s : Shared} {a : Addr} {o : Obj} {ents : Array (Int × Value)} {ep : Nat} {tb : SetTable}
end
section
variable {P : Program} {w : World} {a I T : Addr} {o : Obj} {ents : Array (Int × Value)} {ep n : Nat} {tb : SetTable}
end
end L2
namespace L2
open PySem PySem.Spec PyProof.Rows
set_option maxRecDepth 100000
section
variable {P : Program} {w : World} {A : Around} {E : Value -> Shared -> Prop} {s : Shared} {a : Addr}
end
end L2
namespace L2
open PySem PySem.Spec PyProof.Rows
set_option maxRecDepth 100000
section
variable {P : Program} {w : World} {A : Around} {E : Value -> Shared -> Prop} {s : Shared} {a : Addr}
end
end L2
namespace L2
open PySem PySem.Spec PyProof.Rows
section
variable {X : Cx} {pins : List (Addr × Obj)} {σ : St} {H : Hp} {s : Shared}
end
end L2
namespace L2
open PySem PySem.Spec PyProof.Rows
section
variable {X : Cx} {e : Expr} {te : TE} {p p2 pos pos2 : Pos}
end
section
variable {c : Str -> Addr} {X : Cx} {e : Expr} {p p2 pos pos2 : Pos}
noncomputable def zh8 (f g : List Sl -> Option D) (ρ : List Sl) : Option (List D) := (f ρ).bind fun x => (g ρ).bind fun y => match x, y with
  | .lst a, .lst b => if a.length + b.length <= 16777216 then some (a ++ b) else none
  | _, _ => none
theorem ztp {f g : List Sl -> Option D} {ρ : List Sl} {ds : List D} (h : zh8 f g ρ = some ds) : ∃ a b, f ρ = some (.lst a) /\ g ρ = some (.lst b) /\ a.length + b.length <= 16777216 /\ ds = a ++ b := by
  unfold zh8 at h
  cases e1 : f ρ with
  | none => rw [e1] at h; cases h
  | some x =>
    cases e2 : g ρ with
    | none => rw [e1, e2] at h; cases h
    | some y =>
      rw [e1, e2, Option.bind_some, Option.bind_some] at h
      split at h
      · split at h
        · rename_i a b hl
          cases h
          exact ⟨a, b, rfl, rfl, hl, rfl⟩
        · cases h
      · cases h
theorem zr3 {a b : Expr} {f g : List Sl -> Option D} (ha : DE c X a f) (hb : DE c X b g) : DO c X (.BinOp a .Add b pos) (zh8 f g) := PE.imp (zkp zot ha hb) fun σ H Q q_ => by
  obtain ⟨Hf0, H0, Hf, ρ, ds, st, ef, k⟩ := q_
  obtain ⟨xs, ys, e1, e2, hl, rfl⟩ := ztp ef
  refine ⟨Hf0, H0, Hf, ρ, _, st, e1, fun v Hf1 H1 x1 r1 => ⟨Hf0, H0, Hf1, ρ, _, st.step x1, e2, fun u Hf2 H2 x2 r2 => ?_⟩⟩
  obtain ⟨l, vs, el, q1, s1⟩ := r1.up x2.f
  obtain ⟨m, us, em, q2, s2⟩ := r2
  subst el em
  have x := x1.trans x2
  exact ⟨l, m, vs, us, rfl, rfl, x2.s _ _ q1, x2.s _ _ q2, by rw [sizeLine_eq, <- s1.length, <- s2.length]; exact hl, fun p hp => k p _ Hf2 _ (x.trans (Ext.tmp x.s hp)) (x.h.free hp) (x.s.free hp) zan (s1.append s2)⟩
end
end L2
namespace L2
open PySem PySem.Spec PyProof.Rows
noncomputable def wp (F : List Sl -> Option Fl) (ρ : List Sl) (K : Fl -> Prop) : Prop := ∃ o, F ρ = some o /\ K o
noncomputable def zo3 (F : List Sl -> Option Fl) (K : Fl -> Prop) : Fl -> Prop
  | .nx ρ => wp F ρ K
  | o => K o
noncomputable def zme (J : List Sl -> Prop) (K : Fl -> Prop) : Fl -> Prop
  | .nx ρ => J ρ
  | .ct ρ => J ρ
  | .bk ρ => K (.nx ρ)
  | o => K o
noncomputable def zgd (Q : D -> Prop) (o : Fl) : Prop := ∃ d, zjr o = some d /\ Q d
theorem zaq {F F' : List Sl -> Option Fl} {ρ : List Sl} {K : Fl -> Prop} (h : wp F ρ (zo3 F' K)) : wp (zal F F') ρ K := by
  obtain ⟨o, e, k⟩ := h
  unfold wp zal
  rw [e]
  cases o with
  | nx ρ' => exact k
  | _ => exact ⟨_, rfl, k⟩
theorem zd6 {ρ : List Sl} {K : Fl -> Prop} (h : K (.nx ρ)) : wp zdy ρ K := ⟨_, rfl, h⟩
theorem zc6 {i : Nat} {f : List Sl -> Option D} {ρ : List Sl} {d : D} {K : Fl -> Prop} (h : f ρ = some d) (k : K (.nx (ρ.set i (.im d)))) : wp (zbw i f) ρ K := ⟨_, zvb h, k⟩
theorem zfk {i : Nat} {f : List Sl -> Option (List D)} {ρ : List Sl} {d : List D} {K : Fl -> Prop} (h : f ρ = some d) (k : K (.nx (ρ.set i (.own d)))) : wp (zcs i f) ρ K := ⟨_, zpp h, k⟩
theorem zk5 {f : List Sl -> Option D} {ρ : List Sl} {d : D} {K : Fl -> Prop} (h : f ρ = some d) (k : K (.rt d)) : wp (zcj f) ρ K := ⟨_, zvu h, k⟩
theorem zpq {f : List Sl -> Option (List D)} {ρ : List Sl} {d : List D} {K : Fl -> Prop} (h : f ρ = some d) (k : K (.rtO d)) : wp (zgj f) ρ K := ⟨_, by unfold zgj; rw [h]; rfl, k⟩
theorem zug {F : List Sl -> Option Fl} {ρ : List Sl} {o : Fl} {K : Fl -> Prop} (h : F ρ = some o) (k : K o) : wp F ρ K := ⟨_, h, k⟩
theorem zev {t : List Sl -> Option Bool} {F F' : List Sl -> Option Fl} {ρ : List Sl} {b : Bool} {K : Fl -> Prop} (h : t ρ = some b) (kT : b = true -> wp F ρ K) (kF : b = false -> wp F' ρ K) : wp (zc9 t F F') ρ K := by
  unfold wp zc9
  rw [h]
  cases b with
  | true => exact kT rfl
  | false => exact kF rfl
theorem zgp {i : Nat} {F : List Sl -> Option Fl} {ρ ρ' : List Sl} {K : Fl -> Prop} (e : zkx i ρ = ρ') (h : wp F ρ' K) : wp (zc8 i F) ρ K := by
  subst e
  exact h
theorem zna {i : Nat} {f : List Sl -> Option D} {ρ : List Sl} {d : D} {xs : List D} {K : Fl -> Prop} (h : f ρ = some d) (h' : ρ[i]? = some (.own xs)) (hl : xs.length < 16777216) (k : K (.nx (ρ.set i (.own (xs ++ [d]))))) : wp (zeo i f) ρ K := ⟨_, zql h h' hl, k⟩
theorem zmx {α : Type} {g : D -> List Sl -> Option (List Sl)} {F : List Sl -> Option Fl} {K : Fl -> Prop} (f : α -> D) (I : List α -> List Sl -> Prop) : ∀ (post pre : List α) (ρ : List Sl), I pre ρ ->
    (∀ pre' x post' ρ, pre ++ post = pre' ++ x :: post' -> I pre' ρ -> ∃ ρ1, g (f x) ρ = some ρ1 /\ wp F ρ1 (zme (I (pre' ++ [x])) K)) -> (∀ ρ', I (pre ++ post) ρ' -> K (.nx ρ')) -> wp (zbv g F (post.map f)) ρ K
  | [], pre, ρ, h, _, hk => ⟨_, rfl, hk ρ (by rw [List.append_nil]; exact h)⟩
  | x :: post, pre, ρ, h, hs, hk => by
    obtain ⟨ρ1, e1, o, e2, k2⟩ := hs pre x post ρ rfl h
    unfold wp
    rw [List.map_cons]
    unfold zbv
    rw [e1, Option.bind_some, e2, Option.bind_some]
    have go : ∀ ρ2, I (pre ++ [x]) ρ2 -> wp (zbv g F (post.map f)) ρ2 K := fun ρ2 h2 =>
      zmx f I post (pre ++ [x]) ρ2 h2 (by rw [List.append_assoc]; exact hs) (by rw [List.append_assoc]; exact hk)
    cases o with
    | nx ρ2 => exact go ρ2 k2
    | ct ρ2 => exact go ρ2 k2
    | bk ρ2 => exact ⟨_, rfl, k2⟩
    | rt d => exact ⟨_, rfl, k2⟩
    | rtO d => exact ⟨_, rfl, k2⟩
    | rtS d ρ2 => exact ⟨_, rfl, k2⟩
    | rtT o => exact ⟨_, rfl, k2⟩
theorem zc3 {α : Type} {fi : List Sl -> Option (List D)} {g : D -> List Sl -> Option (List Sl)} {F : List Sl -> Option Fl} {ρ : List Sl} {K : Fl -> Prop} (xs : List α) (f : α -> D) (I : List α -> List Sl -> Prop) (hi : fi ρ = some (xs.map f)) (h0 : I [] ρ)
    (hs : ∀ pre x post ρ, xs = pre ++ x :: post -> I pre ρ -> ∃ ρ1, g (f x) ρ = some ρ1 /\ wp F ρ1 (zme (I (pre ++ [x])) K)) (hk : ∀ ρ', I xs ρ' -> K (.nx ρ')) : wp (zb5 fi g F) ρ K := by
  obtain ⟨o, e, k⟩ := zmx f I xs [] ρ h0 hs hk
  refine ⟨o, ?_, k⟩
  unfold zb5
  rw [hi]
  exact e
theorem zmu {n : Nat} {F : List Sl -> Option Fl} {ds : List D} {Q : D -> Prop} (h : wp F (zcb n ds) (zgd Q)) : ∃ d, zdk n F ds = some d /\ Q d := by
  obtain ⟨o, e, d, e', q⟩ := h
  refine ⟨d, ?_, q⟩
  unfold zdk
  rw [e]
  exact e'
theorem zi3 {n : Nat} {F : List Sl -> Option Fl} {ds : List D} {r : D} (h : wp F (zcb n ds) (zgd fun d => d = r)) : zdk n F ds = some r := by
  obtain ⟨d, e, q⟩ := zmu h
  rw [e, q]
theorem ziy {Q : D -> Prop} {d : D} (h : Q d) : zgd Q (.rt d) := ⟨d, rfl, h⟩
theorem zq3 {Q : D -> Prop} {d : List D} (h : Q (.lst d)) : zgd Q (.rtO d) := ⟨.lst d, rfl, h⟩
theorem zkr {m : List D -> Option D} {f : List Sl -> Option (List D)} {ρ : List Sl} {ds : List D} {d : D} (h : f ρ = some ds) (h' : m ds = some d) (hs : d.scalar = true) : zei m f ρ = some d := by
  unfold zei
  rw [h, Option.bind_some, h', Option.bind_some, if_pos hs]
theorem zf3 {i j : Int} (h : 0 < j) : zeu (.int i) (.int j) = some (.int (i % j)) := zfb h
theorem zoy {i j : Int} (h : zfu i j) : zkl (.int i) (.int j) = some (.int (i / j)) := zfb h
theorem zt1 {i j : Int} (h : zd9 i j) : zrq (.int i) (.int j) = some (.int (i * j)) := zfb h
theorem zie {i j : Int} (h : zgb i j) : zgv (.int i) (.int j) = some (.int (i ^ j.toNat)) := zfb h
theorem zxa {i j : Int} (h : 0 <= j) : zw2 (.int i) (.int j) = some (.int (i / 2 ^ j.toNat)) := zfb h
theorem zd4 {i j : Int} : zbj (.int i) (.int j) = some (.int (i + j)) := rfl
theorem zhy {i j : Int} : zep (.int i) (.int j) = some (.int (i - j)) := rfl
theorem zu8 {i j : Int} : zw1 (.int i) (.int j) = some (.int (Builtin.bitAnd i j)) := rfl
theorem ztk {i j : Int} : dLt (.int i) (.int j) = some (.bl (decide (i < j))) := rfl
theorem zuk {i j : Int} : dLe (.int i) (.int j) = some (.bl (decide (i <= j))) := rfl
theorem ztq {i j : Int} : dGt (.int i) (.int j) = some (.bl (decide (j < i))) := rfl
theorem zwt {i j : Int} : dGe (.int i) (.int j) = some (.bl (decide (j <= i))) := rfl
theorem zni {α : Type} (xs : List α) (f : α -> D) : za3 [.lst (xs.map f)] = some (.int xs.length) := by
  show some (D.int ((xs.map f).length : Int)) = _
  rw [List.length_map]
theorem zqf {α : Type} (xs : List α) (f : α -> D) : za3 [.kl (xs.map f)] = some (.int xs.length) := by
  show some (D.int ((xs.map f).length : Int)) = _
  rw [List.length_map]
theorem zmv {α : Type} (f : α -> D) (xs : List α) (lo hi : Option Int) : zgl (xs.map f) lo hi = ((xs.drop (HT.sIx xs.length 0 lo)).take (HT.sIx xs.length xs.length hi - HT.sIx xs.length 0 lo)).map f := by
  unfold zgl
  rw [List.length_map, List.map_take, List.map_drop]
theorem zq4 {α : Type} {f : List Sl -> Option D} {l h : List Sl -> Option (Option Int)} {ρ : List Sl} {g : α -> D} {xs : List α} {lo hi : Option Int} (e : f ρ = some (.lst (xs.map g))) (e1 : l ρ = some lo) (e2 : h ρ = some hi) : mSl f l h ρ = some (((xs.drop (HT.sIx xs.length 0 lo)).take (HT.sIx xs.length xs.length hi - HT.sIx xs.length 0 lo)).map g) := by
  unfold mSl
  rw [e, Option.bind_some]
  show (l ρ).bind (fun lo => (h ρ).map fun hi => zgl (xs.map g) lo hi) = _
  rw [e1, Option.bind_some, e2, <- zmv]
  rfl
theorem zvr {α : Type} {f : List Sl -> Option D} {l h : List Sl -> Option (Option Int)} {ρ : List Sl} {g : α -> D} {xs : List α} {lo hi : Option Int} (e : f ρ = some (.kl (xs.map g))) (e1 : l ρ = some lo) (e2 : h ρ = some hi) : mSl f l h ρ = some (((xs.drop (HT.sIx xs.length 0 lo)).take (HT.sIx xs.length xs.length hi - HT.sIx xs.length 0 lo)).map g) := by
  unfold mSl
  rw [e, Option.bind_some]
  show (l ρ).bind (fun lo => (h ρ).map fun hi => zgl (xs.map g) lo hi) = _
  rw [e1, Option.bind_some, e2, <- zmv]
  rfl
theorem zwf {α : Type} (xs : List α) (f : α -> D) : dEq (.lst (xs.map f)) (.lst []) = some (.bl xs.isEmpty) := by cases xs <;> rfl
theorem zrc {α : Type} (xs : List α) (f : α -> D) : dNe (.lst (xs.map f)) (.lst []) = some (.bl (!xs.isEmpty)) := by cases xs <;> rfl
theorem zuy {α : Type} (g : α -> D) (d : α) : ∀ (xs : List α), zeg 0 (xs.map g) = (List.range xs.length).map fun i => D.tup [.int (i : Nat), g (xs.getD i d)] := fun xs => by
  refine List.ext_getElem? fun i => ?_
  rw [zjp, List.getElem?_map, List.getElem?_map]
  by_cases h : i < xs.length
  · rw [List.getElem?_eq_getElem h, List.getElem?_range h, Nat.zero_add]
    simp [h]
  · rw [List.getElem?_eq_none (by omega), List.getElem?_eq_none (by rw [List.length_range]; omega)]
    rfl
theorem zo8 {α : Type} {f : List Sl -> Option (List D)} {ρ : List Sl} {g : α -> D} {xs : List α} (d : α) (e : f ρ = some [.lst (xs.map g)]) : zg0 f ρ = some ((List.range xs.length).map fun i => D.tup [.int (i : Nat), g (xs.getD i d)]) := by
  unfold zg0
  rw [e, <- zuy]
  rfl
noncomputable def kJ (J : List Sl -> Prop) (o : Fl) : Prop := ∃ ρ', o = .nx ρ' /\ J ρ'
theorem k_J {J : List Sl -> Prop} {ρ : List Sl} (h : J ρ) : kJ J (.nx ρ) := ⟨ρ, rfl, h⟩
theorem zrt {S F : List Sl -> Option Fl} {ρ : List Sl} {K : Fl -> Prop} (J : List Sl -> Prop) (h : wp S ρ (kJ J)) (k : ∀ ρ', J ρ' -> wp F ρ' K) : wp (zal S F) ρ K := by
  apply zaq
  obtain ⟨o, e, ρ', rfl, j⟩ := h
  exact ⟨_, e, k ρ' j⟩
theorem zpx {i : Nat} {ρ : List Sl} {d : D} {K : Fl -> Prop} (h : ρ[i]? = some (.im d)) (k : K (.rt d)) : wp (ze8 i) ρ K := ⟨_, by unfold ze8; rw [h], k⟩
end L2
namespace L2
open PySem PySem.Spec PyProof.Rows
theorem zaa.sc {G : Gc} {H H' : Hp} : ∀ {ds : List D} {vs : List V}, ds.all D.scalar = true -> zaa G H ds vs -> zaa G H' ds vs
  | [], _, _, h => h
  | d :: ds, _, hs, ⟨v, r, e, h1, h2⟩ => by
    rw [List.all_cons, Bool.and_eq_true] at hs
    exact ⟨v, r, e, h1.sc hs.1, zaa.sc hs.2 h2⟩
section
variable {c : Str -> Addr} {X : Cx} {e : Expr} {es : List Expr} {x : Str} {p pos : Pos} {k : Nat} {f : Addr} {fd : FuncData} {ps : List Str} {fa : List Sl -> Option (List D)}
end
end L2
namespace L2
open PySem PySem.Spec PyProof.Rows
theorem zmd {k : Int} {n : Nat} (h : k.natAbs < 2 ^ n) : Builtin.Int.intBits k <= n := by
  unfold Builtin.Int.intBits
  split
  · exact Nat.zero_le _
  · rename_i hk
    have : k.natAbs ≠ 0 := fun z => hk (by rw [Int.natAbs_eq_zero.mp z]; rfl)
    exact (Nat.log2_lt this).mpr h
noncomputable def zdm (i j : Int) : Prop := zd9 i j \/ (i.natAbs < 2 ^ 200 /\ j.natAbs < 2 ^ 200)
theorem zdm.ok {i j : Int} (h : zdm i j) : IntMulOk i j := by
  rcases h with h | ⟨h1, h2⟩
  · exact h.ok
  · have a := zmd h1
    have b := zmd h2
    unfold IntMulOk
    have : Builtin.Int.intTooBig (Builtin.Int.intBits i + Builtin.Int.intBits j) = false := by
      unfold Builtin.Int.intTooBig
      have c : (400 : Int) <= bitsLine := by decide
      exact decide_eq_false (by omega)
    rw [this, Bool.and_false]
    exact Bool.false_ne_true
noncomputable instance {i j : Int} : Decidable (zdm i j) := by unfold zdm; infer_instance
noncomputable abbrev zgn : D -> D -> Option D := dI zdm fun i j => .int (i * j)
section
variable {c : Str -> Addr} {X : Cx}
theorem zv4 : OpR X (binaryOp .Mult) (rI zdm fun i j => .int (i * j)) := opI fun _ _ _ _ _ _ _ hc q => mul_int q hc.ok
theorem zju : OpD c X (binaryOp .Mult) zgn := zhk zv4 fun _ _ _ _ => rfl
end
theorem zg7 {i j : Int} (h : zdm i j) : zgn (.int i) (.int j) = some (.int (i * j)) := zfb h
end L2
namespace L2
open PySem PySem.Spec PyProof.Rows
noncomputable def zge (g : D -> List Sl -> Option (List Sl)) (f : List Sl -> Option D) (ρ : List Sl) : Option Fl := (f ρ).bind fun d => (g d ρ).map .nx
section
variable {c : Str -> Addr} {X : Cx} {e tg : Expr} {pos : Pos}
theorem zul {k : Nat} {g : D -> List Sl -> Option (List Sl)} {f : List Sl -> Option D} (he : DE c X e f) (hg : DG c X tg k g) (hs : swapsWithSole [tg] e pos.line X.env = pure false := by rfl) (hw : swappedStores [tg] e X.env = pure none := by rfl)
    (h1 : (assignEach [tg] X.env).map (·.2) = [assign tg X.env] := by rfl) : DS c X (.Assign [tg] e pos) (zge g f) := PS.imp (zlp he hg.pg hs hw h1) fun E σ H q_ => by
  obtain ⟨Hf0, H0, Hf, ρ, o, so, ef, kq⟩ := q_
  unfold zge at ef
  cases e1 : f ρ with
  | none => rw [e1] at ef; cases ef
  | some d =>
    rw [e1, Option.bind_some] at ef
    cases e2 : g d ρ with
    | none => rw [e2] at ef; cases ef
    | some ρ' =>
      rw [e2] at ef
      cases ef
      exact ⟨Hf0, H0, Hf, ρ, d, so, e1, fun v Hf' H' x r => ⟨Hf0, H0, Hf', ρ, d, ρ', so.step x, r, e2, fun σ' so' => kq σ' Hf' H' x.f so'⟩⟩
end
theorem zwx {g : D -> List Sl -> Option (List Sl)} {f : List Sl -> Option D} {ρ ρ' : List Sl} {d : D} {K : Fl -> Prop} (h : f ρ = some d) (h' : g d ρ = some ρ') (k : K (.nx ρ')) : wp (zge g f) ρ K := ⟨_, by unfold zge; rw [h, Option.bind_some, h']; rfl, k⟩
end L2
namespace L2
open PySem PySem.Spec PyProof.Rows
noncomputable def zcv (H : Hp) (l : Addr) : Hp := fun a => if a = l then none else H a
theorem zkf {H : Hp} {l : Addr} : zcv H l l = none := by unfold zcv; rw [if_pos rfl]
theorem zkn {H : Hp} {l a : Addr} (h : a ≠ l) : zcv H l a = H a := by unfold zcv; rw [if_neg h]
theorem zw8 {H : Hp} {l : Addr} : zac (zcv H l) H := fun a o e => by
  by_cases h : a = l
  · subst h; rw [zkf] at e; cases e
  · rw [zkn h] at e; exact e
theorem zm7 {F H : Hp} {l : Addr} (s : zac F H) (h : F l = none) : zac F (zcv H l) := fun a o e => by
  rw [zkn (zbh e h)]; exact s a o e
section
variable {P : Program} {w : World} {K : PySem.W.Frag} {mg : Str -> Option Value} {base : Heap} {c : Str -> Addr}
end
noncomputable def tDX (G : Gc) (f : List Sl -> Option (D × List Sl)) : TE := fun σ H Q => ∃ Hf0 H0 Hf ρ d ρ', zab G Hf0 H0 Hf H σ ρ /\ f ρ = some (d, ρ') /\ ∀ v Hf' H', zac Hf Hf' -> zab G Hf0 H0 Hf' H' σ ρ' -> Rep G Hf' d v -> Q v H'
noncomputable def DX (c : Str -> Addr) (X : Cx) (e : Expr) (f : List Sl -> Option (D × List Sl)) : Prop := PE X e (tDX (Gx c X) f)
noncomputable def zum (G : Gc) (f : List Sl -> Option (List D × List Sl)) : TI := fun σ H R => ∃ Hf0 H0 Hf ρ ds ρ', zab G Hf0 H0 Hf H σ ρ /\ f ρ = some (ds, ρ') /\ ∀ J Hf' H', zac Hf Hf' -> zab G Hf0 H0 Hf' H' σ ρ' -> zd1 G Hf' J ds -> R J H'
noncomputable def DXi (c : Str -> Addr) (X : Cx) (tg iter : Expr) (f : List Sl -> Option (List D × List Sl)) : Prop := PI X tg iter (zum (Gx c X) f)
noncomputable def ze0 (fi : List Sl -> Option (List D × List Sl)) (g : D -> List Sl -> Option (List Sl)) (F : List Sl -> Option Fl) (ρ : List Sl) : Option Fl := (fi ρ).bind fun p => zbv g F p.1 p.2
section
variable {c : Str -> Addr} {X : Cx} {k : Nat} {f C : Addr} {fd : FuncData} {ps : List Str} {x : Str} {p pos apos : Pos} {e o tg iter : Expr} {es : List Expr} {fa ga : List Sl -> Option (List D)} {i : Nat}
theorem zml {fi : List Sl -> Option (List D × List Sl)} {g : D -> List Sl -> Option (List Sl)} {F : List Sl -> Option Fl} {a : List Stmt} {kk : Nat} (hp : PassesOwn (model X.prog X.w) X.A X.env X.xe) (hc : X.calm = true) (hi : DXi c X tg iter fi) (hg : DG c X tg kk g) (hb : DSs c X a F) (hs : ∀ x, foldedSetIterable iter X.env x = pure x := by intro _; rfl) :
    DS c X (.For tg iter a [] pos) (ze0 fi g F) := PS.imp (zob hp hc hi hg.pg hb hs) fun E σ H q_ => by
  obtain ⟨Hf0, H0, Hf, ρ, o, so, ef, k⟩ := q_
  unfold ze0 at ef
  cases e1 : fi ρ with
  | none => rw [e1] at ef; cases ef
  | some pp =>
    obtain ⟨ds, ρn⟩ := pp
    rw [e1] at ef
    replace ef : zbv g F ds ρn = some o := ef
    refine ⟨Hf0, H0, Hf, ρ, ds, ρn, so, e1, fun J Hf1 H1 f1 so1 it => ?_⟩
    refine ⟨fun i m σ' H' => m = ds.length - i /\ i <= ds.length /\ ∃ Hf' ρ', zab (Gx c X) Hf0 H0 Hf' H' σ' ρ' /\ zac Hf1 Hf' /\ zbv g F (ds.drop i) ρ' = some o, ⟨ds.length, rfl, Nat.zero_le _, Hf1, ρn, so1, zac.refl _, ef⟩, ?_⟩
    rintro i m σ' H' ⟨rfl, hi', Hf', ρ', so', s1, em⟩
    obtain ⟨it1, it2⟩ := it Hf' H' s1 so'.sub i
    by_cases hlt : i < ds.length
    · obtain ⟨d, ed, edr⟩ := zg8 hlt
      obtain ⟨go, yl⟩ := it1 d ed
      rw [edr] at em
      unfold zbv at em
      refine .inr ⟨go, fun σ2 H2 => ds.length - (i + 1) = ds.length - (i + 1) /\ i + 1 <= ds.length /\ ∃ Hf' ρ', zab (Gx c X) Hf0 H0 Hf' H2 σ2 ρ' /\ zac Hf1 Hf' /\ zbv g F (ds.drop (i + 1)) ρ' = some o, fun σ2 H2 w => ⟨ds.length - (i + 1), by omega, w⟩, fun x H2 y => ?_⟩
      obtain ⟨Hf2, x2, rx⟩ := yl x H2 y
      cases eg : g d ρ' with
      | none => rw [eg] at em; cases em
      | some ρ1 =>
        rw [eg] at em
        replace em : (F ρ1).bind _ = _ := em
        cases eF : F ρ1 with
        | none => rw [eF] at em; cases em
        | some o1 =>
          rw [eF] at em
          refine ⟨Hf0, H0, Hf2, ρ', d, ρ1, so'.step x2, rx, eg, fun σ3 so3 => ⟨Hf0, H0, Hf2, ρ1, o1, so3, eF, ?_⟩⟩
          have sf := s1.trans x2.f
          cases o1 with
          | nx ρ2 => exact fun σ4 Hf4 H4 s4 so4 => ⟨rfl, hlt, Hf4, ρ2, so4, sf.trans s4, em⟩
          | ct ρ2 => exact fun σ4 Hf4 H4 s4 so4 => ⟨rfl, hlt, Hf4, ρ2, so4, sf.trans s4, em⟩
          | bk ρ2 => cases em; exact fun σ4 Hf4 H4 s4 so4 => k σ4 Hf4 H4 ((f1.trans sf).trans s4) so4
          | rt d => cases em; exact k
          | rtO d => cases em; exact k
          | rtS d ρ2 => cases em; exact k
          | rtT o' => cases em; exact k
    · have ei : i = ds.length := by omega
      subst ei
      rw [List.drop_eq_nil_of_le (Nat.le_refl _)] at em
      cases em
      exact .inl ⟨it2 rfl, k σ' Hf' H' (f1.trans s1) so'⟩
end
theorem zov {fi : List Sl -> Option (List D × List Sl)} {g : D -> List Sl -> Option (List Sl)} {F : List Sl -> Option Fl} {ρ ρ' : List Sl} {ds : List D} {K : Fl -> Prop} (h : fi ρ = some (ds, ρ')) (k : wp (zb5 (fun _ => some ds) g F) ρ' K) : wp (ze0 fi g F) ρ K := by
  obtain ⟨o, e, q⟩ := k
  exact ⟨o, by unfold ze0; rw [h]; exact e, q⟩
end L2
namespace L2
open PySem PySem.Spec PyProof.Rows
noncomputable def spM (G : Gc) (n0 n : Nat) (m : Addr -> List D -> List D -> List D -> Option (List D × D)) : Sp := fun vs H Q _ => ∃ Hf ds0 ds1 xs ys d l us vs0 vs1, vs = vs0 ++ .ref l :: vs1 /\ zac Hf H /\ Hf l = none /\ H l = some (.lst us) /\ zaa G Hf ds0 vs0 /\ zaa G Hf ds1 vs1 /\ zaa G Hf xs us /\ ds0.length = n0 /\ ds0.length + 1 + ds1.length = n /\ m l ds0 ds1 xs = some (ys, d) /\
  ∀ v Hf' H' us', Ext Hf (zcv H l) Hf' H' -> Hf' l = none -> H' l = some (.lst us') -> zaa G Hf' ys us' -> Rep G Hf' d v -> Q v H'
noncomputable def zic (N : Nat) (l : Addr) (ds0 ds1 xs : List D) : List Sl := (zcb N (ds0 ++ .non :: ds1)).set ds0.length (.pin l xs)
open Classical in
noncomputable def zcm (l : Addr) (i : Nat) (ρ : List Sl) : Option (List D) := match ρ[i]? with
  | some (.pin l' ys) => if l' = l then some ys else none
  | _ => none
theorem znj {l : Addr} {i : Nat} {ρ : List Sl} {ys : List D} (h : zcm l i ρ = some ys) : ρ[i]? = some (.pin l ys) := by
  unfold zcm at h
  split at h
  · rename_i l' zs e
    split at h
    · rename_i q
      cases h
      rw [e, q]
    · cases h
  · cases h
noncomputable def zd5 (N : Nat) (F : List Sl -> Option Fl) (l : Addr) (ds0 ds1 xs : List D) : Option (List D × D) := (F (zic N l ds0 ds1 xs)).bind fun o => match o with
  | .nx ρ => (zcm l ds0.length ρ).map fun ys => (ys, .non)
  | .rtS d ρ => (zcm l ds0.length ρ).map fun ys => (ys, d)
  | _ => none
theorem ztu {N : List Str} {vs0 vs1 : List V} {l : Addr} : (L2.start N (vs0 ++ .non :: vs1)).set vs0.length (some (.ref l)) = L2.start N (vs0 ++ .ref l :: vs1) := by
  unfold L2.start
  simp [List.set_append, List.length_append]
theorem zab.startM {G : Gc} {Hf H : Hp} {N : List Str} {ds0 ds1 xs : List D} {vs0 vs1 us : List V} {l : Addr} (s0 : zac Hf H) (hf : Hf l = none) (hl : H l = some (.lst us)) (r0 : zaa G Hf ds0 vs0) (r1 : zaa G Hf ds1 vs1) (rx : zaa G Hf xs us) :
    zab G Hf (zcv H l) Hf H (L2.start N (vs0 ++ .ref l :: vs1)) (zic N.length l ds0 ds1 xs) := by
  have st0 := zab.start (N := N) (zm7 s0 hf) (r0.append (.cons (d := .non) (v := .non) rfl r1))
  have := st0.setOwn (i := ds0.length) (l := l) (s := .pin l xs) rfl (Ext.grow (zm7 s0 hf) zw8) zkf hf ⟨rfl, us, hl, rx⟩
  rw [r0.length, ztu, <- r0.length] at this
  exact this
section
variable {P : Program} {w : World} {K : PySem.W.Frag} {mg : Str -> Option Value} {base : Heap} {c : Str -> Addr}
theorem zk0 {x qual : Str} {st : Stmt} {f : Addr} {fd : FuncData} {N ps : List Str} {k n0 : Nat} {F : List Sl -> Option Fl} (Fn : Fun K x qual st f fd) (S : zb3 N ps (zas st))
    (h : ∀ (cdv : Value) (A : Around) (outer : List Env) (s : Shared) (H : Hp) (E : XK), zat k (A.deeper (envOfC qual (zas st) s.heap.objs.size f cdv)) -> DSs c (zdd CX0 P w K mg base N qual (zas st) f cdv A outer s H E).nox (zbn st) F) :
    zax P w K mg base CX0 (k + 1) f fd ps (spM ⟨K, c⟩ n0 ps.length (zd5 N.length F)) := by
  refine Fn.ok S (fun vs H Q E ⟨Hf, ds0, ds1, xs, ys, d, l, us, vs0, vs1, ev, s0, hf, hu, r0, r1, rx, hn, hl, _⟩ => by rw [ev, List.length_append, List.length_cons, <- r0.length, <- r1.length]; omega) fun cdv A outer s H vs Q E hr ⟨Hf, ds0, ds1, xs, ys, d, l, us, vs0, vs1, ev, s0, hf, hu, r0, r1, rx, hn, hl, e, kq⟩ => ⟨_, h cdv A outer s H E hr, ?_⟩
  subst ev
  unfold zd5 at e
  cases eF : F (zic N.length l ds0 ds1 xs) with
  | none => rw [eF] at e; cases e
  | some o =>
    rw [eF, Option.bind_some] at e
    refine ⟨Hf, zcv H l, Hf, _, o, zab.startM s0 hf hu r0 r1 rx, eF, ?_⟩
    cases o with
    | nx ρ =>
      replace e : (zcm l ds0.length ρ).map (fun ys => (ys, D.non)) = some (ys, d) := e
      cases ep : zcm l ds0.length ρ with
      | none => rw [ep] at e; cases e
      | some zs =>
        rw [ep] at e
        cases e
        intro σ' Hf' H' _ so
        obtain ⟨l', e1, h0, hf', e2, us', hu', rx'⟩ := so.ownAt (s := .pin l ys) rfl (znj ep)
        subst e2
        exact kq .non Hf' H' us' so.ext hf' hu' rx' rfl
    | rtS d' ρ =>
      replace e : (zcm l ds0.length ρ).map (fun ys => (ys, d')) = some (ys, d) := e
      cases ep : zcm l ds0.length ρ with
      | none => rw [ep] at e; cases e
      | some zs =>
        rw [ep] at e
        cases e
        intro v σ' Hf' H' so r
        obtain ⟨l', e1, h0, hf', e2, us', hu', rx'⟩ := so.ownAt (s := .pin l ys) rfl (znj ep)
        subst e2
        exact kq v Hf' H' us' so.ext hf' hu' rx' r
    | _ => cases e
end
theorem zab.giveS {G : Gc} {Hf0 H0 Hf H : Hp} {σ : St} {ρ : List Sl} {i : Nat} {l : Addr} {s : Sl} (hs : s.isOwn = true) (h : zab G Hf0 H0 Hf H σ ρ) (e : ρ[i]? = some s) (el : σ[i]? = some (some (.ref l))) : zab G Hf0 H0 Hf (zcv H l) σ (ρ.set i .no) := by
  refine h.chg e el (fun b u hb => ?_) trivial fun a p => (p.calm rfl).elim
  by_cases hl : b = l
  · subst hl; exact .inl ((Holds.own hs).mpr rfl)
  · exact .inr (by rw [zkn hl]; exact hb)
theorem zab.back {G : Gc} {Hf0 H0 Hf H Hf' H' : Hp} {σ : St} {ρ : List Sl} {i : Nat} {l : Addr} {s s' : Sl} (hs : s.isOwn = true) (hs' : s'.isOwn = true) (h : zab G Hf0 H0 Hf H σ ρ) (e : ρ[i]? = some s) (el : σ[i]? = some (some (.ref l))) (x : Ext Hf (zcv H l) Hf' H') (hf : Hf' l = none) (ho : zb0 G Hf' H' l s') : zab G Hf0 H0 Hf' H' σ (ρ.set i s') := by
  have := (h.giveS hs e el).setOwn (i := i) (l := l) hs' x zkf hf ho
  rw [List.set_set] at this
  have e2 : σ.set i (some (.ref l)) = σ := by
    apply List.ext_getElem?
    intro j
    by_cases hj : i = j
    · subst hj
      rw [List.getElem?_set_self (List.getElem?_eq_some_iff.mp el).1, el]
    · rw [List.getElem?_set_ne hj]
  rw [e2] at this
  exact this
section
variable {c : Str -> Addr} {X : Cx} {k n0 : Nat} {f : Addr} {fd : FuncData} {ps : List Str} {x : Str} {p pos pos' : Pos} {e : Expr} {es : List Expr} {fa : List Sl -> Option (List D × List D)} {i : Nat}
open Classical in
noncomputable def zh4 (i : Nat) (ρ : List Sl) : Option (List D) := match ρ[i]? with
  | some (.pin _ xs) => some xs
  | _ => none
theorem zm4 (i : Nat) {x : Str} (hN : X.N[i]? = some x := by rfl) (hv : Vis X.env.scope x := by first | exact Or.inl rfl | exact Or.inr (Or.inl rfl) | exact Or.inr (Or.inr rfl)) (hd : (x == ("__debug__" : Str)) = false := by decide)
    (hcd : (x == ("__classdict__" : Str)) = false := by decide) : DC c X (.Name x pos) (zh4 i) := PE.imp (zc4 hN hv hd hcd) fun σ H Q q_ => by
  obtain ⟨Hf0, H0, Hf, ρ, d, st, ef, k⟩ := q_
  unfold zh4 at ef
  split at ef
  · rename_i l xs es
    cases ef
    obtain ⟨l', e1, _, _, _, vs, q, r⟩ := st.ownAt (s := .pin l d) rfl es
    exact ⟨_, e1, k l' vs Hf H (Ext.refl st.sub) (.inl (SqL.of q)) r⟩
  · cases ef
end
theorem zk7 {f : List Sl -> Option D} {ρ : List Sl} {d : D} {K : Fl -> Prop} (h : f ρ = some d) (k : K (.rtS d ρ)) : wp (zea f) ρ K := ⟨_, by unfold zea; rw [h]; rfl, k⟩
theorem zt2 {l : Addr} {i : Nat} {ρ : List Sl} {ys : List D} (h : ρ[i]? = some (.pin l ys)) : zcm l i ρ = some ys := by
  unfold zcm
  rw [h]
  exact if_pos rfl
theorem zi7 {N : Nat} {F : List Sl -> Option Fl} {l : Addr} {ds0 ds1 xs ys : List D} {d : D} {ρ : List Sl} (h : F (zic N l ds0 ds1 xs) = some (.rtS d ρ)) (h' : ρ[ds0.length]? = some (.pin l ys)) : zd5 N F l ds0 ds1 xs = some (ys, d) := by
  unfold zd5
  rw [h, Option.bind_some]
  show (zcm l ds0.length ρ).map _ = _
  rw [zt2 h']
  rfl
end L2
namespace L2
open PySem PySem.Spec PyProof.Rows
noncomputable def Fre (B Hf : Hp) (fp : List Addr) : Prop := fp.Nodup /\ ∀ a ∈ fp, B a = none /\ Hf a = none
theorem Fre.nil {B Hf : Hp} : Fre B Hf [] := ⟨.nil, fun _ h => nomatch h⟩
theorem Fre.one {B Hf : Hp} {l : Addr} (h : B l = none) (h' : Hf l = none) : Fre B Hf [l] := ⟨List.nodup_cons.mpr ⟨List.not_mem_nil, List.nodup_nil⟩, fun a ha => by rw [List.mem_singleton.mp ha]; exact ⟨h, h'⟩⟩
theorem Fre.imp {B B' Hf : Hp} {fp : List Addr} (h : Fre B Hf fp) (k : ∀ a, B a = none -> B' a = none) : Fre B' Hf fp := ⟨h.1, fun a ha => ⟨k a (h.2 a ha).1, (h.2 a ha).2⟩⟩
noncomputable def bsH (b : Bool) (H0 H : Hp) : Hp := bif b then H else H0
theorem zfv {b : Bool} {H0 H : Hp} (s : zac H0 H) {a : Addr} (h : H a = none) : bsH b H0 H a = none := by
  cases b with
  | true => exact h
  | false => exact s.free h
noncomputable def tDZ (G : Gc) (b : Bool) (f : List Sl -> Option O) : TE := fun σ H Q => ∃ Hf0 H0 Hf ρ o, zab G Hf0 H0 Hf H σ ρ /\ f ρ = some o /\ ∀ u fp Hf' H', Ext Hf H Hf' H' -> OT G Hf' H' o u fp -> Fre (bsH b H0 H) Hf' fp -> Q u H'
noncomputable def DZ (c : Str -> Addr) (X : Cx) (b : Bool) (e : Expr) (f : List Sl -> Option O) : Prop := PE X e (tDZ (Gx c X) b f)
noncomputable def zdg (f : List Sl -> Option (List D)) (ρ : List Sl) : Option O := (f ρ).map fun ds => .lst (ds.map .fz)
noncomputable def zh1 (i : Nat) (ρ : List Sl) : Option O := match ρ[i]? with
  | some (.im d) => some (.fz d)
  | some (.own xs) => some (.lst (xs.map .fz))
  | some (.deep o) => some o
  | _ => none
section
variable {c : Str -> Addr} {X : Cx} {b : Bool} {e o a a' : Expr} {es : List Expr} {pos : Pos}
theorem zha {f : List Sl -> Option (List D)} (h : DO c X e f) : DZ c X b e (zdg f) := PE.imp h fun σ H Q q_ => by
  obtain ⟨Hf0, H0, Hf, ρ, t, st, ef, k⟩ := q_
  unfold zdg at ef
  cases ed : f ρ with
  | none => rw [ed] at ef; cases ef
  | some ds =>
    rw [ed] at ef
    cases ef
    exact ⟨Hf0, H0, Hf, ρ, ds, st, ed, fun l vs Hf' H' x hn hf hl r => k _ [l] Hf' H' x ⟨l, vs, [], rfl, hl, OTs.fz r, rfl⟩ (.one (zfv st.ext.h hn) hf)⟩
theorem zws {i : Nat} (h : PE X e (zbt i)) : DZ c X false e (zh1 i) := PE.imp h fun σ H Q q_ => by
  obtain ⟨Hf0, H0, Hf, ρ, t, st, ef, k⟩ := q_
  unfold zh1 at ef
  cases es : ρ[i]? with
  | none => rw [es] at ef; cases ef
  | some s =>
    rw [es] at ef
    cases s with
    | im d =>
      cases ef
      obtain ⟨v, e1, r⟩ := st.imm es
      exact ⟨_, e1, k v [] Hf H (Ext.refl st.sub) ⟨r, rfl⟩ .nil⟩
    | own xs =>
      cases ef
      obtain ⟨l, e1, h0, hf, vs, q, r⟩ := st.ownAt rfl es
      exact ⟨_, e1, k _ [l] Hf H (Ext.refl st.sub) ⟨l, vs, [], rfl, q, OTs.fz r, rfl⟩ (.one h0 hf)⟩
    | deep o =>
      cases ef
      obtain ⟨v, e1, u, fp, e2, r, n, z⟩ := st.slot es
      subst e2
      exact ⟨_, e1, k u fp Hf H (Ext.refl st.sub) r ⟨n, z⟩⟩
    | _ => cases ef
theorem zs1 (i : Nat) {x : Str} (hN : X.N[i]? = some x := by rfl) (hv : Vis X.env.scope x := by first | exact Or.inl rfl | exact Or.inr (Or.inl rfl) | exact Or.inr (Or.inr rfl)) (hd : (x == ("__debug__" : Str)) = false := by decide)
    (hcd : (x == ("__classdict__" : Str)) = false := by decide) : DZ c X false (.Name x pos) (zh1 i) := zws (zc4 hN hv hd hcd)
noncomputable def zB (f : List Sl -> Option O) (ρ : List Sl) : Option D := (f ρ).bind fun o => if o.kn then some o.toD else none
theorem DZ.db {f : List Sl -> Option O} (h : DZ c X true e f) : DB c X e (zB f) := PE.imp h fun σ H Q q_ => by
  obtain ⟨Hf0, H0, Hf, ρ, d, st, ef, k⟩ := q_
  unfold zB at ef
  cases ed : f ρ with
  | none => rw [ed] at ef; cases ef
  | some o =>
    rw [ed, Option.bind_some] at ef
    split at ef
    · rename_i hk
      cases ef
      exact ⟨Hf0, H0, Hf, ρ, o, st, ed, fun u fp Hf' H' x r _ => k u Hf' H' x (r.rep x.s hk)⟩
    · cases ef
end
noncomputable def zj1 : Fl -> Option O
  | .rt d => some (.fz d)
  | .rtO ds => some (.lst (ds.map .fz))
  | .rtT o => some o
  | _ => none
noncomputable def zff (n : Nat) (F : List Sl -> Option Fl) (ds : List D) : Option O := (F (zcb n ds)).bind zj1
noncomputable def spT (G : Gc) (n : Nat) (m : List D -> Option O) : Sp := fun vs H Q _ => ∃ Hf ds o, zac Hf H /\ zaa G Hf ds vs /\ ds.length = n /\ m ds = some o /\ ∀ u fp Hf' H', Ext Hf H Hf' H' -> OT G Hf' H' o u fp -> Fre H Hf' fp -> Q u H'
section
variable {P : Program} {w : World} {K : PySem.W.Frag} {mg : Str -> Option Value} {base : Heap} {c : Str -> Addr}
theorem zs6 {x qual : Str} {st : Stmt} {f : Addr} {fd : FuncData} {N ps : List Str} {k : Nat} {F : List Sl -> Option Fl} (Fn : Fun K x qual st f fd) (S : zb3 N ps (zas st))
    (h : ∀ (cdv : Value) (A : Around) (outer : List Env) (s : Shared) (H : Hp) (E : XK), zat k (A.deeper (envOfC qual (zas st) s.heap.objs.size f cdv)) -> DSs c (zdd CX0 P w K mg base N qual (zas st) f cdv A outer s H E).nox (zbn st) F) :
    zax P w K mg base CX0 (k + 1) f fd ps (spT ⟨K, c⟩ ps.length (zff N.length F)) := by
  refine Fn.ok S (fun vs H Q E ⟨Hf, ds, d, s0, r, hl, _⟩ => by rw [<- r.length]; exact hl) fun cdv A outer s H vs Q E hr ⟨Hf, ds, t, s0, r, hl, e, kq⟩ => ⟨_, h cdv A outer s H E hr, ?_⟩
  unfold zff at e
  cases eF : F (zcb N.length ds) with
  | none => rw [eF] at e; cases e
  | some o =>
    rw [eF] at e
    replace e : zj1 o = some t := e
    refine ⟨Hf, H, Hf, _, o, zab.start s0 r, eF, ?_⟩
    cases o with
    | rt d => cases e; exact fun v Hf' H' x r => kq v [] Hf' H' x ⟨r, rfl⟩ .nil
    | rtO rs => cases e; exact fun l vs Hf' H' x hn hf hl r => kq _ [l] Hf' H' x ⟨l, vs, [], rfl, hl, OTs.fz r, rfl⟩ (.one hn hf)
    | rtT o => cases e; exact fun u fp Hf' H' x r n z => kq u fp Hf' H' x r ⟨n, z⟩
    | _ => cases e
end
section
variable {G : Gc} {Hf Hf' H : Hp}
end
section
variable {c : Str -> Addr} {X : Cx} {b : Bool} {k : Nat} {f : Addr} {fd : FuncData} {ps : List Str} {x : Str} {p pos : Pos} {e : Expr} {es : List Expr} {fa : List Sl -> Option (List D)}
noncomputable def zeh (m : List D -> Option O) (f : List Sl -> Option (List D)) (ρ : List Sl) : Option O := (f ρ).bind m
theorem zkg {m : List D -> Option O} (F : zax X.prog X.w X.K X.mg X.base CX0 k f fd ps (spT (Gx c X) ps.length m)) (hr : zat k X.A) (hg : Gl X x) (hm : X.mg x = some (.ref f)) (hk : PySem.W.keepIn X.K (.ref f) = true) (hb : zbe X.K fd ps []) (ha : DA c X (e :: es) fa)
    (hl : (e :: es).length = ps.length := by rfl) (hdb : (x == ("__debug__" : Str)) = false := by decide) (he : starEach (e :: es) X.env = (false, eval e X.env) :: starEach es X.env := by rfl) (hpl : (backTo pos (starEach es X.env)).any (·.1) = false := by rfl) :
    DZ c X b (.Call (.Name x p) (e :: es) [] pos) (zeh m fa) := PE.imp (zg4 F hr hg hm hk hb .nil zf5 ha.pa hdb he hpl) fun σ H Q q_ => by
  obtain ⟨Hf0, H0, Hf, ρ, o, st, ef, kq⟩ := q_
  unfold zeh at ef
  cases e1 : fa ρ with
  | none => rw [e1] at ef; cases ef
  | some ds =>
    rw [e1, Option.bind_some] at ef
    refine ⟨Hf0, H0, Hf, ρ, ds, st, e1, fun vs Hf' H' x r => ?_⟩
    dsimp only
    rw [List.append_nil]
    exact ⟨Hf', ds, o, x.s, r, (ha.len ρ ds e1).trans hl, ef, fun u fp Hf2 H2 x2 r2 z => kq u fp Hf2 H2 (x.trans x2) r2 (z.imp fun a h => zfv st.ext.h (x.h.free h))⟩
end
section
variable {c : Str -> Addr} {X : Cx} {st : Stmt} {e : Expr} {pos : Pos}
noncomputable def zds (i : Nat) (f : List Sl -> Option O) (ρ : List Sl) : Option Fl := (f ρ).map fun o => .nx (ρ.set i (.deep o))
theorem zhn (i : Nat) {x : Str} {f : List Sl -> Option O} {pos' : Pos} (hN : X.N.Nodup) (he : DZ c X true e f) (hi : X.N[i]? = some x := by rfl) (hx : Loc X.env.scope x := by first | exact Or.inl rfl | exact Or.inr rfl) (hs : swapsWith e (some (.Name x pos')) pos.line X.env = pure false := by rfl) (hf : X.fn x = true \/ X.env.scope.names.lookup x = some .local := by first | exact .inl rfl | exact .inr rfl) :
    DS c X (.Assign [.Name x pos'] e pos) (zds i f) := PS.imp (zft hN hi hx he hs hf) fun E σ H q_ => by
  obtain ⟨Hf0, H0, Hf, ρ, o, so, ef, k⟩ := q_
  unfold zds at ef
  cases e1 : f ρ with
  | none => rw [e1] at ef; cases ef
  | some t =>
    rw [e1] at ef
    cases ef
    refine ⟨Hf0, H0, Hf, ρ, t, so, e1, fun u fp Hf' H' x r z => k _ Hf' H' x.f (so.setNew x ⟨u, fp, rfl, r, z.1, fun a ha => ⟨so.ext.h.free (z.2 a ha).1, (z.2 a ha).2⟩⟩ fun a p => ?_)⟩
    obtain ⟨fp', r', ha⟩ := p
    have := OT.funM t u fp fp' r r'
    subst this
    exact (z.2 a ha).1
noncomputable def zgh (f : List Sl -> Option O) (ρ : List Sl) : Option Fl := (f ρ).map .rtT
theorem ztd {f : List Sl -> Option O} (he : DZ c X false e f) : DS c X (.Return (some e) pos) (zgh f) := PS.imp (zf9 he) fun E σ H q_ => by
  obtain ⟨Hf0, H0, Hf, ρ, o, so, ef, k⟩ := q_
  unfold zgh at ef
  cases e1 : f ρ with
  | none => rw [e1] at ef; cases ef
  | some t =>
    rw [e1] at ef
    cases ef
    exact ⟨Hf0, H0, Hf, ρ, t, so, e1, fun u fp Hf' H' x r z => k u fp Hf' H' (so.ext.trans x) r z.1 z.2⟩
theorem OTs.at : ∀ {G : Gc} {Hf H : Hp} {os : List O} {vs : List V} {fp : List Addr} {k : Nat} {o : O}, OTs G Hf H os vs fp -> os[k]? = some o -> ∃ v f, vs[k]? = some v /\ OT G Hf H o v f /\ ∀ a ∈ f, a ∈ fp
  | _, _, _, [], _, _, _, _, _, e => by simp at e
  | _, _, _, o :: os, _, _, 0, o', ⟨v, r, f1, f2, e, h1, h2, ef⟩, e' => by
    rw [List.getElem?_cons_zero] at e'
    cases e'
    subst e ef
    exact ⟨v, f1, rfl, h1, fun a ha => List.mem_append_left _ ha⟩
  | _, _, _, o :: os, _, _, k + 1, o', ⟨v, r, f1, f2, e, h1, h2, ef⟩, e' => by
    rw [List.getElem?_cons_succ] at e'
    subst e ef
    obtain ⟨v', f, a, b, m⟩ := OTs.at h2 e'
    exact ⟨v', f, by rw [List.getElem?_cons_succ]; exact a, b, fun a ha => List.mem_append_right _ (m a ha)⟩
theorem zg5 {i : Nat} {f : List Sl -> Option O} {ρ : List Sl} {o : O} {K : Fl -> Prop} (h : f ρ = some o) (k : K (.nx (ρ.set i (.deep o)))) : wp (zds i f) ρ K := ⟨_, by unfold zds; rw [h]; rfl, k⟩
theorem zrr {f : List Sl -> Option O} {ρ : List Sl} {o : O} {K : Fl -> Prop} (h : f ρ = some o) (k : K (.rtT o)) : wp (zgh f) ρ K := ⟨_, by unfold zgh; rw [h]; rfl, k⟩
noncomputable def znm (Q : O -> Prop) (o : Fl) : Prop := ∃ t, zj1 o = some t /\ Q t
theorem zqz {n : Nat} {F : List Sl -> Option Fl} {ds : List D} {Q : O -> Prop} (h : wp F (zcb n ds) (znm Q)) : ∃ o, zff n F ds = some o /\ Q o := by
  obtain ⟨o, e, d, e', q⟩ := h
  refine ⟨d, ?_, q⟩
  unfold zff
  rw [e]
  exact e'
end
end L2
namespace L2
open PySem PySem.Spec PyProof.Rows
theorem OTs.length {G : Gc} {Hf H : Hp} : ∀ {os : List O} {vs : List V} {fp : List Addr}, OTs G Hf H os vs fp -> os.length = vs.length
  | [], _, _, h => by rw [h.1]; rfl
  | o :: os, _, _, ⟨v, r, f1, f2, e, h1, h2, ef⟩ => by subst e; simp [OTs.length h2]
theorem OTs.append {G : Gc} {Hf H : Hp} : ∀ {os ps : List O} {vs us : List V} {f g : List Addr}, OTs G Hf H os vs f -> OTs G Hf H ps us g -> OTs G Hf H (os ++ ps) (vs ++ us) (f ++ g)
  | [], _, _, _, _, _, h, t => by obtain ⟨a, b⟩ := h; subst a b; exact t
  | o :: os, _, _, _, _, _, ⟨v, r, f1, f2, e, h1, h2, ef⟩, t => by subst e ef; exact ⟨v, r ++ _, f1, f2 ++ _, rfl, h1, OTs.append h2 t, List.append_assoc _ _ _⟩
theorem OTs.one {G : Gc} {Hf H : Hp} {o : O} {v : V} {f : List Addr} (h : OT G Hf H o v f) : OTs G Hf H [o] [v] f := ⟨v, [], f, [], rfl, h, ⟨rfl, rfl⟩, (List.append_nil _).symm⟩
theorem OTs.up {G : Gc} {Hf H Hf' H' : Hp} {os : List O} {vs : List V} {fp : List Addr} (h : OTs G Hf H os vs fp) (f : zac Hf Hf') (s : zac H H') : OTs G Hf' H' os vs fp := OTs.frameM f os vs fp h fun b u e _ => s b u e
theorem Fre.step {B Hf H Hf' H' : Hp} {fs : List Addr} (z : Fre B Hf fs) (m : ∀ a ∈ fs, ∃ u, H a = some u /\ zc2 u = false) (x : Ext Hf H Hf' H') : Fre B Hf' fs := ⟨z.1, fun a ha => ⟨(z.2 a ha).1, by
  obtain ⟨u, hu, ht⟩ := m a ha
  rw [x.n a u hu ht]
  exact (z.2 a ha).2⟩⟩
theorem Fre.app {B Hf : Hp} {fs fp : List Addr} (z : Fre B Hf fs) (y : Fre B Hf fp) (d : ∀ a ∈ fs, a ∈ fp -> False) : Fre B Hf (fs ++ fp) :=
  ⟨List.nodup_append.mpr ⟨z.1, y.1, fun a ha b hb e => by subst e; exact d a ha hb⟩, fun a ha => (List.mem_append.mp ha).elim (z.2 a) (y.2 a)⟩
noncomputable def zcr (h : D -> Option (Option O)) : List D -> Option (List O)
  | [] => some []
  | d :: ds => (h d).bind fun o => (zcr h ds).map fun r => match o with
    | some y => y :: r
    | none => r
theorem zsr {h : D -> Option (Option O)} {d : D} {ds : List D} {r : List O} (e : zcr h (d :: ds) = some r) : ∃ o r', h d = some o /\ zcr h ds = some r' /\ r = (match o with | some y => y :: r' | none => r') := by
  unfold zcr at e
  cases e1 : h d with
  | none => rw [e1] at e; cases e
  | some o =>
    cases e2 : zcr h ds with
    | none => rw [e1, e2] at e; cases e
    | some r' =>
      rw [e1, e2] at e
      cases e
      refine ⟨o, r', rfl, rfl, ?_⟩
      cases o <;> rfl
theorem zmy {α : Type} {h : D -> Option (Option O)} (f : α -> D) (φ : α -> O) : ∀ {xs : List α}, (∀ x ∈ xs, h (f x) = some (some (φ x))) -> zcr h (xs.map f) = some (xs.map φ)
  | [], _ => rfl
  | x :: xs, hh => by
    rw [List.map_cons]
    unfold zcr
    rw [hh x List.mem_cons_self, zmy f φ (xs := xs) fun y hy => hh y (List.mem_cons_of_mem _ hy)]
    rfl
noncomputable def zdq (g : D -> List Sl -> Option (List Sl)) (ft : List Sl -> Option Bool) (fe : List Sl -> Option O) (ρ : List Sl) (d : D) : Option (Option O) := (g d ρ).bind fun ρ1 => (ft ρ1).bind fun b => if b then (fe ρ1).map some else some none
noncomputable def zex (k : Nat) (js : List Nat) (fi : List Sl -> Option (List D)) (g : D -> List Sl -> Option (List Sl)) (ft : List Sl -> Option Bool) (fe : List Sl -> Option O) (ρ : List Sl) : Option O :=
  (fi ρ).bind fun ds => if ds.length <= 16777216 then (zcr (zdq g ft fe (za2 k js ρ)) ds).map .lst else none
section
variable {c : Str -> Addr} {X : Cx} {elt tg iter e : Expr} {ifs : List Expr} {scope : Scope} {pos : Pos} {Nc : List Str} {k : Nat} {js : List Nat} {b : Bool}
  {fi : List Sl -> Option (List D)} {g : D -> List Sl -> Option (List Sl)} {ft : List Sl -> Option Bool} {fe : List Sl -> Option O}
theorem zv1 {G : Gc} (hj : js.Nodup) (hk : ∀ d ρ ρ' i, g d ρ = some ρ' -> k <= i -> ρ'[i]? = ρ[i]?) (hlen : ∀ d ρ ρ', g d ρ = some ρ' -> ρ'.length = ρ.length) {σ : St} {H : Hp} {Q : VK} (h : tDZ G b (zex k js fi g ft fe) σ H Q) :
    zky k js (zkb G fi) (tDG G g) (tDT G ft) (tDZ G true fe) σ H Q := by
  obtain ⟨Hf0, H0, Hf, ρ, t, st, ef, kq⟩ := h
  unfold zex at ef
  cases e1 : fi ρ with
  | none => rw [e1] at ef; cases ef
  | some ds =>
    rw [e1, Option.bind_some] at ef
    by_cases hz : ds.length <= 16777216
    · rw [if_pos hz] at ef
      cases e2 : zcr (zdq g ft fe (za2 k js ρ)) ds with
      | none => rw [e2] at ef; cases ef
      | some rs =>
        rw [e2] at ef
        cases ef
        refine ⟨Hf0, H0, Hf, ρ, ds, st, e1, fun J Hf1 H1 x1 it => ?_⟩
        refine ⟨fun i m ys σ' H' => m = ds.length - i /\ i <= ds.length /\ ∃ Hf' as zam fs, Ext Hf1 H1 Hf' H' /\ zab G Hf0 H0 Hf' H' σ' (za2 k js ρ) /\ OTs G Hf' H' as ys fs /\ Fre H1 Hf' fs /\ zcr (zdq g ft fe (za2 k js ρ)) (ds.drop i) = some zam /\ rs = as ++ zam /\ as.length <= i,
          ⟨ds.length, rfl, Nat.zero_le _, Hf1, [], rs, [], Ext.refl x1.s, (st.step x1).comp k hj, ⟨rfl, rfl⟩, .nil, e2, rfl, Nat.le_refl _⟩, ?_⟩
        rintro i m ys σ' H' ⟨rfl, hi, Hf', as, zam, fs, x2, st2, ra, za, ec, er, hal⟩
        have hys : ys.length <= sizeLine := by rw [sizeLine_eq, <- ra.length]; omega
        obtain ⟨it1, it2⟩ := it Hf' H' x2 i
        by_cases hlt : i < ds.length
        · obtain ⟨d, ed, edr⟩ := zg8 hlt
          obtain ⟨go, yl⟩ := it1 d ed
          refine .inr ⟨go, hys, fun ys' σ2 H2 => ds.length - (i + 1) = ds.length - (i + 1) /\ i + 1 <= ds.length /\ ∃ Hf' as zam fs, Ext Hf1 H1 Hf' H2 /\ zab G Hf0 H0 Hf' H2 σ2 (za2 k js ρ) /\ OTs G Hf' H2 as ys' fs /\ Fre H1 Hf' fs /\ zcr (zdq g ft fe (za2 k js ρ)) (ds.drop (i + 1)) = some zam /\ rs = as ++ zam /\ as.length <= i + 1,
            fun ys' σ2 H2 w => ⟨ds.length - (i + 1), by omega, w⟩, fun x H2 y => ?_⟩
          obtain ⟨Hf2, x3, rx⟩ := yl x H2 y
          rw [edr] at ec
          obtain ⟨o, r', eo, ec', erest⟩ := zsr ec
          unfold zdq at eo
          cases eg : g d (za2 k js ρ) with
          | none => rw [eg] at eo; cases eo
          | some ρ1 =>
            rw [eg] at eo
            replace eo : (ft ρ1).bind _ = _ := eo
            cases et : ft ρ1 with
            | none => rw [et] at eo; cases eo
            | some b' =>
              rw [et] at eo
              replace eo : (if b' = true then (fe ρ1).map some else some none) = some o := eo
              refine ⟨Hf0, H0, Hf2, za2 k js ρ, d, ρ1, st2.step x3, rx, eg, fun σ3 st3 => ⟨Hf0, H0, Hf2, ρ1, b', st3, et, fun Hf4 H4 x4 => ?_⟩⟩
              have back : ∀ {Hf5 H5 : Hp}, zab G Hf0 H0 Hf5 H5 σ3 ρ1 -> zab G Hf0 H0 Hf5 H5 σ3 (za2 k js ρ) := fun {Hf5 H5} s5 => s5.weak (hlen _ _ _ eg).symm fun j s hs => by
                rcases zga hs with ⟨_, e⟩ | ⟨hj', _⟩
                · exact .inl e
                · exact .inr (by rw [hk _ _ _ _ eg hj']; exact hs)
              have mem := OTs.memM as ys fs ra
              cases b' with
              | true =>
                rw [if_pos rfl] at eo
                refine zmp ?_
                cases ee : fe ρ1 with
                | none => rw [ee] at eo; cases eo
                | some y' =>
                  rw [ee] at eo
                  cases eo
                  refine ⟨Hf0, H0, Hf4, ρ1, y', st3.step x4, ee, fun v fp Hf5 H5 x5 r5 z5 => ?_⟩
                  have z5 : Fre H4 Hf5 fp := z5
                  have x34 := x3.trans x4
                  have x := x34.trans x5
                  refine ⟨rfl, hlt, Hf5, as ++ [y'], r', fs ++ fp, x2.trans x, back ((st3.step x4).step x5), (ra.up x.f x.h).append (.one r5), (za.step mem x).app (z5.imp fun a h => x2.h.free (x34.h.free h)) fun a ha hb => ?_, ec', ?_, by rw [List.length_append, List.length_singleton]; omega⟩
                  · obtain ⟨u, hu, _⟩ := mem a ha
                    have := x34.h a u hu
                    rw [(z5.2 a hb).1] at this
                    cases this
                  · rw [er, erest, List.append_assoc]
                    rfl
              | false =>
                rw [if_neg Bool.false_ne_true] at eo
                refine zoi ?_
                cases eo
                have x := x3.trans x4
                exact ⟨rfl, hlt, Hf4, as, r', fs, x2.trans x, back (st3.step x4), ra.up x.f x.h, za.step mem x, ec', by rw [er, erest], by omega⟩
        · have ei : i = ds.length := by omega
          subst ei
          refine .inl ⟨it2 rfl, hys, fun l h1 h2 => ?_⟩
          rw [List.drop_eq_nil_of_le (Nat.le_refl _)] at ec
          cases ec
          rw [List.append_nil] at er
          subst er
          have x := x1.trans x2
          refine kq _ (l :: fs) Hf' (upd H' l (.lst ys)) (x.trans (Ext.tmp x.s h2)) ⟨l, ys, fs, rfl, zan, ra.up (zac.refl _) (zai h2), rfl⟩ ⟨List.nodup_cons.mpr ⟨fun hl => ?_, za.1⟩, fun a ha => ?_⟩
          · obtain ⟨u, hu, _⟩ := OTs.memM _ ys fs ra l hl
            rw [h2] at hu
            cases hu
          · rcases List.mem_cons.mp ha with e | e
            · subst e
              exact ⟨zfv st.ext.h (x.h.free h2), x.s.free h2⟩
            · exact ⟨zfv st.ext.h (x1.h.free (za.2 a e).1), (za.2 a e).2⟩
    · rw [if_neg hz] at ef
      cases ef
theorem zqh (k : Nat) (js : List Nat) (Nc : List Str) (hc : X.calm = true) (hi : DIe c X tg iter fi) (hg : ∀ cl C ex s₂ H₂, DG c (X.comp scope Nc cl C ex s₂ H₂) tg k g) (ht : ∀ cl C ex s₂ H₂, DTs c (X.comp scope Nc cl C ex s₂ H₂) ifs ft)
    (he : ∀ cl C ex s₂ H₂, DZ c (X.comp scope Nc cl C ex s₂ H₂) true elt fe) (ck : zf8 scope X.env.scope.names X.N Nc k js = true := by rfl) (hs : ∀ x, foldedSetIterable iter X.env x = pure x := by intro _; rfl) (hj : js.Nodup := by decide) :
    DZ c X b (.ListComp elt [⟨tg, iter, ifs, 0⟩] scope pos) (zex k js fi g ft fe) :=
  PE.imp (zof (g := tDG (Gx c X) g) (tt := tDT (Gx c X) ft) (te := tDZ (Gx c X) true fe) k js Nc hc hi (fun cl C ex s₂ H₂ => (hg cl C ex s₂ H₂).pg) ht he ck hs) fun σ H Q h =>
    zv1 hj (hg [] 0 [] X.s₀ X.H₀).keep (hg [] 0 [] X.s₀ X.H₀).len h
end
section
variable {c : Str -> Addr} {X : Cx} {st : Stmt}
noncomputable def zgi (i : Nat) (f : List Sl -> Option O) (ρ : List Sl) : Option Fl := (f ρ).bind fun o => match ρ[i]? with
  | some (.deep (.lst os)) => if os.length < 16777216 then some (.nx (ρ.set i (.deep (.lst (os ++ [o]))))) else none
  | _ => none
theorem zwy {i : Nat} {f : List Sl -> Option O} (h : PS X st (zfa (tBM X.K "list" zgs (zbt i) (ze4 (tDZ (Gx c X) true f) zfd)))) : DS c X st (zgi i f) := PS.imp h fun E σ H q_ => by
  obtain ⟨Hf0, H0, Hf, ρ, o, so, ef, k⟩ := q_
  unfold zgi at ef
  cases e1 : f ρ with
  | none => rw [e1] at ef; cases ef
  | some t =>
    rw [e1, Option.bind_some] at ef
    split at ef
    · rename_i os es
      split at ef
      · rename_i hl
        cases ef
        obtain ⟨v, e2, u, fp, e3, r, n, z⟩ := so.slot es
        subst e3
        obtain ⟨l, vs, fs, el, q, rs, efp⟩ := id r
        subst el efp
        refine ⟨_, e2, .inl ⟨rfl, _, SqL.of q⟩, Hf0, H0, Hf, ρ, t, so, e1, fun w gp Hf' H' x r' y => ?_⟩
        have y : Fre H Hf' gp := y
        have q' := x.h _ _ q
        have lg : l ∉ gp := fun hg => by
          have := (y.2 l hg).1
          rw [q] at this
          cases this
        have lf : l ∉ fs := (List.nodup_cons.mp n).1
        have mem := OTs.memM os vs fs rs
        have dis : ∀ a ∈ fs, a ∈ gp -> False := fun a ha hg => by
          obtain ⟨u, hu, _⟩ := mem a ha
          rw [(y.2 a hg).1] at hu
          cases hu
        have o1 : OTs (Gx c X) Hf' (upd H' l (.lst (vs ++ [w]))) os vs fs := OTs.frameM x.f os vs fs rs fun b u hb hm => by
          rw [zag]
          · exact x.h b u hb
          · intro e
            subst e
            rw [q] at hb
            cases hb
            rcases hm with hm | hm
            · cases hm
            · exact lf hm
        have o2 : OT (Gx c X) Hf' (upd H' l (.lst (vs ++ [w]))) t w gp := r'.frame (zac.refl _) fun b u hb hm => by
          rw [zag]
          · exact hb
          · intro e
            subst e
            rw [q'] at hb
            cases hb
            rcases hm with hm | hm
            · cases hm
            · exact lg hm
        have zz : Fre H0 Hf' (l :: fs) := Fre.step (H := H) ⟨n, z⟩ (fun a ha => by
          rcases List.mem_cons.mp ha with e | e
          · subst e; exact ⟨_, q, rfl⟩
          · exact mem a e) x
        refine ⟨l, vs, w, rfl, rfl, q', by rw [sizeLine_eq, <- rs.length]; exact hl, k σ Hf' _ x.f (so.chgX x es e2 (fun b u hb => ?_) ⟨.ref l, l :: (fs ++ gp), rfl, ⟨l, vs ++ [w], fs ++ gp, rfl, zan, o1.append (.one o2), rfl⟩, ?_, ?_⟩ fun a p => ?_)⟩
        · by_cases hb' : b = l
          · subst hb'; exact .inl ⟨_, r, List.mem_cons_self⟩
          · exact .inr (by rw [zag hb']; exact hb)
        · refine List.nodup_cons.mpr ⟨fun hm => (List.mem_append.mp hm).elim lf lg, List.nodup_append.mpr ⟨(List.nodup_cons.mp n).2, y.1, fun a ha b hb e => by subst e; exact dis a ha hb⟩⟩
        · intro a ha
          rcases List.mem_cons.mp ha with e | e
          · subst e; exact zz.2 a List.mem_cons_self
          · rcases List.mem_append.mp e with e | e
            · exact zz.2 a (List.mem_cons_of_mem _ e)
            · exact ⟨so.ext.h.free (y.2 a e).1, (y.2 a e).2⟩
        · obtain ⟨fp', r2, ha⟩ := p
          obtain ⟨l2, vs2, fs2, el2, q2, rs2, ef2⟩ := r2
          cases el2
          rw [zan] at q2
          cases q2
          have := OTs.funM _ _ _ _ (o1.append (.one o2)) rs2
          subst ef2
          subst this
          rcases List.mem_cons.mp ha with e | e
          · subst e; exact .inl ⟨_, r, List.mem_cons_self⟩
          · rcases List.mem_append.mp e with e | e
            · exact .inl ⟨_, r, List.mem_cons_of_mem _ e⟩
            · exact .inr (y.2 a e).1
      · cases ef
    · cases ef
theorem zve {i : Nat} {f : List Sl -> Option O} {ρ : List Sl} {o : O} {os : List O} {K : Fl -> Prop} (h : f ρ = some o) (h' : ρ[i]? = some (.deep (.lst os))) (hl : os.length < 16777216) (k : K (.nx (ρ.set i (.deep (.lst (os ++ [o])))))) : wp (zgi i f) ρ K := ⟨_, by unfold zgi; rw [h, Option.bind_some, h']; exact if_pos hl, k⟩
end
end L2
namespace L2
open PySem PySem.Spec PyProof.Rows
theorem OTs.chgAt {G : Gc} {Hf H Hf' H' : Hp} {l : Addr} {o o' : O} (f : zac Hf Hf') (hl : ∃ u, H l = some u /\ zc2 u = false) (k2 : ∀ b u, b ≠ l -> H b = some u -> H' b = some u) :
    ∀ {os : List O} {vs : List V} {fp : List Addr} {k : Nat}, OTs G Hf H os vs fp -> fp.Nodup -> os[k]? = some o -> (∀ v fk, vs[k]? = some v -> OT G Hf H o v fk -> l ∈ fk /\ OT G Hf' H' o' v fk) -> OTs G Hf' H' (os.set k o') vs fp
  | [], _, _, _, _, _, e, _ => by simp at e
  | o1 :: os, _, _, 0, ⟨v, r, f1, f2, e, h1, h2, ef⟩, n, e', hh => by
    rw [List.getElem?_cons_zero] at e'
    cases e'
    subst e ef
    obtain ⟨lm, q⟩ := hh v f1 rfl h1
    rw [List.set_cons_zero]
    refine ⟨v, r, f1, f2, rfl, q, OTs.frameM f os r f2 h2 fun b u hb hm => k2 b u (fun z => ?_) hb, rfl⟩
    subst z
    obtain ⟨u', hu, ht⟩ := hl
    rw [hb] at hu
    cases hu
    rcases hm with hm | hm
    · rw [hm] at ht; cases ht
    · exact (List.nodup_append.mp n).2.2 b lm b hm rfl
  | o1 :: os, _, _, k + 1, ⟨v, r, f1, f2, e, h1, h2, ef⟩, n, e', hh => by
    rw [List.getElem?_cons_succ] at e'
    subst e ef
    rw [List.set_cons_succ]
    obtain ⟨v', fk, ev, hk, m⟩ := OTs.at h2 e'
    have lm := m l (hh v' fk (by rw [List.getElem?_cons_succ]; exact ev) hk).1
    refine ⟨v, r, f1, f2, rfl, h1.frame f fun b u hb hm => k2 b u (fun z => ?_) hb, OTs.chgAt f hl k2 h2 (List.nodup_append.mp n).2.1 e' fun w fk' ew hw => hh w fk' (by rw [List.getElem?_cons_succ]; exact ew) hw, rfl⟩
    subst z
    obtain ⟨u', hu, ht⟩ := hl
    rw [hb] at hu
    cases hu
    rcases hm with hm | hm
    · rw [hm] at ht; cases ht
    · exact (List.nodup_append.mp n).2.2 b hm b lm rfl
theorem OTs.nodupAt {G : Gc} {Hf H : Hp} : ∀ {os : List O} {vs : List V} {fp : List Addr} {k : Nat} {o : O} {v : V} {fk : List Addr}, OTs G Hf H os vs fp -> fp.Nodup -> os[k]? = some o -> vs[k]? = some v -> OT G Hf H o v fk -> fk.Nodup
  | [], _, _, _, _, _, _, _, _, e, _, _ => by simp at e
  | o1 :: os, _, _, 0, o, v, fk, ⟨v1, r, f1, f2, e, h1, h2, ef⟩, n, e', ev, h => by
    rw [List.getElem?_cons_zero] at e'
    cases e'
    subst e ef
    rw [List.getElem?_cons_zero] at ev
    cases ev
    rw [OT.funM _ v fk f1 h h1]
    exact (List.nodup_append.mp n).1
  | o1 :: os, _, _, k + 1, o, v, fk, ⟨v1, r, f1, f2, e, h1, h2, ef⟩, n, e', ev, h => by
    rw [List.getElem?_cons_succ] at e'
    subst e ef
    rw [List.getElem?_cons_succ] at ev
    exact OTs.nodupAt h2 (List.nodup_append.mp n).2.1 e' ev h
noncomputable def O.appd (o : O) (d : D) : Option O := match o with
  | .lst xs => if xs.length < 16777216 then some (.lst (xs ++ [.fz d])) else none
  | .jnk n => if n < 16777216 then some (.jnk (n + 1)) else none
  | _ => none
theorem zry {G : Gc} {Hf H : Hp} {o o' : O} {d : D} {v : V} {fk : List Addr} (h : o.appd d = some o') (r : OT G Hf H o v fk) : ∃ l us, v = .ref l /\ H l = some (.lst us) /\ us.length < 16777216 /\ l ∈ fk /\
    ∀ Hf' H' w, fk.Nodup -> zac Hf Hf' -> (∀ b u, b ≠ l -> H b = some u -> H' b = some u) -> H' l = some (.lst (us ++ [w])) -> Rep G Hf' d w -> OT G Hf' H' o' v fk := by
  cases o with
  | lst xs =>
    replace h : (if xs.length < 16777216 then some (O.lst (xs ++ [.fz d])) else none) = some o' := h
    split at h
    · rename_i hl
      cases h
      obtain ⟨l, us, fs, e, q, rs, ef⟩ := r
      subst e ef
      refine ⟨l, us, rfl, q, by rw [<- rs.length]; exact hl, List.mem_cons_self, fun Hf' H' w n f k2 q' rw' => ?_⟩
      have o1 : OTs G Hf' H' xs us fs := OTs.frameM f xs us fs rs fun b u hb hm => k2 b u (fun z => by
        subst z
        rw [q] at hb
        cases hb
        rcases hm with hm | hm
        · cases hm
        · exact (List.nodup_cons.mp n).1 hm) hb
      have o2 := o1.append (.one (o := .fz d) (v := w) (f := []) ⟨rw', rfl⟩)
      rw [List.append_nil] at o2
      exact ⟨l, us ++ [w], fs, rfl, q', o2, rfl⟩
    · cases h
  | jnk n =>
    replace h : (if n < 16777216 then some (O.jnk (n + 1)) else none) = some o' := h
    split at h
    · rename_i hl
      cases h
      obtain ⟨l, us, e, q, z, ef⟩ := r
      subst e ef
      exact ⟨l, us, rfl, q, by omega, List.mem_cons_self, fun Hf' H' w _ f k2 q' rw' => ⟨l, us ++ [w], rfl, q', by rw [List.length_append, List.length_singleton]; omega, rfl⟩⟩
    · cases h
  | _ => cases h
section
variable {c : Str -> Addr} {X : Cx} {st : Stmt}
end
end L2
namespace L2
open PySem PySem.Spec PyProof.Rows
theorem zbg.gone {G : Gc} {H0 Hf H : Hp} {s : Sl} {v : V} {a : Addr} (q : zbg G H0 Hf H (some v) s) (p : Holds G Hf H s v a) : H0 a = none /\ Hf a = none := by
  cases hs : s.isOwn with
  | true =>
    obtain ⟨l, e1, h0, hf, _⟩ := q.own hs
    have e2 := (Holds.own hs).mp p
    cases e1
    cases e2
    exact ⟨h0, hf⟩
  | false =>
    cases s with
    | deep o =>
      obtain ⟨u, fp, e1, r, n, z⟩ := q
      cases e1
      obtain ⟨fp', r', ha⟩ := p
      have := OT.funM o v fp fp' r r'
      subst this
      exact z a ha
    | _ => first | exact Bool.noConfusion p.1 | cases hs
noncomputable def zg6 (G : Gc) (Hf H : Hp) (σ : St) (ρ : List Sl) (a : Addr) : Prop := ∀ (k : Nat) (t : Sl) (w : V), ρ[k]? = some t -> σ[k]? = some (some w) -> Holds G Hf H t w a -> False
section
variable {G : Gc} {Hf0 H0 Hf H : Hp} {σ : St} {ρ : List Sl}
theorem zab.free (h : zab G Hf0 H0 Hf H σ ρ) {a : Addr} {o : HO} (e : H0 a = some o) : zg6 G Hf H σ ρ a := fun k t w b c p => by
  rw [((h.at' k _ t c b).gone p).1] at e
  cases e
theorem zab.hand {j : Nat} {u : V} {s : Sl} (h : zab G Hf0 H0 Hf H σ ρ) (ho : zbg G H0 Hf H (some u) s) (hn : ∀ a, Holds G Hf H s u a -> zg6 G Hf H σ ρ a) : zab G Hf0 H0 Hf H (σ.set j (some u)) (ρ.set j s) := by
  refine ⟨h.ext, by simpa using h.len, fun i w t a b => ?_, fun i k t t' v w l a b c d' p q => ?_⟩
  · rcases zao b with ⟨e, e', _⟩ | ⟨e, b⟩
    · subst e e'
      rcases zao a with ⟨_, e', _⟩ | ⟨e, _⟩
      · subst e'; exact ho
      · exact absurd rfl e
    · rcases zao a with ⟨e', _⟩ | ⟨_, a⟩
      · exact absurd e' e
      · exact h.at' i w t a b
  · rcases zao a with ⟨e1, e1', _⟩ | ⟨e1, a⟩
    · rcases zao b with ⟨e2, e2', _⟩ | ⟨e2, b⟩
      · rw [e1, e2]
      · rcases zao c with ⟨_, e', _⟩ | ⟨e', _⟩
        · cases e'
          rw [e1'] at p
          rcases zao d' with ⟨e', _⟩ | ⟨_, d'⟩
          · exact absurd e' e2
          · exact (hn l p k t' w b d' q).elim
        · exact absurd e1 e'
    · rcases zao c with ⟨e', _⟩ | ⟨_, c⟩
      · exact absurd e' e1
      · rcases zao b with ⟨e2, e2', _⟩ | ⟨e2, b⟩
        · rcases zao d' with ⟨_, e', _⟩ | ⟨e', _⟩
          · cases e'
            rw [e2'] at q
            exact (hn l q i t v a c p).elim
          · exact absurd e2 e'
        · rcases zao d' with ⟨e', _⟩ | ⟨_, d'⟩
          · exact absurd e' e2
          · exact h.dj i k t t' v w l a b c d' p q
theorem zab.take {i : Nat} {u : V} (h : zab G Hf0 H0 Hf H σ ρ) (el : σ[i]? = some (some u)) : zab G Hf0 H0 Hf H σ (ρ.set i (.val u)) := by
  refine h.re h.ext (by simp) (fun j w s a b => ?_) fun j s v a b c d => ?_
  · rcases zao b with ⟨e, e', _⟩ | ⟨e, b⟩
    · subst e e'
      rw [el] at a
      cases a
      rfl
    · exact h.at' j w s a b
  · rcases zao b with ⟨e, e', _⟩ | ⟨e, b⟩
    · subst e'; exact Bool.noConfusion d.1
    · exact ⟨s, b, d⟩
end
noncomputable def O.isFz : O -> Bool
  | .fz _ => true
  | _ => false
theorem OTs.allFz {G : Gc} {Hf H : Hp} : ∀ {os : List O} {vs : List V} {f : List Addr}, os.all O.isFz = true -> OTs G Hf H os vs f -> f = [] /\ ∀ Hf' H', zac Hf Hf' -> OTs G Hf' H' os vs []
  | [], _, _, _, h => ⟨h.2, fun _ _ _ => ⟨h.1, rfl⟩⟩
  | o :: os, _, _, hs, ⟨v, r, f1, f2, e, h1, h2, ef⟩ => by
    rw [List.all_cons, Bool.and_eq_true] at hs
    obtain ⟨a, b⟩ := OTs.allFz hs.2 h2
    cases o with
    | fz d =>
      obtain ⟨c, c'⟩ := h1
      subst a c' ef e
      exact ⟨rfl, fun Hf' H' s => ⟨v, r, [], [], rfl, ⟨c.up s, rfl⟩, b Hf' H' s, rfl⟩⟩
    | _ => exact Bool.noConfusion hs.1
noncomputable def zm5 (ks : List Nat) (a b : List Sl) : Prop := a.length = b.length /\ ∀ m, m ∉ ks -> a[m]? = b[m]?
theorem zm5.refl (ks : List Nat) (a : List Sl) : zm5 ks a a := ⟨rfl, fun _ _ => rfl⟩
open Classical in
section
variable {c : Str -> Addr} {X : Cx} {tg iter : Expr} {body : List Stmt} {pos : Pos} {F : List Sl -> Option Fl}
end
end L2
namespace L2
open PySem PySem.Spec PyProof.Rows
section
variable {c : Str -> Addr} {X : Cx} {b : Bool} {k : Nat} {f : Addr} {fd : FuncData} {ps : List Str} {fl cn : Str} {pos apos : Pos} {o e : Expr} {fo : List Sl -> Option D}
end
section
variable {P : Program} {w : World} {K : PySem.W.Frag} {mg : Str -> Option Value} {base : Heap} {c : Str -> Addr}
end
section
variable {c : Str -> Addr} {X : Cx} {k : Nat} {f : Addr} {fd : FuncData} {q x : Str} {p pos spos : Pos} {e : Expr}
end
end L2
namespace L2
open PySem PySem.Spec PyProof.Rows
section
variable {c : Str -> Addr} {X : Cx} {cn fl : Str} {e o : Expr} {sts : List Stmt} {pos pos' : Pos} {m : List Sl -> Option O} {fs : List (Str × (List Sl -> Option O))}
end
section
variable {P : Program} {w : World} {K : PySem.W.Frag} {mg : Str -> Option Value} {base : Heap} {c : Str -> Addr}
end
section
variable {c : Str -> Addr} {X : Cx} {b : Bool} {k : Nat} {f : Addr} {fd : FuncData} {ps : List Str} {x cn : Str} {p pos : Pos} {e : Expr} {es : List Expr} {fa : List Sl -> Option (List D)}
end
noncomputable def zwb (G : Gc) (f : List Sl -> Option (List O)) : TA := fun σ H Q => ∃ Hf0 H0 Hf ρ os, zab G Hf0 H0 Hf H σ ρ /\ f ρ = some os /\ ∀ vs gs Hf' H', Ext Hf H Hf' H' -> OTs G Hf' H' os vs gs -> Fre H Hf' gs -> Q vs H'
structure DAT (c : Str -> Addr) (X : Cx) (es : List Expr) (f : List Sl -> Option (List O)) : Prop where
  pa : PA X es (zwb (Gx c X) f)
  len : ∀ ρ os, f ρ = some os -> os.length = es.length
noncomputable def zhv (f : List Sl -> Option O) (g : List Sl -> Option (List O)) (ρ : List Sl) : Option (List O) := (f ρ).bind fun o => (g ρ).map fun os => o :: os
noncomputable def zkj (g : List Sl -> Option (List O)) (ρ : List Sl) : Option O := (g ρ).map .lst
section
variable {c : Str -> Addr} {X : Cx} {b : Bool} {e : Expr} {es : List Expr} {pos : Pos} {st : Stmt}
theorem zqj : DAT c X [] (fun _ => some []) := ⟨PA.imp zby fun σ H Q ⟨Hf0, H0, Hf, ρ, os, st, ef, k⟩ => by cases ef; exact k [] [] Hf H (Ext.refl st.sub) ⟨rfl, rfl⟩ .nil, fun ρ os h => by cases h; rfl⟩
theorem zne {f : List Sl -> Option O} {g : List Sl -> Option (List O)} {ρ : List Sl} {os : List O} (h : zhv f g ρ = some os) : ∃ o r, f ρ = some o /\ g ρ = some r /\ os = o :: r := by
  unfold zhv at h
  cases e1 : f ρ with
  | none => rw [e1] at h; cases h
  | some d =>
    cases e2 : g ρ with
    | none => rw [e1, e2] at h; cases h
    | some r => rw [e1, e2] at h; cases h; exact ⟨d, r, rfl, rfl, rfl⟩
theorem zv0 {f : List Sl -> Option O} {g : List Sl -> Option (List O)} (h : DZ c X true e f) (hr : DAT c X es g) (hs : starEach (e :: es) X.env = (false, eval e X.env) :: starEach es X.env := by rfl) : DAT c X (e :: es) (zhv f g) := by
  refine ⟨PA.imp (zbr h hr.pa hs) fun σ H Q q_ => ?_, fun ρ os h => ?_⟩
  · obtain ⟨Hf0, H0, Hf, ρ, os, st, ef, k⟩ := q_
    obtain ⟨o, r, e1, e2, rfl⟩ := zne ef
    refine ⟨Hf0, H0, Hf, ρ, o, st, e1, fun u fp Hf1 H1 x1 r1 z1 => ⟨Hf0, H0, Hf1, ρ, r, st.step x1, e2, fun vs gs Hf2 H2 x2 r2 z2 => ?_⟩⟩
    have z1 : Fre H Hf1 fp := z1
    have mem := OT.memM o u fp r1
    refine k (u :: vs) (fp ++ gs) Hf2 H2 (x1.trans x2) ⟨u, vs, fp, gs, rfl, r1.up x2.f x2.h, r2, rfl⟩ ((z1.step mem x2).app (z2.imp fun a h => x1.h.free h) fun a ha hb => ?_)
    obtain ⟨w, hw, _⟩ := mem a ha
    rw [(z2.2 a hb).1] at hw
    cases hw
  · obtain ⟨o, r, e1, e2, rfl⟩ := zne h
    simp [hr.len ρ r e2]
theorem zqr {g : List Sl -> Option (List O)} (h : DAT c X es g) (hz : es.length <= 1000 := by exact Nat.le_of_ble_eq_true rfl) : DZ c X b (.List es pos) (zkj g) := PE.imp (zn1 h.pa) fun σ H Q q_ => by
  obtain ⟨Hf0, H0, Hf, ρ, t, st, ef, k⟩ := q_
  unfold zkj at ef
  cases ed : g ρ with
  | none => rw [ed] at ef; cases ef
  | some os =>
    rw [ed] at ef
    cases ef
    refine ⟨Hf0, H0, Hf, ρ, os, st, ed, fun vs gs Hf' H' x r z => ⟨?_, fun l hl => ?_⟩⟩
    · rw [<- r.length, h.len ρ os ed]
      exact Nat.le_of_lt (zhg hz)
    · refine k _ (l :: gs) Hf' (upd H' l (.lst vs)) (x.trans (Ext.tmp x.s hl)) ⟨l, vs, gs, rfl, zan, r.up (zac.refl _) (zai hl), rfl⟩ ⟨List.nodup_cons.mpr ⟨fun hm => ?_, z.1⟩, fun a ha => ?_⟩
      · obtain ⟨u, hu, _⟩ := OTs.memM os vs gs r l hm
        rw [hl] at hu
        cases hu
      · rcases List.mem_cons.mp ha with q | q
        · subst q; exact ⟨zfv st.ext.h (x.h.free hl), x.s.free hl⟩
        · exact ⟨zfv st.ext.h (z.2 a q).1, (z.2 a q).2⟩
end
structure TyC (K : PySem.W.Frag) (C : Addr) : Prop where
  ha : PySem.W.findIn K (.ref C) "__class__" = some (some (.builtin "object.__class__"))
  hn : PySem.W.specialIn K (.builtin "object.__class__") "__get__" = some (some (.builtin "getset_descriptor.__get__"))
  htk : PySem.W.takesIn K (.builtin "object.__class__") = some true
  hm : PySem.W.mroIn K C (.type "object") = some true
noncomputable def zh3 (K : PySem.W.Frag) (c : Str -> Addr) (CT : Addr) : List (Str × Bool) -> Prop
  | [] => True
  | (cn, b) :: r => (Cls K (c cn) /\ TyC K (c cn) /\ PySem.W.kitOne K (.ref (c cn)) (.ref CT) = some b) /\ zh3 K c CT r
noncomputable def lkC (s : Str) : List (Str × Bool) -> Option Bool
  | [] => none
  | (k, b) :: r => if s = k then some b else lkC s r
theorem zh3.at {K : PySem.W.Frag} {c : Str -> Addr} {CT : Addr} {s : Str} {b : Bool} : ∀ {l : List (Str × Bool)}, zh3 K c CT l -> lkC s l = some b -> Cls K (c s) /\ TyC K (c s) /\ PySem.W.kitOne K (.ref (c s)) (.ref CT) = some b
  | [], _, e => by cases e
  | (k, b') :: r, h, e => by
    unfold lkC at e
    split at e
    · rename_i q
      subst q
      cases e
      exact h.1
    · exact zh3.at h.2 e
section
variable {c : Str -> Addr} {X : Cx} {e : Expr} {p pos : Pos}
end
end L2
namespace L2
open PySem PySem.Spec PyProof.Rows
section
variable {X : Cx} {pins : List (Addr × Obj)} {σ : St} {H : Hp} {s : Shared} {l : Addr} {kvs : List (Key × V)}
theorem Inv.freeze (I : Inv X pins σ H s) (e : H l = some (.dK kvs)) : ∃ od, Inv X pins σ (upd H l (.frz od (.dK kvs))) s := by
  obtain ⟨z, ns, vs, rel, od, es, ep, ho, r⟩ := zpn I.hok e
  refine ⟨od, ?_⟩
  have fr : ∀ b u, H b = some u -> (∀ w, u ≠ .dK w) -> upd H l (.frz od (.dK kvs)) b = some u := fun b u hb hu => by
    rw [zag (fun q => by subst q; rw [e] at hb; cases hb; exact hu _ rfl)]; exact hb
  have := I.step (g' := s.gens) (t' := s.toks) (d' := s.drawn) (h' := s.heap) (ch := []) (H' := upd H l (.frz od (.dK kvs))) (fun b hb => nomatch hb) (fun b o _ _ _ e _ => e) (fun b o _ _ _ e _ => ⟨o.slots, e⟩) (fun b o _ _ n => by rw [zag (fun q => by subst q; rw [e] at n; cases n)]; exact n)
    (fun b o _ e => ⟨o, e⟩) (fun b xs hb => fr b _ hb (fun w q => by cases q)) (fun b o u hb => fr b _ hb (fun w q => by cases q)) (fun b ps hb => ⟨#[], by rw [fr b _ hb (fun w q => by cases q)]; simp⟩) (fun m hm => hm) (fun b u hb => ?_) I.bare
  · exact this
  · by_cases q : b = l
    · subst q
      rw [zan] at hb
      cases hb
      exact ⟨ho, z, ns, vs, rel, od, es, ep, ho, r⟩
    · rw [zag q] at hb
      exact (I.hok b u hb).stay (fun c v _ h => h) (fun c h => fr c _ h (fun w q => by cases q)) (fun c xs h => fr c _ h (fun w q => by cases q))
end
theorem KV.get : ∀ {xs : List (Key × V)} {us : List (Key × Value)} {i : Nat} {x : Key × V}, KV xs us -> xs[i]? = some x -> ∃ u, us[i]? = some u /\ x.1 = u.1 /\ zah x.2 u.2
  | _, _, _, _, .nil, e => by simp at e
  | _, _, 0, _, .cons r _, e => by simp at e; subst e; exact ⟨_, rfl, r⟩
  | _, _, i + 1, x, .cons _ t, e => by
    obtain ⟨u, h1, h2⟩ := KV.get (i := i) (x := x) t (by simpa using e)
    exact ⟨u, by simpa using h1, h2⟩
section
variable {X : Cx} {tg : Expr}
end
section
variable {c : Str -> Addr} {X : Cx} {tg e a b o f' : Expr} {pos apos cpos : Pos}
noncomputable def zfp (ks : List Key) (xs : List D) (k : Key) : Option D := ((ks.zip xs).find? fun kv => decide (kv.1 = k)).map (·.2)
theorem zle {G : Gc} {H : Hp} {k : Key} : ∀ {ks : List Key} {xs : List D} {vs : List V}, ks.length = vs.length -> zaa G H xs vs -> (∀ d, zfp ks xs k = some d -> ∃ v, zb7 (ks.zip vs) k = some v /\ Rep G H d v) /\ (zfp ks xs k = none -> zb7 (ks.zip vs) k = none)
  | [], _, _, _, _ => ⟨fun d h => (by cases h), fun _ => rfl⟩
  | _ :: _, _, [], h, _ => by cases h
  | j :: ks, [], v :: vs, _, r => by cases (show _ = [] from r)
  | j :: ks, x :: xs, v :: vs, h, ⟨u, r', e, h1, h2⟩ => by
    injection e with e1 e2
    subst e1 e2
    obtain ⟨a, b⟩ := zle (k := k) (ks := ks) (xs := xs) (vs := vs) (by simpa using h) h2
    unfold zfp
    rw [List.zip_cons_cons, List.zip_cons_cons]
    by_cases q : j = k
    · subst q
      refine ⟨fun d hd => ⟨v, zkq rfl, ?_⟩, fun hd => ?_⟩
      · rw [List.find?_cons_of_pos (by simp)] at hd
        cases hd
        exact h1
      · rw [List.find?_cons_of_pos (by simp)] at hd
        cases hd
    · rw [List.find?_cons_of_neg (by simpa using q), zi8 q]
      exact ⟨a, b⟩
noncomputable def zk9 : D -> Option (List Key × List D)
  | .dic ks xs => some (ks, xs)
  | .kd ks xs => some (ks, xs)
  | _ => none
theorem zuc {G : Gc} {H : Hp} {d : D} {v : V} {p : List Key × List D} (e : zk9 d = some p) (r : Rep G H d v) : ∃ a vs, v = .ref a /\ Rd H a (.dK (p.1.zip vs)) /\ p.1.length = vs.length /\ zaa G H p.2 vs := by
  cases d with
  | dic ks xs => cases e; obtain ⟨a, vs, ev, q, z, r⟩ := r; exact ⟨a, vs, ev, .inl q, z, r⟩
  | kd ks xs => cases e; obtain ⟨a, od, vs, ev, q, z, r⟩ := r; exact ⟨a, vs, ev, .inr ⟨od, q⟩, z, r⟩
  | _ => cases e
theorem Rd.up {H H' : Hp} {a : Addr} {u : HO} (h : Rd H a u) (s : zac H H') : Rd H' a u := h.imp (s _ _) fun ⟨o, e⟩ => ⟨o, s _ _ e⟩
noncomputable def ziw (x y : D) : Option D := (zk9 x).bind fun p => (zey y).bind fun k => zfp p.1 p.2 k
theorem zwo (hu : X.A.units + 64 < cLine) {f g : List Sl -> Option D} (ha : DE c X a f) (hb : DE c X b g) (hs : zjz b := by exact fun _ _ => rfl) : DE c X (.Subscript a b pos) (m2 ziw f g) :=
  PE.imp (zvw (by omega) ha hb hs) fun σ H Q q_ => by
    obtain ⟨Hf0, H0, Hf, ρ, d, st, ef, k⟩ := q_
    obtain ⟨x, y, e1, e2, e3⟩ := zj5 ef
    refine ⟨Hf0, H0, Hf, ρ, x, st, e1, fun v Hf1 H1 x1 r1 => ⟨Hf0, H0, Hf1, ρ, y, st.step x1, e2, fun u Hf2 H2 x2 r2 => ?_⟩⟩
    unfold ziw at e3
    cases ed : zk9 x with
    | none => rw [ed] at e3; cases e3
    | some p =>
      rw [ed, Option.bind_some] at e3
      cases ek : zey y with
      | none => rw [ek] at e3; cases e3
      | some ky =>
        rw [ek, Option.bind_some] at e3
        obtain ⟨l, vs, el, q, z, r⟩ := zuc ed (r1.up x2.f)
        have ev := zmg ek r2
        subst ev el
        obtain ⟨w, hw, rw'⟩ := (zle z r).1 d e3
        exact ⟨l, w, rfl, .inl ⟨_, ky, q.up x2.s, rfl, hw.symm⟩, k _ Hf2 H2 (x1.trans x2) rw'⟩
end
noncomputable def zfw (i : Nat) (F : List Sl -> Option Fl) (ρ : List Sl) : Option Fl := match ρ[i]? with
  | some (.ownd ks xs) => F (ρ.set i (.im (.kd ks xs)))
  | _ => F ρ
section
variable {c : Str -> Addr} {X : Cx} {st : Stmt} {sts : List Stmt} {F : List Sl -> Option Fl}
theorem zr6 {pins : List (Addr × Obj)} {σ : St} {H : Hp} {s : Shared} {E : zcy} (I : Inv X pins σ H s) {i : Nat} (h : tDS (Gx c X) (zfw i F) E σ H) : ∃ H', Inv X pins σ H' s /\ tDS (Gx c X) F E σ H' := by
  obtain ⟨Hf0, H0, Hf, ρ, o, so, ef, k⟩ := h
  unfold zfw at ef
  split at ef
  · rename_i ks xs es
    obtain ⟨l, e1, h0, hf, vs, q, z, r⟩ := so.ownAt rfl es
    obtain ⟨od, I'⟩ := I.freeze q
    refine ⟨_, I', Hf0, H0, upd Hf l (.frz od (.dK (ks.zip vs))), ρ.set i (.im (.kd ks xs)), o, ?_, ef, k.up (zai hf)⟩
    have s1 : zab (Gx c X) Hf0 H0 Hf (upd H l (.frz od (.dK (ks.zip vs)))) σ (ρ.set i .no) := so.chg es e1 (fun b u hb => by
      by_cases hb' : b = l
      · subst hb'; exact .inl ((Holds.own rfl).mpr rfl)
      · exact .inr (by rw [zag hb']; exact hb)) trivial fun a p => (p.calm rfl).elim
    have s2 : zab (Gx c X) Hf0 H0 (upd Hf l (.frz od (.dK (ks.zip vs)))) (upd H l (.frz od (.dK (ks.zip vs)))) σ (ρ.set i .no) := by
      have fr : zg6 (Gx c X) Hf H σ (ρ.set i .no) l := fun m t w b cc p => by
        rcases zao b with ⟨_, e', _⟩ | ⟨ne, b⟩
        · subst e'; exact p.calm rfl
        · exact ne (so.dj m i t (.ownd ks xs) w _ l b es cc e1 p ((Holds.own rfl).mpr rfl))
      have fr' : zg6 (Gx c X) Hf (upd H l (.frz od (.dK (ks.zip vs)))) σ (ρ.set i .no) l := fun m t w b cc p => by
        obtain ⟨oo, hoo, hto⟩ := (s1.at' m _ t cc b).there p
        cases ht : t.isOwn with
        | true =>
          have ew := (Holds.own ht).mp p
          exact fr m t w b cc ((Holds.own ht).mpr ew)
        | false =>
          cases t with
          | deep o' =>
            obtain ⟨fp, rr, ha⟩ := p
            obtain ⟨u, fp', eu, r2, _⟩ := so.at' m _ _ cc (by
              rcases zao b with ⟨_, e', _⟩ | ⟨ne, b⟩
              · cases e'
              · exact b)
            cases eu
            have r3 : OT (Gx c X) Hf (upd H l (.frz od (.dK (ks.zip vs)))) o' w fp' := r2.frame (zac.refl _) fun b' u' hb' hm' => by
              rw [zag (fun qq => ?_)]
              · exact hb'
              · subst qq
                rcases hm' with hm' | hm'
                · rw [q] at hb'; cases hb'; cases hm'
                · exact fr m _ w b cc ⟨fp', r2, hm'⟩
            have := OT.funM o' w _ _ r3 rr
            subst this
            exact fr m _ w b cc ⟨fp', r2, ha⟩
          | _ => first | exact Bool.noConfusion p.1 | cases ht
      have x : Ext Hf (upd H l (.frz od (.dK (ks.zip vs)))) (upd Hf l (.frz od (.dK (ks.zip vs)))) (upd H l (.frz od (.dK (ks.zip vs)))) -> True := fun _ => trivial
      refine s1.re ⟨s1.ext.f.trans (zai hf), s1.ext.h, fun b u e => ?_, fun b u e t => ?_⟩ rfl (fun m v t a b => ?_) fun m t v a b cc p => ?_
      · by_cases hb : b = l
        · subst hb; rw [zan] at e ⊢; exact e
        · rw [zag hb] at e; exact s1.ext.s b u e
      · rw [zag (fun z => by subst z; rw [h0] at e; cases e)]
        exact s1.ext.n b u e t
      · have qq := s1.at' m v t a b
        cases ht : t.isOwn with
        | true =>
          obtain ⟨l2, e2, e3, e4, q2⟩ := qq.own ht
          subst e2
          refine .ofOwn ht ⟨l2, rfl, e3, ?_, q2.up (zai hf) fun o' ho' => ho'⟩
          rw [zag (fun z => by subst z; exact fr' m t _ b a ((Holds.own ht).mpr rfl))]
          exact e4
        | false =>
          cases t with
          | no => trivial
          | im d => obtain ⟨u', e1, r⟩ := qq; exact ⟨u', e1, r.up (zai hf)⟩
          | val u' => exact qq
          | deep o' =>
            obtain ⟨w, fp, e1, r, n, zz⟩ := qq
            subst e1
            refine ⟨w, fp, rfl, r.up (zai hf) (zac.refl _), n, fun y hy => ⟨(zz y hy).1, ?_⟩⟩
            rw [zag (fun z => by subst z; exact fr' m _ w b a ⟨fp, r, hy⟩)]
            exact (zz y hy).2
          | _ => cases ht
      · exact ⟨t, b, (s1.at' m _ t cc b).back (fun o' fp _ r => r.up (zai hf) (zac.refl _)) p⟩
    have res := s2.setIm (i := i) (d := .kd ks xs) (v := .ref l) ⟨l, od, vs, rfl, zan, z, r.up (zai hf)⟩
    have e3 : σ.set i (some (.ref l)) = σ := by
      apply List.ext_getElem?
      intro jj
      by_cases hj : i = jj
      · subst hj
        rw [List.getElem?_set_self (List.getElem?_eq_some_iff.mp e1).1, e1]
      · rw [List.getElem?_set_ne hj]
    rw [e3, List.set_set] at res
    exact res
  · exact ⟨H, I, Hf0, H0, Hf, ρ, o, so, ef, k⟩
theorem zsh (i : Nat) (h : DS c X st F) : DS c X st (zfw i F) := fun pins s σ H E I q => by
  obtain ⟨H', I', q'⟩ := zr6 I q
  exact h pins s σ H' E I' q'
end
end L2
namespace L2
open PySem PySem.Spec PyProof.Rows
section
variable {c : Str -> Addr} {X : Cx} {b : Bool} {pos : Pos}
end
open Classical in
section
variable {P : Program} {w : World} {K : PySem.W.Frag} {mg : Str -> Option Value} {base : Heap} {c : Str -> Addr}
end
section
variable {c : Str -> Addr} {X : Cx} {st : Stmt} {e a b o i' value : Expr} {pos pos' p' apos cpos : Pos}
end
theorem OTs.reps {G : Gc} {Hf H : Hp} : ∀ {os : List O} {vs : List V} {f : List Addr}, os.all O.isFz = true -> OTs G Hf H os vs f -> zaa G Hf (O.toDs os) vs
  | [], _, _, _, h => by rw [O.toDs]; exact h.1
  | o :: os, _, _, hz, ⟨v, r, f1, f2, e, h1, h2, ef⟩ => by
    rw [List.all_cons, Bool.and_eq_true] at hz
    rw [O.toDs]
    cases o with
    | fz d => rw [O.toD]; exact ⟨v, r, e, h1.1, OTs.reps hz.2 h2⟩
    | _ => cases hz.1
noncomputable def zjy : O -> Option (List Key × List D)
  | .dic ks os => if os.all O.isFz then some (ks, O.toDs os) else none
  | _ => none
theorem zvp {G : Gc} {Hf H : Hp} {o : O} {p : List Key × List D} {v : V} {fp : List Addr} (h : zjy o = some p) (r : OT G Hf H o v fp) : ∃ l us, v = .ref l /\ H l = some (.dK (p.1.zip us)) /\ p.1.length = us.length /\ zaa G Hf p.2 us /\ fp = [l] := by
  unfold zjy at h
  split at h
  · rename_i ks os
    split at h
    · rename_i hz
      cases h
      obtain ⟨l, us, fs, e, q, z, rs, ef⟩ := r
      have hz' := hz
      obtain ⟨e2, _⟩ := OTs.allFz hz' rs
      subst e2
      exact ⟨l, us, e, q, z, rs.reps hz, ef⟩
    · cases h
  · cases h
open Classical in
section
variable {c : Str -> Addr} {X : Cx} {k : Nat} {f : Addr} {fd : FuncData} {ps : List Str} {x : Str} {p pos spos : Pos} {e : Expr} {es : List Expr} {fa : List Sl -> Option (List D)} {fj : List Sl -> Option D} {i : Nat}
end
end L2
namespace L2
open PySem PySem.Spec PyProof.Rows
theorem zlz {H : Hp} {l : Addr} {o : HO} (h : H l = some o) : upd H l o = H := by
  funext b
  by_cases hb : b = l
  · subst hb; rw [zan, h]
  · rw [zag hb]
theorem zab.frz {G : Gc} {Hf0 H0 Hf H : Hp} {σ : St} {ρ : List Sl} {i : Nat} {s s' : Sl} {v : V} {l : Addr} {u : HO} (so : zab G Hf0 H0 Hf H σ ρ) (es : ρ[i]? = some s) (ev : σ[i]? = some (some v)) (hs : Holds G Hf H s v l) (hn : H0 l = none /\ Hf l = none)
    (ok : zbg G H0 (upd Hf l u) (upd H l u) (some v) s') (bk : ∀ a, Holds G (upd Hf l u) (upd H l u) s' v a -> Holds G Hf H s v a) : zab G Hf0 H0 (upd Hf l u) (upd H l u) σ (ρ.set i s') := by
  obtain ⟨ol, hol, tol⟩ := (so.at' i _ s ev es).there hs
  have x : Ext Hf0 H0 (upd Hf l u) (upd H l u) := by
    refine ⟨so.ext.f.trans (zai hn.2), fun b y e => ?_, fun b y e => ?_, fun b y e t => ?_⟩
    · rw [zag (fun z => by subst z; rw [hn.1] at e; cases e)]; exact so.ext.h b y e
    · by_cases hb : b = l
      · subst hb; rw [zan] at e ⊢; exact e
      · rw [zag hb] at e ⊢; exact so.ext.s b y e
    · rw [zag (fun z => by subst z; rw [hn.1] at e; cases e)]
      exact so.ext.n b y e t
  have fr : ∀ m t w, m ≠ i -> ρ[m]? = some t -> σ[m]? = some (some w) -> Holds G Hf H t w l -> False := fun m t w ne a b p => ne (so.dj m i t s w v l a es b ev p hs)
  have frame : ∀ m o w fp, m ≠ i -> ρ[m]? = some (.deep o) -> σ[m]? = some (some w) -> OT G Hf H o w fp -> OT G (upd Hf l u) (upd H l u) o w fp := fun m o w fp ne a b r => r.frame (zai hn.2) fun b' u' hb' hm' => by
    rw [zag (fun z => ?_)]
    · exact hb'
    · subst z
      rcases hm' with hm' | hm'
      · rw [hol] at hb'; cases hb'; rw [hm'] at tol; cases tol
      · exact fr m _ w ne a b ⟨fp, r, hm'⟩
  refine so.re x (by simp) (fun m w t a b => ?_) fun m t w a b cc p => ?_
  · rcases zao b with ⟨e, e', _⟩ | ⟨ne, b⟩
    · subst e e'
      rw [ev] at a
      cases a
      exact ok
    · have q := so.at' m w t a b
      cases ht : t.isOwn with
      | true =>
        obtain ⟨l2, e1, e2, e3, e4⟩ := q.own ht
        subst e1
        have nl : l2 ≠ l := fun z => by subst z; exact fr m t _ ne b a ((Holds.own ht).mpr rfl)
        exact .ofOwn ht ⟨l2, rfl, e2, by rw [zag nl]; exact e3, e4.up (zai hn.2) fun o' ho' => by rw [zag nl]; exact ho'⟩
      | false =>
        cases t with
        | no => trivial
        | im d => obtain ⟨u', e1, r⟩ := q; exact ⟨u', e1, r.up (zai hn.2)⟩
        | val u' => exact q
        | deep o' =>
          obtain ⟨w', fp, e1, r, n, zz⟩ := q
          subst e1
          refine ⟨w', fp, rfl, frame m o' w' fp ne b a r, n, fun y hy => ⟨(zz y hy).1, ?_⟩⟩
          rw [zag (fun z => by subst z; exact fr m _ w' ne b a ⟨fp, r, hy⟩)]
          exact (zz y hy).2
        | _ => cases ht
  · rcases zao b with ⟨e, e', _⟩ | ⟨ne, b⟩
    · subst e e'
      rw [ev] at cc
      cases cc
      exact ⟨s, es, bk a p⟩
    · exact ⟨t, b, (so.at' m _ t cc b).back (fun o' fp eo r => by subst eo; exact frame m o' w fp ne b cc r) p⟩
noncomputable def ze3 : O -> Option D
  | .fz d => some d
  | .dic ks os => if os.all O.isFz then some (.kd ks (O.toDs os)) else none
  | .lst os => if os.all O.isFz then some (.lst (O.toDs os)) else none
  | _ => none
noncomputable def zce : List O -> Option (List D)
  | [] => some []
  | o :: os => (ze3 o).bind fun d => (zce os).map fun r => d :: r
theorem zo5 {o : O} {os : List O} {ds : List D} (h : zce (o :: os) = some ds) : ∃ d r, ze3 o = some d /\ zce os = some r /\ ds = d :: r := by
  rw [zce] at h
  cases e1 : ze3 o with
  | none => rw [e1] at h; cases h
  | some d =>
    rw [e1, Option.bind_some] at h
    cases e2 : zce os with
    | none => rw [e2] at h; cases h
    | some r => rw [e2] at h; cases h; exact ⟨d, r, rfl, rfl, rfl⟩
theorem OTs.split {G : Gc} {Hf H : Hp} {o : O} {os : List O} : ∀ {ds : List D} {vs : List V} {fp : List Addr}, OTs G Hf H (ds.map .fz ++ o :: os) vs fp -> ∃ vs0 v r f1 f2, vs = vs0 ++ v :: r /\ fp = f1 ++ f2 /\ zaa G Hf ds vs0 /\ OT G Hf H o v f1 /\ OTs G Hf H os r f2
  | [], _, _, ⟨v, r, f1, f2, e, h1, h2, ef⟩ => ⟨[], v, r, f1, f2, e, ef, rfl, h1, h2⟩
  | d :: ds, _, _, ⟨v, r, f1, f2, e, h1, h2, ef⟩ => by
    obtain ⟨vs0, v', r', g1, g2, e1, e2, q1, q2, q3⟩ := OTs.split (ds := ds) h2
    subst e e1 ef e2
    rw [h1.2]
    exact ⟨v :: vs0, v', r', g1, g2, rfl, rfl, .cons h1.1 q1, q2, q3⟩
section
variable {X : Cx} {pins : List (Addr × Obj)} {σ : St} {s : Shared} {G : Gc} {i : Nat}
theorem zok : ∀ (os : List O) (ds ds2 : List D) (Hf0 H0 Hf H : Hp) (ρ : List Sl), Inv X pins σ H s -> zab G Hf0 H0 Hf H σ ρ -> ρ[i]? = some (.deep (.lst (ds.map .fz ++ os))) -> zce os = some ds2 -> ∃ Hf' H', Inv X pins σ H' s /\ zac Hf Hf' /\ zab G Hf0 H0 Hf' H' σ (ρ.set i (.deep (.lst ((ds ++ ds2).map .fz))))
  | [], ds, ds2, Hf0, H0, Hf, H, ρ, I, so, e, h => by
    cases h
    refine ⟨Hf, H, I, zac.refl _, ?_⟩
    rw [List.append_nil]
    rw [List.append_nil] at e
    have : ρ.set i (.deep (.lst (ds.map .fz))) = ρ := by
      apply List.ext_getElem?
      intro j
      by_cases hj : i = j
      · subst hj
        rw [List.getElem?_set_self (List.getElem?_eq_some_iff.mp e).1, e]
      · rw [List.getElem?_set_ne hj]
    rw [this]
    exact so
  | o :: os, ds, ds2, Hf0, H0, Hf, H, ρ, I, so, e, h => by
    obtain ⟨d, r2, e1, e2, rfl⟩ := zo5 h
    have step : ∃ Hf' H', Inv X pins σ H' s /\ zac Hf Hf' /\ zab G Hf0 H0 Hf' H' σ (ρ.set i (.deep (.lst ((ds ++ [d]).map .fz ++ os)))) := by
      have el : (ds ++ [d]).map O.fz ++ os = ds.map .fz ++ .fz d :: os := by simp
      rw [el]
      cases o with
      | fz d' =>
        cases e1
        refine ⟨Hf, H, I, zac.refl _, ?_⟩
        have : ρ.set i (.deep (.lst (ds.map .fz ++ .fz d :: os))) = ρ := by
          apply List.ext_getElem?
          intro j
          by_cases hj : i = j
          · subst hj
            rw [List.getElem?_set_self (List.getElem?_eq_some_iff.mp e).1, e]
          · rw [List.getElem?_set_ne hj]
        rw [this]
        exact so
      | dic ks os' =>
        rw [ze3] at e1
        split at e1
        · rename_i hz
          cases e1
          obtain ⟨v, ev, u, fp, eu, r, n, z⟩ := so.slot e
          subst eu
          obtain ⟨a, vs, fs, ea, qa, rs, efp⟩ := id r
          subst ea
          obtain ⟨vs0, w, zam, f1, f2, evs, efs, q0, qo, qr⟩ := rs.split
          obtain ⟨l, us, ew, ql, zl, rl, ef1⟩ := zvp (p := (ks, O.toDs os')) (by unfold zjy; exact if_pos hz) qo
          subst ew ef1
          obtain ⟨od, I'⟩ := I.freeze ql
          have lf : l ∈ fp := by rw [efp, efs]; exact List.mem_cons_of_mem _ (List.mem_append_left _ List.mem_cons_self)
          have al : a ≠ l := fun zz => by subst zz; rw [qa] at ql; cases ql
          have n2 : (a :: ([l] ++ f2)).Nodup := by rw [<- efs, <- efp]; exact n
          have n3 : ([l] ++ f2).Nodup := (List.nodup_cons.mp n2).2
          have nl : l ∉ f2 := (List.nodup_cons.mp n3).1
          have fr : OTs G (upd Hf l (.frz od (.dK (ks.zip us)))) (upd H l (.frz od (.dK (ks.zip us)))) os zam f2 := OTs.frameM (zai (z l lf).2) os zam f2 qr fun b' u' hb' hm' => by
            rw [zag (fun zz => ?_)]
            · exact hb'
            · subst zz
              rcases hm' with hm' | hm'
              · rw [ql] at hb'; cases hb'; cases hm'
              · exact nl hm'
          have newS : OTs G (upd Hf l (.frz od (.dK (ks.zip us)))) (upd H l (.frz od (.dK (ks.zip us)))) (ds.map .fz ++ .fz (.kd ks (O.toDs os')) :: os) vs f2 := by
            rw [evs]
            have h1 := OTs.fz (H := upd H l (.frz od (.dK (ks.zip us)))) (q0.up (zai (o := .frz od (.dK (ks.zip us))) (z l lf).2))
            exact h1.append (ps := .fz (.kd ks (O.toDs os')) :: os) (f := []) ⟨.ref l, zam, [], f2, rfl, ⟨⟨l, od, us, rfl, zan, zl, rl.up (zai (z l lf).2)⟩, rfl⟩, fr, rfl⟩
          have newT : OT G (upd Hf l (.frz od (.dK (ks.zip us)))) (upd H l (.frz od (.dK (ks.zip us)))) (.lst (ds.map .fz ++ .fz (.kd ks (O.toDs os')) :: os)) (.ref a) (a :: f2) := ⟨a, vs, f2, rfl, by rw [zag al]; exact qa, newS, rfl⟩
          have sub : ∀ b ∈ a :: f2, b ∈ fp /\ b ≠ l := fun b hb => by
            rcases List.mem_cons.mp hb with hb | hb
            · subst hb; exact ⟨by rw [efp]; exact List.mem_cons_self, al⟩
            · exact ⟨by rw [efp, efs]; exact List.mem_cons_of_mem _ (List.mem_append_right _ hb), fun zz => nl (zz ▸ hb)⟩
          refine ⟨_, _, I', zai (z l lf).2, so.frz e ev ⟨fp, r, lf⟩ (z l lf) ⟨_, a :: f2, rfl, newT, ?_, fun b hb => ⟨(z b (sub b hb).1).1, ?_⟩⟩ fun b pb => ?_⟩
          · exact List.nodup_cons.mpr ⟨fun hm => (List.nodup_cons.mp n2).1 (List.mem_append_right _ hm), (List.nodup_cons.mp n3).2⟩
          · rw [zag (sub b hb).2]; exact (z b (sub b hb).1).2
          · obtain ⟨fp', rr, hb⟩ := pb
            have := OT.funM _ _ _ _ newT rr
            subst this
            exact ⟨fp, r, (sub b hb).1⟩
        · cases e1
      | lst os' =>
        rw [ze3] at e1
        split at e1
        · rename_i hz
          cases e1
          obtain ⟨v, ev, u, fp, eu, r, n, z⟩ := so.slot e
          subst eu
          obtain ⟨a, vs, fs, ea, qa, rs, efp⟩ := id r
          subst ea
          obtain ⟨vs0, w, zam, f1, f2, evs, efs, q0, qo, qr⟩ := rs.split
          obtain ⟨l, us, gs, ew, ql, rl, ef1⟩ := qo
          obtain ⟨eg, _⟩ := OTs.allFz hz rl
          subst ew eg ef1
          have rl := rl.reps hz
          have lf : l ∈ fp := by rw [efp, efs]; exact List.mem_cons_of_mem _ (List.mem_append_left _ List.mem_cons_self)
          have n2 : (a :: ([l] ++ f2)).Nodup := by rw [<- efs, <- efp]; exact n
          have n3 : ([l] ++ f2).Nodup := (List.nodup_cons.mp n2).2
          have nl : l ∉ f2 := (List.nodup_cons.mp n3).1
          have al : a ≠ l := fun zz => (List.nodup_cons.mp n2).1 (zz ▸ List.mem_append_left _ List.mem_cons_self)
          have eH : upd H l (.lst us) = H := zlz ql
          have fr : OTs G (upd Hf l (.lst us)) (upd H l (.lst us)) os zam f2 := by
            rw [eH]
            exact OTs.frameM (zai (z l lf).2) os zam f2 qr fun b' u' hb' _ => hb'
          have newS : OTs G (upd Hf l (.lst us)) (upd H l (.lst us)) (ds.map .fz ++ .fz (.lst (O.toDs os')) :: os) vs f2 := by
            rw [evs]
            have h1 := OTs.fz (H := upd H l (.lst us)) (q0.up (zai (o := .lst us) (z l lf).2))
            exact h1.append (ps := .fz (.lst (O.toDs os')) :: os) (f := []) ⟨.ref l, zam, [], f2, rfl, ⟨⟨l, us, rfl, zan, rl.up (zai (z l lf).2)⟩, rfl⟩, fr, rfl⟩
          have newT : OT G (upd Hf l (.lst us)) (upd H l (.lst us)) (.lst (ds.map .fz ++ .fz (.lst (O.toDs os')) :: os)) (.ref a) (a :: f2) := ⟨a, vs, f2, rfl, by rw [zag al]; exact qa, newS, rfl⟩
          have sub : ∀ b ∈ a :: f2, b ∈ fp /\ b ≠ l := fun b hb => by
            rcases List.mem_cons.mp hb with hb | hb
            · subst hb; exact ⟨by rw [efp]; exact List.mem_cons_self, al⟩
            · exact ⟨by rw [efp, efs]; exact List.mem_cons_of_mem _ (List.mem_append_right _ hb), fun zz => nl (zz ▸ hb)⟩
          refine ⟨_, _, ?_, zai (z l lf).2, so.frz (u := .lst us) e ev ⟨fp, r, lf⟩ (z l lf) ⟨_, a :: f2, rfl, newT, ?_, fun b hb => ⟨(z b (sub b hb).1).1, ?_⟩⟩ fun b pb => ?_⟩
          · rw [eH]; exact I
          · exact List.nodup_cons.mpr ⟨fun hm => (List.nodup_cons.mp n2).1 (List.mem_append_right _ hm), (List.nodup_cons.mp n3).2⟩
          · rw [zag (sub b hb).2]; exact (z b (sub b hb).1).2
          · obtain ⟨fp', rr, hb⟩ := pb
            have := OT.funM _ _ _ _ newT rr
            subst this
            exact ⟨fp, r, (sub b hb).1⟩
        · cases e1
      | _ => cases e1
    obtain ⟨Hf1, H1, I1, s1, so1⟩ := step
    have hi : i < ρ.length := (List.getElem?_eq_some_iff.mp e).1
    obtain ⟨Hf2, H2, I2, s2, so2⟩ := zok os (ds ++ [d]) r2 Hf0 H0 Hf1 H1 _ I1 so1 (by rw [List.getElem?_set_self hi]) e2
    refine ⟨Hf2, H2, I2, s1.trans s2, ?_⟩
    rw [List.set_set] at so2
    rw [List.append_assoc] at so2
    exact so2
noncomputable def zfi (i : Nat) (F : List Sl -> Option Fl) (ρ : List Sl) : Option Fl := match ρ[i]? with
  | some (.deep (.lst os)) => (zce os).bind fun ds => F (ρ.set i (.im (.lst ds)))
  | some (.deep (.fz d)) => F (ρ.set i (.im d))
  | _ => F ρ
end
section
variable {c : Str -> Addr} {X : Cx} {st : Stmt} {sts : List Stmt} {F : List Sl -> Option Fl}
theorem zpc {pins : List (Addr × Obj)} {σ : St} {H : Hp} {s : Shared} {E : zcy} (I : Inv X pins σ H s) {i : Nat} (h : tDS (Gx c X) (zfi i F) E σ H) : ∃ H', Inv X pins σ H' s /\ tDS (Gx c X) F E σ H' := by
  obtain ⟨Hf0, H0, Hf, ρ, o, so, ef, k⟩ := h
  unfold zfi at ef
  split at ef
  · rename_i os es
    cases e1 : zce os with
    | none => rw [e1] at ef; cases ef
    | some ds =>
      rw [e1, Option.bind_some] at ef
      obtain ⟨Hf1, H1, I1, s1, so1⟩ := zok os [] ds Hf0 H0 Hf H ρ I so es e1
      rw [List.nil_append] at so1
      have hi : i < ρ.length := (List.getElem?_eq_some_iff.mp es).1
      have es1 : (ρ.set i (.deep (.lst (ds.map .fz))))[i]? = some (.deep (.lst (ds.map .fz))) := by rw [List.getElem?_set_self hi]
      obtain ⟨v, ev, u, fp, eu, r, n, z⟩ := so1.slot es1
      subst eu
      obtain ⟨a, vs, fs, ea, qa, rs, efp⟩ := id r
      subst ea
      have az : Hf1 a = none := (z a (by rw [efp]; exact List.mem_cons_self)).2
      have hz : (ds.map O.fz).all O.isFz = true := by rw [List.all_map]; exact List.all_eq_true.mpr fun _ _ => rfl
      have rr := rs.reps hz
      rw [zwn] at rr
      have so2 := so1.frz (u := .lst vs) (s' := .im (.lst ds)) es1 ev ⟨fp, r, by rw [efp]; exact List.mem_cons_self⟩ (z a (by rw [efp]; exact List.mem_cons_self)) ⟨_, rfl, a, vs, rfl, zan, rr.up (zai az)⟩ fun b pb => (pb.calm rfl).elim
      rw [zlz qa, List.set_set] at so2
      exact ⟨H1, I1, Hf0, H0, _, _, o, so2, ef, k.up (s1.trans (zai az))⟩
  · rename_i d es
    refine ⟨H, I, Hf0, H0, Hf, _, o, ?_, ef, k⟩
    obtain ⟨v, ev, u, fp, eu, r, n, z⟩ := so.slot es
    subst eu
    have := so.setIm (i := i) (d := d) (v := u) r.1
    have e3 : σ.set i (some u) = σ := by
      apply List.ext_getElem?
      intro jj
      by_cases hj : i = jj
      · subst hj
        rw [List.getElem?_set_self (List.getElem?_eq_some_iff.mp ev).1, ev]
      · rw [List.getElem?_set_ne hj]
    rw [e3] at this
    exact this
  · exact ⟨H, I, Hf0, H0, Hf, ρ, o, so, ef, k⟩
theorem zv5 (i : Nat) (h : DS c X st F) : DS c X st (zfi i F) := fun pins s σ H E I q => by
  obtain ⟨H', I', q'⟩ := zpc I q
  exact h pins s σ H' E I' q'
theorem zsf {i : Nat} {ρ : List Sl} {os : List O} {ds : List D} {K : Fl -> Prop} (h : ρ[i]? = some (.deep (.lst os))) (h' : zce os = some ds) (k : wp F (ρ.set i (.im (.lst ds))) K) : wp (zfi i F) ρ K := by
  obtain ⟨o, e, q⟩ := k
  exact ⟨o, by unfold zfi; rw [h]; show (zce os).bind _ = _; rw [h']; exact e, q⟩
theorem zsx {i : Nat} {ρ : List Sl} {ks : List Key} {xs : List D} {K : Fl -> Prop} (h : ρ[i]? = some (.ownd ks xs)) (k : wp F (ρ.set i (.im (.kd ks xs))) K) : wp (zfw i F) ρ K := by
  obtain ⟨o, e, q⟩ := k
  exact ⟨o, by unfold zfw; rw [h]; exact e, q⟩
end
end L2
namespace L2
open PySem PySem.Spec PyProof.Rows
section
variable {prog : Program} {w : World} {A : Around} {R : Result -> Shared -> Prop} {I : Addr} {fp wr : List Addr} {n : Nat} {P : Nat -> Value -> Prop} {St : Nat -> Heap -> Prop} {bt : Nat -> Nat -> Bool} {S : Addr} {dv : Value}
end
section
variable {prog : Program} {w : World} {A : Around} {E : Value -> Shared -> Prop} {s : Shared}
end
section
variable {M : Model} {A : Around} {E : Value -> Shared -> Prop} {s : Shared}
end
section
variable {X : Cx} {a : Expr} {te : TE} {p pos kp cp : Pos} {kn : Nat}
end
section
variable {c : Str -> Addr} {X : Cx} {e : Expr} {p pos kp cp : Pos} {kn : Nat}
end
section
variable {c : Str -> Addr} {X : Cx} {e : Expr} {p pos : Pos}
end
section
variable {c : Str -> Addr} {X : Cx} {a b : Expr} {pos : Pos}
end
end L2
namespace L2
open PySem PySem.Spec PyProof.Rows
noncomputable def ze5 (i : Nat) (fk fv : List Sl -> Option D) (ρ : List Sl) : Option Fl := (fv ρ).bind fun d => (fk ρ).bind fun x => match x with
  | .int k => (match ρ[i]? with
    | some (.pin l xs) => (ixN xs.length k).map fun j => .nx (ρ.set i (.pin l (xs.set j d)))
    | _ => none)
  | _ => none
section
variable {c : Str -> Addr} {X : Cx} {st : Stmt} {e a b i' value : Expr} {pos pos' : Pos}
theorem zqt {i : Nat} {fk fv : List Sl -> Option D} (hp : PS X st (zfy (tD (Gx c X) fv) (zm0 (zbt i) (tD (Gx c X) fk) znc))) : DS c X st (ze5 i fk fv) := PS.imp hp fun E σ H q_ => by
  obtain ⟨Hf0, H0, Hf, ρ, o, so, ef, k⟩ := q_
  unfold ze5 at ef
  cases e1 : fv ρ with
  | none => rw [e1] at ef; cases ef
  | some d =>
    rw [e1] at ef
    cases e2 : fk ρ with
    | none => rw [e2] at ef; cases ef
    | some x =>
      rw [e2] at ef
      obtain ⟨ky, rfl⟩ : ∃ ky, x = .int ky := by cases x <;> first | exact ⟨_, rfl⟩ | cases ef
      replace ef : (match ρ[i]? with | some (.pin l xs) => (ixN xs.length ky).map fun j => Fl.nx (ρ.set i (.pin l (xs.set j d))) | _ => none) = some o := ef
      split at ef
      · rename_i l0 xs es
        cases ej : ixN xs.length ky with
        | none => rw [ej] at ef; cases ef
        | some j =>
          rw [ej] at ef
          cases ef
          refine ⟨Hf0, H0, Hf, ρ, d, so, e1, fun v Hf1 H1 x1 r1 => ?_⟩
          have so1 := so.step x1
          obtain ⟨l, el, h0, hf, eq, vs, q, r⟩ := so1.ownAt (s := .pin l0 xs) rfl es
          subst eq
          refine ⟨_, el, Hf0, H0, Hf1, ρ, .int ky, so1, e2, fun y Hf2 H2 x2 r2 => ?_⟩
          have so2 := so1.step x2
          have q2 := x2.h _ _ q
          refine ⟨l, vs, ky, j, rfl, r2, q2, by rw [<- r.length]; exact ej, ?_⟩
          exact k σ Hf2 _ (x1.f.trans x2.f) (so2.mutd (s := .pin l xs) (s' := .pin l (xs.set j d)) rfl rfl es el ⟨rfl, vs.set j v, zan, (r.up x2.f).set j (r1.up x2.f)⟩)
      · cases ef
theorem zrx {i : Nat} {fk fv : List Sl -> Option D} (ho : PE X e (zbt i)) (hk : DE c X i' fk) (hv : DE c X value fv) (hs : swapsWithSole [.Subscript e i' pos'] value pos.line X.env = pure false := by rfl) (hw : swappedStores [.Subscript e i' pos'] value X.env = pure none := by rfl)
    (h1 : (assignEach [.Subscript e i' pos'] X.env).map (·.2) = [assign (.Subscript e i' pos') X.env] := by rfl)
    (ha : ∀ v, assign (.Subscript e i' pos') X.env v = (do
      let ov <- holding [v] (eval e X.env)
      let iv <- holding [v, ov] (eval i' X.env)
      standAt pos'
      holding [v, ov, iv] (setItem ov iv v)
      release [v, ov, iv] []) := by intro _; rfl) :
    DS c X (.Assign [.Subscript e i' pos'] value pos) (ze5 i fk fv) := zqt (zlp hv (zr2 ho hk zus ha) hs hw h1)
end
theorem zrw {i : Nat} {fk fv : List Sl -> Option D} {ρ : List Sl} {d : D} {xs : List D} {l : Addr} {k : Int} {K : Fl -> Prop} (hv : fv ρ = some d) (hk : fk ρ = some (.int k)) (h' : ρ[i]? = some (.pin l xs)) (h0 : 0 <= k) (h1 : k < xs.length) (q : K (.nx (ρ.set i (.pin l (xs.set k.toNat d))))) : wp (ze5 i fk fv) ρ K := ⟨_, by
  unfold ze5
  rw [hv, Option.bind_some, hk, Option.bind_some, h']
  show (ixN xs.length k).map _ = _
  unfold ixN
  rw [if_pos h0, if_pos h1]
  rfl, q⟩
end L2
namespace L2
open PySem PySem.Spec PyProof.Rows
section
variable {c : Str -> Addr} {X : Cx} {pos : Pos}
end
end L2
namespace L2
open PySem PySem.Spec PyProof.Rows
noncomputable abbrev Xe := List Sl -> Option (D × List Sl)
noncomputable abbrev Xa := List Sl -> Option (List D × List Sl)
noncomputable abbrev Xt := List Sl -> Option (Bool × List Sl)
noncomputable def mX (f : List Sl -> Option D) : Xe := fun ρ => (f ρ).map fun d => (d, ρ)
noncomputable def mX2 (m : D -> D -> Option D) (f g : Xe) : Xe := fun ρ => (f ρ).bind fun p => (g p.2).bind fun q => (m p.1 q.1).map fun d => (d, q.2)
noncomputable def zau : Xa := fun ρ => some ([], ρ)
noncomputable def zaj (f : Xe) (g : Xa) : Xa := fun ρ => (f ρ).bind fun p => (g p.2).map fun q => (p.1 :: q.1, q.2)
noncomputable def zfn (f : Xa) : Xe := fun ρ => (f ρ).map fun p => (.tup p.1, p.2)
theorem zsy {f : List Sl -> Option D} {ρ ρ' : List Sl} {d : D} (h : mX f ρ = some (d, ρ')) : f ρ = some d /\ ρ' = ρ := by
  unfold mX at h
  cases e : f ρ with
  | none => rw [e] at h; cases h
  | some d' => rw [e] at h; cases h; exact ⟨rfl, rfl⟩
theorem zhl {m : D -> D -> Option D} {f g : Xe} {ρ ρ' : List Sl} {d : D} (h : mX2 m f g ρ = some (d, ρ')) : ∃ x y ρ1, f ρ = some (x, ρ1) /\ g ρ1 = some (y, ρ') /\ m x y = some d := by
  unfold mX2 at h
  cases e1 : f ρ with
  | none => rw [e1] at h; cases h
  | some p =>
    rw [e1, Option.bind_some] at h
    cases e2 : g p.2 with
    | none => rw [e2] at h; cases h
    | some q =>
      rw [e2, Option.bind_some] at h
      cases e3 : m p.1 q.1 with
      | none => rw [e3] at h; cases h
      | some z => rw [e3] at h; cases h; exact ⟨p.1, q.1, p.2, rfl, e2, e3⟩
theorem zlj {f : Xe} {g : Xa} {ρ ρ' : List Sl} {ds : List D} (h : zaj f g ρ = some (ds, ρ')) : ∃ d r ρ1, f ρ = some (d, ρ1) /\ g ρ1 = some (r, ρ') /\ ds = d :: r := by
  unfold zaj at h
  cases e1 : f ρ with
  | none => rw [e1] at h; cases h
  | some p =>
    rw [e1, Option.bind_some] at h
    cases e2 : g p.2 with
    | none => rw [e2] at h; cases h
    | some q => rw [e2] at h; cases h; exact ⟨p.1, q.1, p.2, rfl, e2, rfl⟩
noncomputable def zpf (G : Gc) (f : Xa) : TA := fun σ H Q => ∃ Hf0 H0 Hf ρ ds ρ', zab G Hf0 H0 Hf H σ ρ /\ f ρ = some (ds, ρ') /\ ∀ vs Hf' H', zac Hf Hf' -> zab G Hf0 H0 Hf' H' σ ρ' -> zaa G Hf' ds vs -> Q vs H'
structure DAX (c : Str -> Addr) (X : Cx) (es : List Expr) (f : Xa) : Prop where
  pa : PA X es (zpf (Gx c X) f)
  len : ∀ ρ ds ρ', f ρ = some (ds, ρ') -> ds.length = es.length
noncomputable def znn (G : Gc) (f : Xt) : TT := fun σ H Q => ∃ Hf0 H0 Hf ρ b ρ', zab G Hf0 H0 Hf H σ ρ /\ f ρ = some (b, ρ') /\ ∀ Hf' H', zac Hf Hf' -> zab G Hf0 H0 Hf' H' σ ρ' -> Q b H'
noncomputable def DTX (c : Str -> Addr) (X : Cx) (e : Expr) (f : Xt) : Prop := PT X e (znn (Gx c X) f)
section
variable {c : Str -> Addr} {X : Cx} {st : Stmt} {e a b : Expr} {es : List Expr} {pos pos' p : Pos}
theorem DE.dx {f : List Sl -> Option D} (h : DE c X e f) : DX c X e (mX f) := PE.imp h fun σ H Q q_ => by
  obtain ⟨Hf0, H0, Hf, ρ, d, ρ', st, ef, k⟩ := q_
  obtain ⟨e1, rfl⟩ := zsy ef
  exact ⟨Hf0, H0, Hf, _, d, st, e1, fun v Hf' H' x r => k v Hf' H' x.f (st.step x) r⟩
theorem zee {op : Operator} {m : D -> D -> Option D} {f g : Xe} (ho : OpD c X (binaryOp op) m) (ha : DX c X a f) (hb : DX c X b g) : DX c X (.BinOp a op b pos) (mX2 m f g) := PE.imp (zkp ho ha hb) fun σ H Q q_ => by
  obtain ⟨Hf0, H0, Hf, ρ, d, ρ', st, ef, k⟩ := q_
  obtain ⟨x, y, ρ1, e1, e2, e3⟩ := zhl ef
  exact ⟨Hf0, H0, Hf, ρ, x, ρ1, st, e1, fun v Hf1 H1 f1 st1 r1 => ⟨Hf0, H0, Hf1, ρ1, y, ρ', st1, e2, fun u Hf2 H2 f2 st2 r2 => ⟨Hf2, x, y, d, st2.sub, r1.up f2, r2, e3, fun w Hf3 H3 x3 r3 => k w Hf3 H3 ((f1.trans f2).trans x3.f) (st2.step x3) r3⟩⟩⟩
theorem zbl : DAX c X [] zau := ⟨PA.imp zby fun σ H Q ⟨Hf0, H0, Hf, ρ, ds, ρ', st, ef, k⟩ => by cases ef; exact k [] Hf H (zac.refl _) st rfl, fun ρ ds ρ' h => by cases h; rfl⟩
theorem za6 {f : Xe} {g : Xa} (ha : DX c X e f) (hr : DAX c X es g) (hs : starEach (e :: es) X.env = (false, eval e X.env) :: starEach es X.env := by rfl) : DAX c X (e :: es) (zaj f g) := by
  refine ⟨PA.imp (zbr ha hr.pa hs) fun σ H Q ⟨Hf0, H0, Hf, ρ, ds, ρ', st, ef, k⟩ => ?_, fun ρ ds ρ' h => ?_⟩
  · obtain ⟨d, r, ρ1, e1, e2, rfl⟩ := zlj ef
    exact ⟨Hf0, H0, Hf, ρ, d, ρ1, st, e1, fun v Hf1 H1 f1 st1 r1 => ⟨Hf0, H0, Hf1, ρ1, r, ρ', st1, e2, fun vs Hf2 H2 f2 st2 r2 => k _ Hf2 H2 (f1.trans f2) st2 (.cons (r1.up f2) r2)⟩⟩
  · obtain ⟨d, r, ρ1, e1, e2, rfl⟩ := zlj h
    simp [hr.len ρ1 r ρ' e2]
theorem znv {f : Xa} {k' : Nat} (h : DAX c X es f) (hz : es.length <= 1000 := by exact Nat.le_of_ble_eq_true rfl) : DX c X (.Tuple es k' pos) (zfn f) := PE.imp (zlg h.pa) fun σ H Q q_ => by
  obtain ⟨Hf0, H0, Hf, ρ, d, ρ', st, ef, k⟩ := q_
  unfold zfn at ef
  cases ed : f ρ with
  | none => rw [ed] at ef; cases ef
  | some q =>
    obtain ⟨ds, ρ1⟩ := q
    rw [ed] at ef
    cases ef
    refine ⟨Hf0, H0, Hf, ρ, ds, _, st, ed, fun vs Hf' H' f1 st1 r => ⟨?_, fun q hq => ?_⟩⟩
    · rw [<- r.length, h.len ρ ds _ ed]
      exact Nat.le_of_lt (zhg hz)
    · exact k _ (upd Hf' q (.tup vs)) (upd H' q (.tup vs)) (f1.trans (zai (st1.sub.free hq))) (st1.step (Ext.new st1.sub hq)) ⟨q, vs, rfl, zan, r.up (zai (st1.sub.free hq))⟩
end
noncomputable def tMX (G : Gc) (i : Nat) (f : Xa) : TA := fun σ H Q => ∃ Hf0 H0 Hf ρ ds ρ' l, zab G Hf0 H0 Hf H σ ρ /\ σ[i]? = some (some (.ref l)) /\ f ρ = some (ds, ρ') /\ ∀ vs Hf' H', zac Hf Hf' -> zab G Hf0 H0 Hf' H' σ ρ' -> zaa G Hf' ds vs -> Q (.ref l :: vs) H'
structure DMX (c : Str -> Addr) (X : Cx) (es : List Expr) (i : Nat) (f : Xa) : Prop where
  pa : PA X es (tMX (Gx c X) i f)
  len : ∀ ρ ds ρ', f ρ = some (ds, ρ') -> ds.length + 1 = es.length
noncomputable def zbd (i : Nat) (m : Addr -> List D -> List D -> List D -> Option (List D × D)) (f : Xa) : Xe := fun ρ => match ρ[i]? with
  | some (.pin _ _) => (f ρ).bind fun p => match p.2[i]? with
    | some (.pin l xs) => (m l [] p.1 xs).map fun q => (q.2, p.2.set i (.pin l q.1))
    | _ => none
  | _ => none
open Classical in
noncomputable def zbz (i : Nat) (m : Addr -> List D -> List D -> List D -> Option (List D × D)) (f : Xa) : Xe := fun ρ => match ρ[i]? with
  | some (.own _) => (f ρ).bind fun p => match p.2[i]? with
    | some (.own xs) => if h : ∃ q, ∀ l, m l [] p.1 xs = some q then some (h.choose.2, p.2.set i (.own h.choose.1)) else none
    | _ => none
  | _ => none
section
variable {c : Str -> Addr} {X : Cx} {k : Nat} {f : Addr} {fd : FuncData} {ps : List Str} {x : Str} {p pos pos' : Pos} {e : Expr} {es : List Expr} {fa : Xa} {i : Nat}
theorem zb4 (i : Nat) {x : Str} {g : Xa} (hr : DAX c X es g) (hN : X.N[i]? = some x := by rfl) (hv : Vis X.env.scope x := by first | exact Or.inl rfl | exact Or.inr (Or.inl rfl) | exact Or.inr (Or.inr rfl)) (hd : (x == ("__debug__" : Str)) = false := by decide)
    (hcd : (x == ("__classdict__" : Str)) = false := by decide) (hs : starEach (.Name x pos :: es) X.env = (false, eval (.Name x pos) X.env) :: starEach es X.env := by rfl) : DMX c X (.Name x pos :: es) i g :=
  ⟨PA.imp (zbr (zc4 hN hv hd hcd) hr.pa hs) fun σ H Q ⟨Hf0, H0, Hf, ρ, ds, ρ', l, st, el, ef, k⟩ => ⟨_, el, Hf0, H0, Hf, ρ, ds, ρ', st, ef, fun vs Hf' H' f1 st1 r => k vs Hf' H' f1 st1 r⟩, fun ρ ds ρ' h => by
    rw [List.length_cons, hr.len ρ ds ρ' h]⟩
theorem zel {m : Addr -> List D -> List D -> List D -> Option (List D × D)} (F : zax X.prog X.w X.K X.mg X.base CX0 k f fd ps (spM (Gx c X) 0 ps.length m)) (hr : zat k X.A) (hg : Gl X x) (hm : X.mg x = some (.ref f)) (hk : PySem.W.keepIn X.K (.ref f) = true) (hb : zbe X.K fd ps []) (ha : DMX c X (e :: es) i fa)
    (hl : (e :: es).length = ps.length := by rfl) (hdb : (x == ("__debug__" : Str)) = false := by decide) (he : starEach (e :: es) X.env = (false, eval e X.env) :: starEach es X.env := by rfl) (hpl : (backTo pos (starEach es X.env)).any (·.1) = false := by rfl) :
    DX c X (.Call (.Name x p) (e :: es) [] pos) (zbd i m fa) := PE.imp (zg4 F hr hg hm hk hb .nil zf5 ha.pa hdb he hpl) fun σ H Q q_ => by
  obtain ⟨Hf0, H0, Hf, ρ, d, ρ', st, ef, kq⟩ := q_
  unfold zbd at ef
  split at ef
  · rename_i l0 xs0 eo0
    cases e1 : fa ρ with
    | none => rw [e1] at ef; cases ef
    | some pp =>
      obtain ⟨ds, ρ1⟩ := pp
      rw [e1, Option.bind_some] at ef
      dsimp only at ef
      split at ef
      · rename_i l xs eo
        cases e2 : m l [] ds xs with
        | none => rw [e2] at ef; cases ef
        | some q =>
          rw [e2] at ef
          cases ef
          obtain ⟨l1, el, _, _, _, _, _, _⟩ := st.ownAt (s := .pin l0 xs0) rfl eo0
          refine ⟨Hf0, H0, Hf, ρ, ds, ρ1, l1, st, el, e1, fun vs Hf' H' f1 st1 r => ?_⟩
          dsimp only
          rw [List.append_nil]
          obtain ⟨l2, el2, h02, hf2, eq2, us2, hu2, rx2⟩ := st1.ownAt (s := .pin l xs) rfl eo
          subst eq2
          rw [el] at el2
          cases el2
          have hn : 0 + 1 + ds.length = ps.length := by
            have := (ha.len ρ ds _ e1).trans hl
            omega
          exact ⟨Hf', [], ds, xs, q.1, q.2, l1, us2, [], vs, rfl, st1.sub, hf2, hu2, rfl, r, rx2, rfl, hn, e2, fun v Hf3 H3 us3 x3 hf3 hu3 rx3 r3 => kq v Hf3 H3 (f1.trans x3.f) (st1.back (s := .pin l1 xs) (s' := .pin l1 q.1) rfl rfl eo el x3 hf3 ⟨rfl, us3, hu3, rx3⟩) r3⟩
      · cases ef
  · cases ef
theorem zfs {m : Addr -> List D -> List D -> List D -> Option (List D × D)} (F : zax X.prog X.w X.K X.mg X.base CX0 k f fd ps (spM (Gx c X) 0 ps.length m)) (hr : zat k X.A) (hg : Gl X x) (hm : X.mg x = some (.ref f)) (hk : PySem.W.keepIn X.K (.ref f) = true) (hb : zbe X.K fd ps []) (ha : DMX c X (e :: es) i fa)
    (hl : (e :: es).length = ps.length := by rfl) (hdb : (x == ("__debug__" : Str)) = false := by decide) (he : starEach (e :: es) X.env = (false, eval e X.env) :: starEach es X.env := by rfl) (hpl : (backTo pos (starEach es X.env)).any (·.1) = false := by rfl) :
    DX c X (.Call (.Name x p) (e :: es) [] pos) (zbz i m fa) := PE.imp (zg4 F hr hg hm hk hb .nil zf5 ha.pa hdb he hpl) fun σ H Q q_ => by
  obtain ⟨Hf0, H0, Hf, ρ, d, ρ', st, ef, kq⟩ := q_
  unfold zbz at ef
  split at ef
  · rename_i xs0 eo0
    cases e1 : fa ρ with
    | none => rw [e1] at ef; cases ef
    | some pp =>
      obtain ⟨ds, ρ1⟩ := pp
      rw [e1, Option.bind_some] at ef
      dsimp only at ef
      split at ef
      · rename_i xs eo
        split at ef
        · rename_i hq
          have e2 := hq.choose_spec
          generalize hq.choose = q at ef e2
          cases ef
          obtain ⟨l1, el, _, _, _, _, _⟩ := st.ownAt (s := .own xs0) rfl eo0
          refine ⟨Hf0, H0, Hf, ρ, ds, ρ1, l1, st, el, e1, fun vs Hf' H' f1 st1 r => ?_⟩
          dsimp only
          rw [List.append_nil]
          obtain ⟨l2, el2, h02, hf2, us2, hu2, rx2⟩ := st1.ownAt (s := .own xs) rfl eo
          rw [el] at el2
          cases el2
          have hn : 0 + 1 + ds.length = ps.length := by
            have := (ha.len ρ ds _ e1).trans hl
            omega
          exact ⟨Hf', [], ds, xs, q.1, q.2, l1, us2, [], vs, rfl, st1.sub, hf2, hu2, rfl, r, rx2, rfl, hn, e2 l1, fun v Hf3 H3 us3 x3 hf3 hu3 rx3 r3 => kq v Hf3 H3 (f1.trans x3.f) (st1.back (s := .own xs) (s' := .own q.1) rfl rfl eo el x3 hf3 ⟨us3, hu3, rx3⟩) r3⟩
        · cases ef
      · cases ef
  · cases ef
end
noncomputable def zdn (i : Nat) (f : Xe) (ρ : List Sl) : Option Fl := (f ρ).map fun p => .nx (p.2.set i (.im p.1))
noncomputable def zfg (i : Nat) (f : Xe) (ρ : List Sl) : Option Fl := match ρ[i]? with
  | some (.own _) => (f ρ).bind fun p => match p.2[i]? with
    | some (.own xs) => if xs.length < 16777216 then some (.nx (p.2.set i (.own (xs ++ [p.1])))) else none
    | _ => none
  | _ => none
noncomputable def zho : D -> D -> Option D
  | .int i, .int j => some (.int (i + j))
  | .str a, .str b => if a.length + b.length <= 16777216 then some (.str (a ++ b)) else none
  | _, _ => none
noncomputable def zfz (i : Nat) (f : Xe) (ρ : List Sl) : Option Fl := match ρ[i]? with
  | some (.im x) => (f ρ).bind fun p => (zho x p.1).map fun z => .nx (p.2.set i (.im z))
  | _ => none
noncomputable def zf2 (t : Xt) (F F' : List Sl -> Option Fl) (ρ : List Sl) : Option Fl := (t ρ).bind fun p => if p.1 then F p.2 else F' p.2
section
variable {c : Str -> Addr} {X : Cx} {st : Stmt} {e a b : Expr} {pos pos' p : Pos} {as bs : List Stmt} {F F' : List Sl -> Option Fl}
theorem zio (i : Nat) {x : Str} {f : Xe} {pos' : Pos} (hN : X.N.Nodup) (he : DX c X e f) (hi : X.N[i]? = some x := by rfl) (hx : Loc X.env.scope x := by first | exact Or.inl rfl | exact Or.inr rfl) (hs : swapsWith e (some (.Name x pos')) pos.line X.env = pure false := by rfl) (hf : X.fn x = true \/ X.env.scope.names.lookup x = some .local := by first | exact .inl rfl | exact .inr rfl) :
    DS c X (.Assign [.Name x pos'] e pos) (zdn i f) := PS.imp (zft hN hi hx he hs hf) fun E σ H q_ => by
  obtain ⟨Hf0, H0, Hf, ρ, o, so, ef, k⟩ := q_
  unfold zdn at ef
  cases e1 : f ρ with
  | none => rw [e1] at ef; cases ef
  | some p =>
    rw [e1] at ef
    cases ef
    exact ⟨Hf0, H0, Hf, ρ, p.1, p.2, so, e1, fun v Hf' H' s so' r => k _ Hf' H' s (so'.setIm r)⟩
theorem zl8 {i : Nat} {f : Xe} (h : PS X st (zfa (tBM X.K "list" zgs (zbt i) (ze4 (tDX (Gx c X) f) zfd)))) : DS c X st (zfg i f) := PS.imp h fun E σ H q_ => by
  obtain ⟨Hf0, H0, Hf, ρ, o, so, ef, k⟩ := q_
  unfold zfg at ef
  split at ef
  · rename_i xs0 es0
    cases e1 : f ρ with
    | none => rw [e1] at ef; cases ef
    | some p =>
      rw [e1, Option.bind_some] at ef
      split at ef
      · rename_i xs es
        split at ef
        · rename_i hl
          cases ef
          obtain ⟨l, e2, h0, hf, vs0, q0, r0⟩ := so.ownAt (s := .own xs0) rfl es0
          refine ⟨_, e2, .inl ⟨rfl, _, SqL.of q0⟩, Hf0, H0, Hf, ρ, p.1, p.2, so, e1, fun v Hf' H' s so' r' => ?_⟩
          obtain ⟨l2, e3, h02, hf2, vs, q, r⟩ := so'.ownAt (s := .own xs) rfl es
          rw [e2] at e3
          cases e3
          exact ⟨l, vs, v, rfl, rfl, q, by rw [sizeLine_eq, <- r.length]; exact hl, k σ Hf' _ s (so'.mutd (s := .own xs) (s' := .own (xs ++ [p.1])) rfl rfl es e2 ⟨vs ++ [v], zan, r.append (.cons r' .nil)⟩)⟩
        · cases ef
      · cases ef
  · cases ef
theorem zue : PIp X .Add (rD (Gx c X) zho) := fun pins s σ H x y v u Q I rx ry ⟨Hf, dx, dy, d, s0, r1, r2, e, k⟩ => by
  cases dx <;> cases dy <;> first | (cases e; done) | skip
  · cases r1
    cases r2
    cases e
    exact zuh pins s σ H _ _ v u Q I rx ry ⟨_, _, rfl, rfl, k _ Hf H (Ext.refl s0) rfl⟩
  · cases r1
    cases r2
    replace e : (if _ then some (D.str _) else none) = some d := e
    split at e
    · rename_i hl
      cases e
      exact zwc pins s σ H _ _ v u Q I rx ry ⟨_, _, rfl, rfl, by rw [sizeLine_eq]; exact hl, k _ Hf H (Ext.refl s0) rfl⟩
    · cases e
theorem zqa (i : Nat) {x : Str} {f : Xe} {pos' : Pos} (hN : X.N.Nodup) (he : DX c X e f) (hi : X.N[i]? = some x := by rfl) (hx : Loc X.env.scope x := by first | exact Or.inl rfl | exact Or.inr rfl) (hf : X.fn x = true \/ X.env.scope.names.lookup x = some .local := by first | exact .inl rfl | exact .inr rfl) :
    DS c X (.AugAssign (.Name x pos') .Add e pos) (zfz i f) := PS.imp (zwl hN hi hx he (zue (c := c)) hf) fun E σ H q_ => by
  obtain ⟨Hf0, H0, Hf, ρ, o, so, ef, k⟩ := q_
  unfold zfz at ef
  split at ef
  · rename_i d es
    cases e1 : f ρ with
    | none => rw [e1] at ef; cases ef
    | some p =>
      rw [e1, Option.bind_some] at ef
      cases e2 : zho d p.1 with
      | none => rw [e2] at ef; cases ef
      | some z =>
        rw [e2] at ef
        cases ef
        obtain ⟨v, ev, w, ew, rw'⟩ := so.slot es
        cases ew
        exact ⟨_, ev, Hf0, H0, Hf, ρ, p.1, p.2, so, e1, fun u Hf' H' s so' r => ⟨Hf', d, p.1, z, so'.sub, rw'.up s, r, e2, fun y Hf2 H2 x2 r2 => k _ Hf2 H2 (s.trans x2.f) ((so'.step x2).setIm r2)⟩⟩
  · cases ef
theorem zv3 {t : Xt} (hc : DTX c X e t) (ha : DSs c X as F) (hb : DSs c X bs F') : DS c X (.If e as bs pos) (zf2 t F F') := PS.imp (zo1 hc ha hb) fun E σ H q_ => by
  obtain ⟨Hf0, H0, Hf, ρ, o, so, ef, k⟩ := q_
  unfold zf2 at ef
  cases e1 : t ρ with
  | none => rw [e1] at ef; cases ef
  | some x =>
    obtain ⟨b, ρ1⟩ := x
    rw [e1, Option.bind_some] at ef
    refine ⟨Hf0, H0, Hf, ρ, b, ρ1, so, e1, fun Hf1 H1 s1 so1 => ?_⟩
    cases b with
    | true => rw [if_pos rfl]; exact ⟨Hf0, H0, Hf1, ρ1, o, so1, ef, k.up s1⟩
    | false => rw [if_neg Bool.false_ne_true]; exact ⟨Hf0, H0, Hf1, ρ1, o, so1, ef, k.up s1⟩
end
noncomputable def mBX (f : Xe) : Xt := fun ρ => (f ρ).bind fun p => match p.1 with
  | .bl b => some (b, p.2)
  | _ => none
noncomputable def mTX (f : List Sl -> Option Bool) : Xt := fun ρ => (f ρ).map fun b => (b, ρ)
noncomputable def zg1 (f g : Xt) : Xt := fun ρ => (f ρ).bind fun p => if p.1 then g p.2 else some (false, p.2)
noncomputable def DWX (c : Str -> Addr) (X : Cx) (e : Expr) (f : Xt) : Prop := PW X e (znn (Gx c X) f)
noncomputable def zcp : D -> D -> Option D
  | .str z, .int i => if 0 <= i /\ i < 2 ^ 63 /\ i < (z.length : Int) then (z.cps[i.toNat]?).map fun ch => .str ⟨#[ch]⟩ else none
  | _, _ => none
noncomputable def zd3 (x y : D) : Option D := match x with
  | .lst ds => ixD ds y
  | .tup ds => ixD ds y
  | _ => none
noncomputable def zdp (f : Xa) : Xa := fun ρ => (f ρ).bind fun p => (zdr p.1).map fun ds => (ds, p.2)
section
variable {c : Str -> Addr} {X : Cx} {e a b tg : Expr} {pos p : Pos}
theorem DT.dtx {f : List Sl -> Option Bool} (h : DT c X e f) : DTX c X e (mTX f) := PT.imp h fun σ H Q q_ => by
  obtain ⟨Hf0, H0, Hf, ρ, bb, ρ', st, ef, k⟩ := q_
  unfold mTX at ef
  cases e1 : f ρ with
  | none => rw [e1] at ef; cases ef
  | some x =>
    rw [e1] at ef
    cases ef
    exact ⟨Hf0, H0, Hf, ρ, _, st, e1, fun Hf' H' x => k Hf' H' x.f (st.step x)⟩
theorem zvs {op : CmpOp} {m : D -> D -> Option D} {f g : Xe} (ho : OpD c X (compareOp op) m) (ha : DX c X a f) (hb : DX c X b g) (hm : behindInMarks op b = false := by first | exact zjk _ | rfl) :
    DTX c X (.Compare a [op] [b] pos) (mBX (mX2 m f g)) := PT.imp (znz ho ha hb hm) fun σ H Q q_ => by
  obtain ⟨Hf0, H0, Hf, ρ, bb, ρ', st, ef, k⟩ := q_
  unfold mBX at ef
  cases e0 : mX2 m f g ρ with
  | none => rw [e0] at ef; cases ef
  | some q =>
    obtain ⟨d, ρ2⟩ := q
    rw [e0, Option.bind_some] at ef
    obtain ⟨x, y, ρ1, e1, e2, e3⟩ := zhl e0
    cases d <;> first | (cases ef; done) | skip
    cases ef
    exact ⟨Hf0, H0, Hf, ρ, x, ρ1, st, e1, fun v Hf1 H1 f1 st1 r1 => ⟨Hf0, H0, Hf1, ρ1, y, _, st1, e2, fun u Hf2 H2 f2 st2 r2 => ⟨Hf2, x, y, _, st2.sub, r1.up f2, r2, e3, fun w Hf3 H3 x3 r3 => ⟨_, r3, k Hf3 H3 ((f1.trans f2).trans x3.f) (st2.step x3)⟩⟩⟩⟩
theorem DWX.dtx {f : Xt} (h : DWX c X e f) : DTX c X e f := PW.pt h
theorem zt4 {f : Xt} (h : DTX c X a f) : DWX c X (.BoolOp .And [a] pos) f := zup h
theorem zq1 {f g : Xt} {zam : List Expr} (h : DTX c X a f) (h' : DWX c X (.BoolOp .And (b :: zam) pos) g) : DWX c X (.BoolOp .And (a :: b :: zam) pos) (zg1 f g) := PW.imp (zt7 h h') fun σ H Q q_ => by
  obtain ⟨Hf0, H0, Hf, ρ, bb, ρ', st, ef, k⟩ := q_
  unfold zg1 at ef
  cases e1 : f ρ with
  | none => rw [e1] at ef; cases ef
  | some x =>
    obtain ⟨x, ρ1⟩ := x
    rw [e1, Option.bind_some] at ef
    refine ⟨Hf0, H0, Hf, ρ, x, ρ1, st, e1, fun Hf1 H1 s1 st1 => ?_⟩
    cases x with
    | true => rw [if_pos rfl]; exact ⟨Hf0, H0, Hf1, ρ1, bb, ρ', st1, ef, fun Hf2 H2 s2 st2 => k Hf2 H2 (s1.trans s2) st2⟩
    | false => cases ef; rw [if_neg Bool.false_ne_true]; exact k Hf1 H1 s1 st1
theorem zop {x y d : D} (h : zcp x y = some d) : ∃ z i ch, x = .str z /\ y = .int i /\ 0 <= i /\ i < 2 ^ 63 /\ i < (z.length : Int) /\ z.cps[i.toNat]? = some ch /\ d = .str ⟨#[ch]⟩ := by
  unfold zcp at h
  split at h
  · rename_i z i
    split at h
    · rename_i hc
      cases e : z.cps[i.toNat]? with
      | none => rw [e] at h; cases h
      | some ch => rw [e] at h; cases h; exact ⟨z, i, ch, rfl, rfl, hc.1, hc.2.1, hc.2.2, e, rfl⟩
    · cases h
  · cases h
theorem zm9 {f g : List Sl -> Option D} (ha : DE c X a f) (hb : DE c X b g) (hs : zk4 b := by exact fun _ _ => rfl) : DE c X (.Subscript a b pos) (m2 zcp f g) := PE.imp (zlu ha hb hs) fun σ H Q q_ => two (m := zcp) (fun vx vy H Q q => by
  obtain ⟨Hf, x, y, d, s0, r1, r2, e, k⟩ := q
  obtain ⟨z, i, ch, rfl, rfl, h0, h1, h2, h3, rfl⟩ := zop e
  exact ⟨z, i, ch, r1, r2, h0, h1, h2, h3, k _ Hf H (Ext.refl s0) rfl⟩) q_
theorem zv9 {f g : Xe} (ha : DX c X a f) (hb : DX c X b g) (hs : zk4 b := by exact fun _ _ => rfl) : DX c X (.Subscript a b pos) (mX2 zcp f g) := PE.imp (zlu ha hb hs) fun σ H Q q_ => by
  obtain ⟨Hf0, H0, Hf, ρ, d, ρ', st, ef, k⟩ := q_
  obtain ⟨x, y, ρ1, e1, e2, e3⟩ := zhl ef
  obtain ⟨z, i, ch, rfl, rfl, h0, h1, h2, h3, rfl⟩ := zop e3
  exact ⟨Hf0, H0, Hf, ρ, _, ρ1, st, e1, fun v Hf1 H1 f1 st1 r1 => ⟨Hf0, H0, Hf1, ρ1, _, ρ', st1, e2, fun u Hf2 H2 f2 st2 r2 => ⟨z, i, ch, r1, r2, h0, h1, h2, h3, k _ Hf2 H2 (f1.trans f2) st2 rfl⟩⟩⟩
theorem zon {f g : Xe} (ha : DX c X a f) (hb : DX c X b g) (hs : zjc b := by exact fun _ _ => rfl) : DX c X (.Subscript a b pos) (mX2 zd3 f g) := PE.imp (zj0 (zku.or zkm) ha hb hs) fun σ H Q q_ => by
  obtain ⟨Hf0, H0, Hf, ρ, d, ρ', st, ef, k⟩ := q_
  obtain ⟨x, y, ρ1, e1, e2, e3⟩ := zhl ef
  refine ⟨Hf0, H0, Hf, ρ, x, ρ1, st, e1, fun v Hf1 H1 f1 st1 r1 => ⟨Hf0, H0, Hf1, ρ1, y, ρ', st1, e2, fun u Hf2 H2 f2 st2 r2 => ?_⟩⟩
  have r1 := r1.up f2
  unfold zd3 at e3
  split at e3
  · rename_i ds
    cases y <;> first | (cases e3; done) | skip
    rename_i n
    cases (show u = V.int n from r2)
    obtain ⟨l, vs, el, q, r⟩ := r1
    subst el
    obtain ⟨v, ev, rv⟩ := zj3 e3 r
    exact .inl ⟨l, vs, n, v, rfl, rfl, SqL.of (st2.sub _ _ q), ev, k v Hf2 H2 (f1.trans f2) st2 rv⟩
  · rename_i ds
    cases y <;> first | (cases e3; done) | skip
    rename_i n
    cases (show u = V.int n from r2)
    obtain ⟨l, vs, el, q, r⟩ := r1
    subst el
    obtain ⟨v, ev, rv⟩ := zj3 e3 r
    exact .inr ⟨l, vs, n, v, rfl, rfl, SqT.of (st2.sub _ _ q), ev, k v Hf2 H2 (f1.trans f2) st2 rv⟩
  · cases e3
theorem zl6 {f : Xa} (hg : Gl X "range") (hm : X.mg "range" = none) (ha : DAX c X [a] f) (hs : starEach [a] X.env = [(false, eval a X.env)] := by rfl) : DXi c X tg (.Call (.Name "range" p) [a] [] pos) (zdp f) :=
  PI.imp (zmc hg hm ha.pa hs) fun σ H R q_ => by
    obtain ⟨Hf0, H0, Hf, ρ, ds, ρ', st, ef, k⟩ := q_
    unfold zdp at ef
    cases e1 : f ρ with
    | none => rw [e1] at ef; cases ef
    | some q =>
      obtain ⟨as, ρ1⟩ := q
      rw [e1, Option.bind_some] at ef
      dsimp only at ef
      cases e2 : zdr as with
      | none => rw [e2] at ef; cases ef
      | some ds' =>
        rw [e2] at ef
        cases ef
        have hl := ha.len ρ as _ e1
        refine ⟨Hf0, H0, Hf, ρ, as, _, st, e1, fun vs Hf' H' s1 st1 r => ?_⟩
        unfold zdr at e2
        split at e2
        · split at e2
          · rename_i j hj
            cases e2
            obtain ⟨v, ev, rv⟩ := r.one
            cases (show v = V.int j from rv)
            exact ⟨j, ev, hj.1, hj.2, k _ Hf' H' s1 st1 znx⟩
          · cases e2
        · cases hl
        · cases e2
end
end L2
namespace L2
open PySem PySem.Spec PyProof.Rows
theorem zli : entryFor table "dict.update.loop" = some Builtin.«dict.update.loop» := entryFor_of_tree (by kernel_rfl)
theorem ziq : plainId "dict.update.loop" = true := by decide +kernel
theorem zvo : typeLookup (.type "list") "keys" = pure none := by rw [typeLookup_type, builtinLookup_eq_fast]; kernel_rfl
noncomputable def zw4 (P : Program) (w : World) (h : Heap) (D it : Addr) (items : Array Value) (ps : List (Key × Value)) : Prop := items.size = ps.length /\ ∀ (i : Nat) (p : Key × Value), ps[i]? = some p -> ∃ t key, items[i]? = some (.ref t) /\ t ≠ D /\ t ≠ it /\ h.IsTuple t #[key, p.2] /\ (zbb P w).is p.1 key = true
theorem zs3 {prog : Program} {w : World} {A : Around} {R : Result -> Shared -> Prop} (hh : A.handled = none) (D it l : Addr) (items : Array Value) (ps : List (Key × Value)) (hDi : D ≠ it) (hDl : D ≠ l) (hil : it ≠ l) (nd : (ps.map (·.1)).Nodup) (hz : ps.length <= 1000) :
    ∀ (n i : Nat) (s : Shared), i + n = ps.length -> zw4 prog w s.heap D it items ps -> s.heap.IsList l items -> s.heap.IsListIter it l i -> s.heap.DictOf (zbb prog w) D (ps.take i) ->
      (∀ h' tk, h'.DictOf (zbb prog w) D ps -> (∀ b o, b ≠ D -> b ≠ it -> s.heap.get? b = some o -> h'.get? b = some o) -> R (.ok (.ret .none)) { s with heap := h', toks := tk }) ->
      codeAny (model prog w) A (.builtin "dict.update.loop" ⟨[.ref D, .ref it, .int i 0, .none], []⟩) R s := by
  intro n
  induction n with
  | zero =>
    intro i s hi pa hl hit hd k
    refine codeAny_builtin zli ?_
    rw [Around.under_plainId ziq]
    unfold Builtin.«dict.update.loop»
    dsimp only
    have hx : items[i]? = none := Array.getElem?_eq_none (by rw [pa.1]; omega)
    refine wpAny_bind (wpAny_pyNext_list_end (A := A.in1) hh hit hl hx fun h' eb => ?_)
    dsimp only
    refine wpAny_bind (wpAny_pure (wpAny_pure ?_))
    have e : ps.take i = ps := List.take_of_length_le (by omega)
    rw [e] at hd
    obtain ⟨od, es, ep, ho, r⟩ := hd
    exact k h' s.toks ⟨od, es, ep, eb D od hDi ho, r⟩ fun b o _ hb eo => eb b o hb eo
  | succ n ih =>
    intro i s hi pa hl hit hd k
    refine codeAny_builtin zli ?_
    rw [Around.under_plainId ziq]
    unfold Builtin.«dict.update.loop»
    dsimp only
    obtain ⟨p, hp⟩ : ∃ p, ps[i]? = some p := ⟨_, List.getElem?_eq_getElem (by omega)⟩
    obtain ⟨t, key, e1, tD, tit, ht, hk⟩ := pa.2 i p hp
    refine wpAny_bind (wpAny_pyNext_list_item hit hl e1 fun h1 it1 sb1 => ?_)
    dsimp only
    have ht1 : h1.IsTuple t #[key, p.2] := by
      obtain ⟨o, eo, r⟩ := ht
      exact ⟨o, (sb1.2 t tit).trans eo, r⟩
    have hd1 : h1.DictOf (zbb prog w) D (ps.take i) := by
      obtain ⟨od, es, ep, ho, r⟩ := hd
      exact ⟨od, es, ep, (sb1.2 D hDi).trans ho, r⟩
    refine wpAny_bind (wpAny_holding (wpAny_bind (wpAny_tryCatch ?_)))
    unfold Builtin.Dict.pairItems
    refine wpAny_bind (wpAny_typeOf (s := { s with heap := h1 }) ht1.typeIs ?_)
    rw [if_pos (by decide)]
    obtain ⟨o, eo, oc, nn, od⟩ := id ht1
    refine wpAny_bind (wpAny_seqItems eo od ?_)
    refine wpAny_pure ?_
    show wpAny _ _ (holding [key, p.2] (dictSet D key p.2)) _ _ _
    refine wpAny_holding (wpAny_dictSet_pairs (kvs := ps.take i) hk hd1 (fun h2 d2 sb2 => ?_) (by rw [List.length_take, sizeLine_eq]; omega))
    have hsplit : ps = ps.take i ++ p :: ps.drop (i + 1) := by
      have h0 : i < ps.length := by omega
      have : ps[i] = p := by rw [List.getElem?_eq_getElem h0] at hp; exact Option.some.inj hp
      rw [<- this, <- List.drop_eq_getElem_cons h0, List.take_append_drop]
    have hst : stored (ps.take i) p.1 p.2 = ps.take (i + 1) := by
      unfold stored
      have hno : ((ps.take i).any fun kv => decide (kv.1 = p.1)) = false := by
        rw [List.any_eq_false]
        intro kv hkv hc
        rw [hsplit, List.map_append, List.map_cons] at nd
        have := (List.nodup_append.mp nd).2.2 kv.1 (List.mem_map.mpr ⟨kv, hkv, rfl⟩) p.1 List.mem_cons_self
        exact this (of_decide_eq_true hc)
      rw [if_neg (by rw [hno]; exact Bool.false_ne_true), List.take_add_one, hp]
      rfl
    rw [hst] at d2
    have ke : ∀ b o, b ≠ D -> b ≠ it -> s.heap.get? b = some o -> h2.get? b = some o := fun b o hb hb' eo => (sb2.2 b hb).trans ((sb1.2 b hb').trans eo)
    refine wpAny_pure ⟨plainId_quiet ziq _, ?_⟩
    refine ih (i + 1) { s with heap := h2, toks := s.toks + 1 } (by omega) ⟨pa.1, fun j q hq => ?_⟩ ?_ ?_ d2 fun h' tk hd' kp => k h' tk hd' fun b o hb hb' eo => kp b o hb hb' (ke b o hb hb' eo)
    · obtain ⟨t', key', f1, f2, f3, ⟨o', eo', r'⟩, f5⟩ := pa.2 j q hq
      exact ⟨t', key', f1, f2, f3, ⟨o', ke t' o' f2 f3 eo', r'⟩, f5⟩
    · obtain ⟨o', eo', r'⟩ := hl
      exact ⟨o', ke l o' (Ne.symm hDl) (Ne.symm hil) eo', r'⟩
    · obtain ⟨o', eo', r'⟩ := it1
      exact ⟨o', (sb2.2 it (Ne.symm hDi)).trans eo', r'⟩
theorem zro {prog : Program} {w : World} {A : Around} {E : Value -> Shared -> Prop} {s : Shared} {l : Addr} {items : Array Value} {Q : Option Value -> Shared -> Prop} (hh : A.handled = none) (hl : PlainL s.heap l items)
    (h : ∀ h' tk, (∀ b o, s.heap.get? b = some o -> h'.get? b = some o) -> Q none { s with heap := h', toks := tk }) : wpAny (model prog w) A (getAttr? (.ref l) "keys") Q E s := by
  obtain ⟨⟨c, dct, dat, sl⟩, k, hx, hc, hd, hdat⟩ := hl
  simp only at hc hdat hd
  subst hc hdat hd
  obtain ⟨hq, gq, dq, tq, oq⟩ := s
  have hT : ∀ tk', (⟨hq, gq, dq, tk', oq⟩ : Shared).TypeIs (.ref l) "list" := fun _ => ⟨_, hx, rfl⟩
  have f1 := sub_AttributeError
  have f3 := PySem.F.slot_list_getattribute.lookup
  have f4 := PySem.F.slot_list_getattribute.bind (.ref l)
  have nohook := am_list_getattr_none
  unfold getAttr?
  unfold getAttrBy?
  unfold getAttrBy
  repeat (any_goals (first | assumption | exact hT _ | ((with_reducible show wpAny _ _ (call (Value.builtin "list.__getattribute__") _ _) _ _ _); refine call_meets PySem.F.slot_list_getattribute (hT _) am_entry_list_getattribute (PySem.F.args_list_getattribute_2 _ _) (meets_getattribute_miss_list l items k sl "keys" _ zvo (by decide)) ⟨hx, hh, fun h' tk' e hx' => ?_⟩) | wp_step))
  obtain ⟨ta, ua, hea⟩ := hx'.there
  show wpAny _ _ (getattributeRaised _ _ _ _ _ _ _) _ _ _; unfold getattributeRaised; repeat any_goals (first | assumption | wp_step)
  exact h _ _ hx'.keeps
theorem zsl {prog : Program} {w : World} {A : Around} {E : Value -> Shared -> Prop} {s : Shared} {l : Addr} {items : Array Value} {ps : List (Key × Value)} {Q : Value -> Shared -> Prop} (hh : A.handled = none) (hl : PlainL s.heap l items)
    (nd : (ps.map (·.1)).Nodup) (hz : ps.length <= 1000) (pa : items.size = ps.length /\ ∀ (i : Nat) (p : Key × Value), ps[i]? = some p -> ∃ t key, items[i]? = some (.ref t) /\ s.heap.IsTuple t #[key, p.2] /\ (zbb prog w).is p.1 key = true)
    (h : ∀ h' tk, h'.DictOf (zbb prog w) s.heap.objs.size ps -> (∀ b o, s.heap.get? b = some o -> h'.get? b = some o) -> Q (.ref s.heap.objs.size) { s with heap := h', toks := tk }) :
    wpAny (model prog w) A (call (.type "dict") [.ref l]) Q E s := by
  refine callType_codes (Q₁ := fun obj s₁ => obj = .ref s.heap.objs.size /\ s₁ = { s with heap := s.heap.push { cls := .type "dict", data := .dict #[] } }) PySem.F.kt_called_dict (PySem.F.kt_typeCall_dict_1 _) PySem.F.entry_dict_init (kt_code_dict_new _ ⟨rfl, rfl⟩) ?_
  rintro obj s₁ ⟨rfl, rfl⟩
  have hnew : (s.heap.push { cls := .type "dict", data := .dict #[] }).DictOf (zbb prog w) s.heap.objs.size [] := Heap.DictOf.new s.heap
  have hl1 : PlainL (s.heap.push { cls := .type "dict", data := .dict #[] }) l items := hl.keeps fun b o e => Heap.get?_push_of_some _ e
  refine ⟨hnew.typeIs, PySem.F.args_dict_init_2 _ _, ?_⟩
  unfold Builtin.«dict.__init__»; refine wpAny_bind ?_; unfold Builtin.Dict.selfAndRest; refine wpAny_bind (wpAny_notOrdered_dict hnew.typeIs ?_)
  show wpAny _ _ (pure (s.heap.objs.size, [Value.ref l])) _ _ _
  refine wpAny_pure ?_
  show wpAny _ _ (Builtin.Dict.updateFrom "dict.__init__" s.heap.objs.size (.ref l) [] .none) _ _ _
  unfold Builtin.Dict.updateFrom; refine wpAny_bind (wpAny_typeOf hl1.isList.typeIs ?_)
  rw [if_pos (by decide)]
  refine wpAny_bind (zro hh hl1 fun h2 tk2 k2 => ?_)
  simp only [Option.isNone_none, if_true]; refine wpAny_bind (wpAny_rule ?_)
  have hl2 : PlainL h2 l items := hl1.keeps k2
  refine wpAny_bind (wpAny_pyIter_list (s := { s with heap := h2, toks := tk2 }) hl2.isList ?_)
  have up : ∀ b o, s.heap.get? b = some o -> h2.get? b = some o := fun b o e => k2 b o (Heap.get?_push_of_some _ e)
  have old : ∀ {b : Addr} {o : Obj}, s.heap.get? b = some o -> b ≠ s.heap.objs.size /\ b ≠ h2.objs.size := fun {b o} e => ⟨Nat.ne_of_lt (Heap.lt_size e), Nat.ne_of_lt (Heap.lt_size (up b o e))⟩
  have hD : s.heap.objs.size ≠ h2.objs.size := by
    obtain ⟨od, es, ep, ho, r⟩ := hnew
    exact Nat.ne_of_lt (Heap.lt_size (k2 _ _ ho))
  obtain ⟨ol, nl, el, rl⟩ := id hl
  refine wpAny_pure ⟨plainId_quiet ziq _, ?_⟩
  refine zs3 (A := A.in1) hh s.heap.objs.size h2.objs.size l items ps hD (Ne.symm (old el).1) (Ne.symm (old el).2) nd hz ps.length 0 _ (Nat.zero_add _) ⟨pa.1, fun i p hp => ?_⟩ ?_ ?_ ?_ fun h' tk hd kp => ?_
  · obtain ⟨t, key, e1, ⟨ot, et, rt⟩, hk⟩ := pa.2 i p hp
    exact ⟨t, key, e1, (old et).1, (old et).2, ⟨ot, Heap.get?_push_of_some _ (up _ _ et), rt⟩, hk⟩
  · exact (hl2.keeps fun b o e => Heap.get?_push_of_some _ e).isList
  · exact ⟨_, Heap.get?_push_size _ rfl, rfl, rfl⟩
  · obtain ⟨od, es, ep, ho, r⟩ := hnew
    exact ⟨od, es, ep, Heap.get?_push_of_some _ (k2 _ _ ho), r⟩
  · exact ⟨rfl, h h' tk hd fun b o e => kp b o (old e).1 (old e).2 (Heap.get?_push_of_some _ (up b o e))⟩
noncomputable def zb9 (K : PySem.W.Frag) (H : Hp) : List V -> List Key -> List V -> Prop
  | [], [], [] => True
  | v :: vs, k :: ks, u :: us => (∃ t, v = .ref t /\ SqT K H t [kV k, u]) /\ zb9 K H vs ks us
  | _, _, _ => False
theorem zb9.len {K : PySem.W.Frag} {H : Hp} : ∀ {vs : List V} {ks : List Key} {us : List V}, zb9 K H vs ks us -> vs.length = ks.length /\ us.length = ks.length
  | [], [], [], _ => ⟨rfl, rfl⟩
  | _ :: _, _ :: _, _ :: _, h => by
    obtain ⟨a, b⟩ := zb9.len h.2
    exact ⟨by rw [List.length_cons, List.length_cons, a], by rw [List.length_cons, List.length_cons, b]⟩
  | [], [], _ :: _, h => h.elim
  | [], _ :: _, _, h => h.elim
  | _ :: _, [], _, h => h.elim
  | _ :: _, _ :: _, [], h => h.elim
theorem zo6 {K : PySem.W.Frag} {H H' : Hp} {a : Addr} {xs : List V} (s : zac H H') (h : SqT K H a xs) : SqT K H' a xs := by
  rcases h with h | h
  · refine .inl ?_
    rcases h with h | ⟨od, h⟩
    · exact .inl (s _ _ h)
    · exact .inr ⟨od, s _ _ h⟩
  · exact .inr h
theorem zb9.up {K : PySem.W.Frag} {H H' : Hp} (s : zac H H') : ∀ {vs : List V} {ks : List Key} {us : List V}, zb9 K H vs ks us -> zb9 K H' vs ks us
  | [], [], [], _ => trivial
  | _ :: _, _ :: _, _ :: _, ⟨⟨t, e, q⟩, h⟩ => ⟨⟨t, e, zo6 s q⟩, zb9.up s h⟩
  | [], [], _ :: _, h => h.elim
  | [], _ :: _, _, h => h.elim
  | _ :: _, [], _, h => h.elim
  | _ :: _, _ :: _, [], h => h.elim
theorem zb9.at {X : Cx} {pins : List (Addr × Obj)} {σ : St} {H : Hp} {s : Shared} (I : Inv X pins σ H s) : ∀ {vs : List V} {ks : List Key} {us : List V} {ws : List Value}, zb9 X.K H vs ks us -> zae vs ws ->
    ∃ ps : List (Key × Value), ps.map (·.1) = ks /\ KV (ks.zip us) ps /\ ws.length = ps.length /\ ∀ (i : Nat) (p : Key × Value), ps[i]? = some p -> ∃ t key, ws[i]? = some (.ref t) /\ s.heap.IsTuple t #[key, p.2] /\ (zbb X.prog X.w).is p.1 key = true
  | [], [], [], ws, _, r => by
    cases r
    exact ⟨[], rfl, .nil, rfl, fun i p h => by simp at h⟩
  | v :: vs, k :: ks, u :: us, ws, h, r => by
    cases r with
    | cons r1 rr =>
      rename_i w1 wr
      obtain ⟨⟨t, rfl, sq⟩, h2⟩ := h
      obtain ⟨ps, p1, p2, p3, p4⟩ := zb9.at I h2 rr
      obtain ⟨its, rv, tp, _⟩ := I.tuple sq
      obtain ⟨key, val, rfl, rk, rw'⟩ := rv.two
      cases (show w1 = Value.ref t from r1)
      refine ⟨(k, val) :: ps, by rw [List.map_cons, p1], .cons ⟨rfl, rw'⟩ p2, by rw [List.length_cons, List.length_cons, p3], fun i p hp => ?_⟩
      cases i with
      | zero =>
        cases hp
        refine ⟨t, key, rfl, tp, ?_⟩
        cases k with
        | inl i => obtain ⟨tk, rfl⟩ := rk; exact zlq _ _ i tk
        | inr x => obtain ⟨tk, rfl⟩ := rk; exact zlr _ _ x tk
      | succ i => exact p4 i p hp
  | [], [], _ :: _, _, h, _ => h.elim
  | [], _ :: _, _, _, h, _ => h.elim
  | _ :: _, [], _, _, h, _ => h.elim
  | _ :: _, _ :: _, [], _, h, _ => h.elim
theorem zsj {X : Cx} (hc : X.calm = true) : zbq X (.type "dict") (fun xs H Q => ∃ a vs ks us, xs = [.ref a] /\ SqL X.K H a vs /\ zb9 X.K H vs ks us /\ ks.Nodup /\ ks.length <= 1000 /\ ∀ p, H p = none -> Q (.ref p) (upd H p (.dK (ks.zip us)))) := by
  rintro pins s σ H xs ws Q I r ⟨a, vs, ks, us, rfl, sq, pv, nd, hl, q⟩
  obtain ⟨_, rfl, r1⟩ := zf0 r
  cases r1
  obtain ⟨its, rv, pl, hz⟩ := I.list sq
  obtain ⟨ps, p1, p2, p3, p4⟩ := pv.at I rv
  have hlp : ps.length = ks.length := by rw [<- p1, List.length_map]
  refine zsl (I.ok.hd hc) pl (by rw [p1]; exact nd) (by omega) ⟨by rw [List.size_toArray]; exact p3, fun i p hp => by obtain ⟨t, key, e, r⟩ := p4 i p hp; exact ⟨t, key, by rw [List.getElem?_toArray]; exact e, r⟩⟩ fun h' tk hd kp => ?_
  refine ⟨.ref _, _, I.laid (t' := tk) kp (Nat.le_refl _) (o := .dK (ks.zip us)) ⟨?_, ?_, ps, p2, hd⟩, rfl, q _ I.fresh⟩
  · rw [List.length_zip, sizeLine_eq]; omega
  · exact beq_eq_false_iff_ne.mpr (Ne.symm (Nat.ne_of_lt I.big))
theorem zwz : bootBuiltins "dict" = some (.type "dict") := by decide +kernel
noncomputable def zdh : List D -> Option (List Key × List D)
  | [] => some ([], [])
  | .tup [x, y] :: ds => (zey x).bind fun k => (zdh ds).map fun r => (k :: r.1, y :: r.2)
  | _ => none
theorem znr {G : Gc} {H : Hp} : ∀ {ds : List D} {vs : List V} {r : List Key × List D}, zdh ds = some r -> zaa G H ds vs -> ∃ us, zb9 G.K H vs r.1 us /\ zaa G H r.2 us
  | [], vs, r, e, rs => by
    cases e
    cases (show vs = [] from rs)
    exact ⟨[], trivial, rfl⟩
  | d :: ds, vs, r, e, rs => by
    obtain ⟨v, vr, rfl, rv, rr⟩ := rs
    unfold zdh at e
    split at e
    · rename_i h; cases h
    · rename_i x y ds' h
      cases h
      cases ek : zey x with
      | none => rw [ek] at e; cases e
      | some k =>
        rw [ek, Option.bind_some] at e
        cases ep : zdh ds with
        | none => rw [ep] at e; cases e
        | some q =>
          rw [ep] at e
          cases e
          obtain ⟨us, h1, h2⟩ := znr ep rr
          obtain ⟨t, ws, rfl, ht, rw'⟩ := rv
          obtain ⟨a, _, rfl, ra, b, _, rfl, rb, rn⟩ := rw'
          cases (show _ = [] from rn)
          rw [zmg ek ra] at ht
          exact ⟨b :: us, ⟨⟨t, rfl, SqT.of ht⟩, h1⟩, .cons rb h2⟩
    · cases e
noncomputable def zh6 (i : Nat) (f : List Sl -> Option D) (ρ : List Sl) : Option Fl := (f ρ).bind fun d => (lsD d).bind fun ds => (zdh ds).bind fun r => if r.1.Nodup /\ r.1.length <= 1000 then some (.nx (ρ.set i (.ownd r.1 r.2))) else none
section
variable {c : Str -> Addr} {X : Cx} {e : Expr} {p pos pos' spos : Pos}
theorem zr8 (i : Nat) {x : Str} {f : List Sl -> Option D} (hc : X.calm = true) (hN : X.N.Nodup) (hg : Gl X "dict") (hm : X.mg "dict" = none) (he : DE c X e f) (hi : X.N[i]? = some x := by rfl) (hx : Loc X.env.scope x := by first | exact Or.inl rfl | exact Or.inr rfl) (hst : starEach [e] X.env = (false, eval e X.env) :: starEach [] X.env := by rfl)
    (hs : swapsWith (.Call (.Name "dict" p) [e] [] pos) (some (.Name x pos')) spos.line X.env = pure false := by rfl) (hf : X.fn x = true \/ X.env.scope.names.lookup x = some .local := by first | exact .inl rfl | exact .inr rfl) :
    DS c X (.Assign [.Name x pos'] (.Call (.Name "dict" p) [e] [] pos) spos) (zh6 i f) := PS.imp (zft hN hi hx (zmj (zsj hc) hg hm zwz (zbr he zby hst) (by decide) (by decide) hst rfl) hs hf) fun E σ H q_ => by
  obtain ⟨Hf0, H0, Hf, ρ, o, so, ef, k⟩ := q_
  unfold zh6 at ef
  cases e1 : f ρ with
  | none => rw [e1] at ef; cases ef
  | some d =>
    rw [e1, Option.bind_some] at ef
    cases e2 : lsD d with
    | none => rw [e2] at ef; cases ef
    | some ds =>
      rw [e2, Option.bind_some] at ef
      cases e3 : zdh ds with
      | none => rw [e3] at ef; cases ef
      | some r =>
        rw [e3, Option.bind_some] at ef
        split at ef
        · rename_i hcond
          cases ef
          refine ⟨Hf0, H0, Hf, ρ, d, so, e1, fun v Hf' H' x1 rv => ?_⟩
          obtain ⟨a, vs, rfl, sq, rs⟩ := zjv e2 rv
          obtain ⟨us, pv, ru⟩ := znr e3 rs
          refine ⟨a, vs, r.1, us, rfl, x1.s.seq sq, pv.up x1.s, hcond.1, hcond.2, fun q hq => ?_⟩
          have so' := so.step x1
          exact k _ Hf' _ x1.f (so'.setOwn (i := i) (l := q) (s := .ownd r.1 r.2) rfl (Ext.grow so'.sub (zai hq)) hq (so'.sub.free hq) ⟨us, zan, pv.len.2.symm, ru⟩)
        · cases ef
end
end L2
namespace L2
open PySem PySem.Spec PyProof.Rows
noncomputable def zgx (i : Nat) (f : List Sl -> Option O) (ρ : List Sl) : Option Fl := (f ρ).bind fun o => match o, ρ[i]? with
  | .lst ps, some (.deep (.lst os)) => if os.length + ps.length <= 16777216 then some (.nx (ρ.set i (.deep (.lst (os ++ ps))))) else none
  | _, _ => none
noncomputable def zgm (i j : Nat) (ρ : List Sl) : Option Fl := match ρ[j]? with
  | some (.deep o) => some (.nx ((ρ.set j .no).set i (.deep o)))
  | _ => none
section
variable {c : Str -> Addr} {X : Cx} {st : Stmt}
theorem zsc {i : Nat} {f : List Sl -> Option O} (h : PS X st (zfa (tBM X.K "list" zoq (zbt i) (ze4 (tDZ (Gx c X) true f) zfd)))) : DS c X st (zgx i f) := PS.imp h fun E σ H q_ => by
  obtain ⟨Hf0, H0, Hf, ρ, o, so, ef, k⟩ := q_
  unfold zgx at ef
  cases e1 : f ρ with
  | none => rw [e1] at ef; cases ef
  | some t =>
    rw [e1, Option.bind_some] at ef
    split at ef
    · rename_i ps os es
      split at ef
      · rename_i hl
        cases ef
        obtain ⟨v, e2, u, fp, e3, r, n, z⟩ := so.slot es
        subst e3
        obtain ⟨l, vs, fs, el, q, rs, efp⟩ := id r
        subst el efp
        refine ⟨_, e2, .inl ⟨rfl, _, SqL.of q⟩, Hf0, H0, Hf, ρ, _, so, e1, fun w gp Hf' H' x r' y => ?_⟩
        have y : Fre H Hf' gp := y
        obtain ⟨b, us, gs, eb, qb, rb, egp⟩ := r'
        subst eb egp
        have q' := x.h _ _ q
        have inG : ∀ {a : Addr}, a ∈ gs -> a ∈ b :: gs := fun h => List.mem_cons_of_mem _ h
        have lg : l ∉ gs := fun hg => by
          have := (y.2 l (inG hg)).1
          rw [q] at this
          cases this
        have lf : l ∉ fs := (List.nodup_cons.mp n).1
        have held := OTs.memM os vs fs rs
        have apart : ∀ a ∈ fs, a ∈ gs -> False := fun a ha hg => by
          obtain ⟨u, hu, _⟩ := held a ha
          rw [(y.2 a (inG hg)).1] at hu
          cases hu
        have o1 : OTs (Gx c X) Hf' (upd H' l (.lst (vs ++ us))) os vs fs := OTs.frameM x.f os vs fs rs fun b' u hb hm => by
          rw [zag (fun e => by
            subst e
            rw [q] at hb
            cases hb
            rcases hm with hm | hm
            · cases hm
            · exact lf hm)]
          exact x.h b' u hb
        have o2 : OTs (Gx c X) Hf' (upd H' l (.lst (vs ++ us))) ps us gs := OTs.frameM (zac.refl _) ps us gs rb fun b' u hb hm => by
          rw [zag (fun e => by
            subst e
            rw [q'] at hb
            cases hb
            rcases hm with hm | hm
            · cases hm
            · exact lg hm)]
          exact hb
        have zz : Fre H0 Hf' (l :: fs) := Fre.step (H := H) ⟨n, z⟩ (fun a ha => by
          rcases List.mem_cons.mp ha with e | e
          · subst e; exact ⟨_, q, rfl⟩
          · exact held a e) x
        refine ⟨l, b, vs, us, rfl, rfl, q', qb, by rw [sizeLine_eq, <- rs.length, <- rb.length]; exact hl, k σ Hf' _ x.f (so.chgX x es e2 (fun b' u hb => ?_) ⟨.ref l, l :: (fs ++ gs), rfl, ⟨l, vs ++ us, fs ++ gs, rfl, zan, o1.append o2, rfl⟩, ?_, ?_⟩ fun a p => ?_)⟩
        · by_cases hb' : b' = l
          · subst hb'; exact .inl ⟨_, r, List.mem_cons_self⟩
          · exact .inr (by rw [zag hb']; exact hb)
        · refine List.nodup_cons.mpr ⟨fun hm => (List.mem_append.mp hm).elim lf lg, List.nodup_append.mpr ⟨(List.nodup_cons.mp n).2, (List.nodup_cons.mp y.1).2, fun a ha b' hb e => by subst e; exact apart a ha hb⟩⟩
        · intro a ha
          rcases List.mem_cons.mp ha with e | e
          · subst e; exact zz.2 a List.mem_cons_self
          · rcases List.mem_append.mp e with e | e
            · exact zz.2 a (List.mem_cons_of_mem _ e)
            · exact ⟨so.ext.h.free (y.2 a (inG e)).1, (y.2 a (inG e)).2⟩
        · obtain ⟨fp', r2, ha⟩ := p
          obtain ⟨l2, vs2, fs2, el2, q2, rs2, ef2⟩ := r2
          cases el2
          rw [zan] at q2
          cases q2
          have same := OTs.funM _ _ _ _ (o1.append o2) rs2
          subst ef2
          subst same
          rcases List.mem_cons.mp ha with e | e
          · subst e; exact .inl ⟨_, r, List.mem_cons_self⟩
          · rcases List.mem_append.mp e with e | e
            · exact .inl ⟨_, r, List.mem_cons_of_mem _ e⟩
            · exact .inr (y.2 a (inG e)).1
      · cases ef
    · cases ef
theorem zpj (i j : Nat) {x y : Str} {pos pos' p' : Pos} (hN : X.N.Nodup) (hj : X.N[j]? = some y := by rfl) (hi : X.N[i]? = some x := by rfl) (hv : Vis X.env.scope y := by first | exact Or.inl rfl | exact Or.inr (Or.inl rfl) | exact Or.inr (Or.inr rfl)) (hd : (y == ("__debug__" : Str)) = false := by decide)
    (hcd : (y == ("__classdict__" : Str)) = false := by decide) (hx : Loc X.env.scope x := by first | exact Or.inl rfl | exact Or.inr rfl) (hs : swapsWith (.Name y pos) (some (.Name x pos')) p'.line X.env = pure false := by rfl) (hf : X.fn x = true \/ X.env.scope.names.lookup x = some .local := by first | exact .inl rfl | exact .inr rfl) :
    DS c X (.Assign [.Name x pos'] (.Name y pos) p') (zgm i j) := PS.imp (zft hN hi hx (zc4 hj hv hd hcd) hs hf) fun E σ H q_ => by
  obtain ⟨Hf0, H0, Hf, ρ, o, so, ef, k⟩ := q_
  unfold zgm at ef
  split at ef
  · rename_i t es
    cases ef
    obtain ⟨v, e2, u, fp, e3, r, n, z⟩ := so.slot es
    subst e3
    refine ⟨_, e2, k _ Hf H (zac.refl _) ?_⟩
    have s1 : zab (Gx c X) Hf0 H0 Hf H σ (ρ.set j .no) := so.chg es e2 (fun b u hb => .inr hb) trivial fun a p => (p.calm rfl).elim
    exact s1.hand (j := i) (u := u) (s := .deep t) ⟨u, fp, rfl, r, n, z⟩ fun a p m t' w b cc pp => by
      rcases zao b with ⟨_, e', _⟩ | ⟨ne, b⟩
      · subst e'; exact pp.calm rfl
      · exact ne (so.dj m j t' (.deep t) w _ a b es cc e2 pp p)
  · cases ef
end
theorem zrh {i : Nat} {f : List Sl -> Option O} {ρ : List Sl} {os ps : List O} {K : Fl -> Prop} (h : f ρ = some (.lst ps)) (h' : ρ[i]? = some (.deep (.lst os))) (hl : os.length + ps.length <= 16777216) (k : K (.nx (ρ.set i (.deep (.lst (os ++ ps)))))) : wp (zgx i f) ρ K := ⟨_, by
  unfold zgx
  rw [h, Option.bind_some, h']
  exact if_pos hl, k⟩
theorem zqp {i j : Nat} {ρ : List Sl} {o : O} {K : Fl -> Prop} (h : ρ[j]? = some (.deep o)) (k : K (.nx ((ρ.set j .no).set i (.deep o)))) : wp (zgm i j) ρ K := ⟨_, by unfold zgm; rw [h], k⟩
end L2
namespace L2
open PySem PySem.Spec PyProof.Rows
noncomputable def zgf (i k : Nat) (f : List Sl -> Option D) (ρ : List Sl) : Option Fl := (f ρ).bind fun d => match ρ[i]? with
  | some (.deep (.lst os)) => (os[k]?).bind fun o => (o.appd d).map fun o' => .nx (ρ.set i (.deep (.lst (os.set k o'))))
  | _ => none
section
variable {c : Str -> Addr} {X : Cx} {st : Stmt}
theorem zvl {i k : Nat} {f : List Sl -> Option D} (h : PS X st (zfa (tBM X.K "list" zgs (tOp (fun x y H Q => zls X.K x y H Q \/ zl2 X.K x y H Q) (zbt i) (tC (.int k))) (ze4 (tD (Gx c X) f) zfd)))) : DS c X st (zgf i k f) := PS.imp h fun E σ H q_ => by
  obtain ⟨Hf0, H0, Hf, ρ, o, so, ef, kq⟩ := q_
  unfold zgf at ef
  cases e1 : f ρ with
  | none => rw [e1] at ef; cases ef
  | some d =>
    rw [e1, Option.bind_some] at ef
    split at ef
    · rename_i os es
      cases ek : os[k]? with
      | none => rw [ek] at ef; cases ef
      | some ok =>
        rw [ek, Option.bind_some] at ef
        cases ea : ok.appd d with
        | none => rw [ea] at ef; cases ef
        | some o' =>
          rw [ea] at ef
          cases ef
          obtain ⟨v, e2, u, fp, e3, r, n, z⟩ := so.slot es
          subst e3
          obtain ⟨p, vs, fs, ep, hp, rs, efp⟩ := id r
          subst ep efp
          have nfs := (List.nodup_cons.mp n).2
          obtain ⟨w, fk, ew, hw, hm⟩ := rs.at ek
          obtain ⟨l, us, el, ql, hz, lm, next⟩ := zry ea hw
          subst el
          have hi : atI vs (k : Int) = some (.ref l) := by
            have hk : k < vs.length := (List.getElem?_eq_some_iff.mp ew).1
            unfold atI ixN
            rw [if_pos (Int.natCast_nonneg k), if_pos (by omega)]
            simpa using ew
          refine ⟨_, e2, .inl ⟨p, vs, k, _, rfl, rfl, SqL.of hp, hi, .inl ⟨rfl, _, SqL.of ql⟩, Hf0, H0, Hf, ρ, d, so, e1, fun w' Hf' H' x r' => ?_⟩⟩
          have q' := x.h _ _ ql
          have pl : p ≠ l := fun z => (List.nodup_cons.mp n).1 (by rw [z]; exact hm l lm)
          have k2 : ∀ b u, b ≠ l -> H b = some u -> upd H' l (.lst (us ++ [w'])) b = some u := fun b u hb e => by rw [zag hb]; exact x.h b u e
          have new : OTs (Gx c X) Hf' (upd H' l (.lst (us ++ [w']))) (os.set k o') vs fs := OTs.chgAt x.f ⟨_, ql, rfl⟩ k2 rs nfs ek fun v fk' ev hv => by
            rw [ew] at ev
            cases ev
            have same := OT.funM ok _ fk fk' hw hv
            subst same
            exact ⟨lm, next Hf' _ w' (OTs.nodupAt rs nfs ek ew hw) x.f k2 zan r'⟩
          have held := OTs.memM os vs fs rs
          refine ⟨l, us, w', rfl, rfl, q', by rw [sizeLine_eq]; exact hz, kq σ Hf' _ x.f (so.chgX x es e2 (fun b u hb => ?_) ⟨_, p :: fs, rfl, ⟨p, vs, fs, rfl, k2 p _ pl hp, new, rfl⟩, n, fun a ha => ?_⟩ fun a pp => ?_)⟩
          · by_cases hb' : b = l
            · subst hb'; exact .inl ⟨_, r, List.mem_cons_of_mem _ (hm b lm)⟩
            · exact .inr (by rw [zag hb']; exact hb)
          · refine ⟨(z a ha).1, ?_⟩
            rcases List.mem_cons.mp ha with e | e
            · subst e
              rw [x.n a _ hp rfl]
              exact (z a ha).2
            · obtain ⟨u, hu, ht⟩ := held a e
              rw [x.n a u hu ht]
              exact (z a ha).2
          · obtain ⟨fp', r2, ha⟩ := pp
            have same := OT.funM (.lst (os.set k o')) _ _ _ ⟨p, vs, fs, rfl, k2 p _ pl hp, new, rfl⟩ r2
            subst same
            exact .inl ⟨p :: fs, r, ha⟩
    · cases ef
noncomputable def zi5 : List D -> Option D
  | [.int i, .int j] => if 0 < j /\ j < 1073741824 then some (.tup [.int (i / j), .int (i % j)]) else none
  | _ => none
theorem zpg : bootBuiltins "divmod" = some (.builtin "divmod") := by decide +kernel
theorem zrp {a b : Expr} {fa : List Sl -> Option (List D)} {p pos : Pos} (hg : Gl X "divmod") (hm : X.mg "divmod" = none) (ha : DA c X [a, b] fa) (he : starEach [a, b] X.env = (false, eval a X.env) :: starEach [b] X.env := by rfl) (hpl : (backTo pos (starEach [b] X.env)).any (·.1) = false := by rfl) :
    DE c X (.Call (.Name "divmod" p) [a, b] [] pos) (za4 zi5 fa) := PE.imp (zi9 zqb hg hm zpg ha.pa (by decide) (by decide) he hpl) fun σ H Q q_ => by
  obtain ⟨Hf0, H0, Hf, ρ, d, st, ef, k⟩ := q_
  obtain ⟨ds, e1, e2⟩ := zjb ef
  refine ⟨Hf0, H0, Hf, ρ, ds, st, e1, fun vs Hf' H' x r => ?_⟩
  unfold zi5 at e2
  split at e2
  · rename_i i j
    split at e2
    · rename_i hc
      cases e2
      obtain ⟨v1, _, rfl, r1, v2, _, rfl, r2, rn⟩ := r
      cases (show _ = [] from rn)
      cases (show v1 = V.int i from r1)
      cases (show v2 = V.int j from r2)
      exact ⟨i, j, rfl, hc, fun q hq => k _ (upd Hf' q (.tup _)) _ (x.trans (Ext.new x.s hq)) ⟨q, _, rfl, zan, .cons rfl (.cons rfl .nil)⟩⟩
    · cases e2
  · cases e2
end
theorem zs4 {i k : Nat} {f : List Sl -> Option D} {ρ : List Sl} {d : D} {os : List O} {o o' : O} {K : Fl -> Prop} (h : f ρ = some d) (h' : ρ[i]? = some (.deep (.lst os))) (hk : os[k]? = some o) (ha : o.appd d = some o') (q : K (.nx (ρ.set i (.deep (.lst (os.set k o')))))) : wp (zgf i k f) ρ K := ⟨_, by
  unfold zgf
  rw [h, Option.bind_some, h']
  show (os[k]?).bind _ = _
  rw [hk, Option.bind_some, ha]
  rfl, q⟩
end L2
namespace L2
open PySem PySem.Spec PyProof.Rows
noncomputable def Itd (lo : Int) (n : Nat) : It := ⟨fun i _ => i < n, fun i H x H' => H' = H /\ x = .int (lo - i), fun i _ => n <= i⟩
theorem ztt {P : Program} {w : World} {K : PySem.W.Frag} {tg : Expr} (it : Addr) (lo : Int) (n : Nat) : zef P w K tg (Itd lo n) [it] it (fun i h => IsRangeIter h it (lo + (i : Nat) * (-1)) ((n : Int) - (i : Nat)) (-1)) where
  mem := List.mem_singleton.mpr rfl
  obj := fun i h st b hb => by
    cases List.mem_singleton.mp hb
    exact ⟨_, st, fun v z => by
      have z' : Data.fields _ = Data.cell v := z
      cases z'⟩
  keep := fun i h h' st k => k it (List.mem_singleton.mpr rfl) _ st
  item := by
    intro X eP ew eK cm i pins s σ H E I hf st hg
    subst eP ew eK
    obtain ⟨f0, f1, f2, f3, f4, f5⟩ := hf it (List.mem_singleton.mpr rfl)
    have W := Walks.range (prog := X.prog) (w := X.w) (I.ok.hd cm) it lo (-1) n
    refine W.item i s _ _ hg st fun v h' tk hv st' kk => ?_
    obtain ⟨t, rfl⟩ := hv
    have I1 : Inv X pins σ H { s with heap := h', toks := tk } := I.turned (fun b o hb e => kk b o (by simpa using hb) e) f0 f1 f3 f4 f5
    refine ⟨_, rfl, zhp (s := { s with heap := h', toks := tk }) (n := "range_iterator") st' rfl rfl (by decide) ⟨.int (lo - i), H, I1, ⟨t, ?_⟩, ⟨rfl, rfl⟩, st', fun b hb => (hf b hb).1⟩⟩
    congr 1
    omega
  done := by
    intro X eP ew eK cm i pins s σ H E I hf st hg
    subst eP ew eK
    obtain ⟨f0, f1, f2, f3, f4, f5⟩ := hf it (List.mem_singleton.mpr rfl)
    exact wpAny_pyNext_range_end (I.ok.hd cm) st (by have : n <= i := hg; omega) fun h' eb => ⟨rfl, I.turned (t' := s.toks) (fun b o hb e => eb b o hb e) f0 f1 f3 f4 f5⟩
  self := fun _ _ _ _ _ st h => wpAny_pyIter_rangeiter st h
theorem zn8 (a b : Int) : Builtin.Range.rangeSize a b (-1) = if b < a then a - b else 0 := by
  unfold Builtin.Range.rangeSize
  rw [if_neg (by decide)]
  simp only [Int.neg_neg, Int.ediv_one]
  split <;> omega
theorem zs9 {a b : Int} (ha : -(2 ^ 62) <= a) (ha' : a < 2 ^ 62) (hb : -(2 ^ 62) <= b) (hb' : b < 2 ^ 62) : Builtin.Range.small a b (-1) = true := by
  unfold Builtin.Range.small
  rw [zn8]
  simp only [Builtin.Range.rangeFitsLong, Bool.and_eq_true, Bool.or_eq_true, decide_eq_true_eq, beq_iff_eq, show ¬ ((-1 : Int) > 0) by decide, if_false]
  split <;> omega
section
variable {c : Str -> Addr} {X : Cx} {tg a b d : Expr} {p pos : Pos}
theorem zq6 {ta : TA} (hg : Gl X "range") (hm : X.mg "range" = none) (ha : PA X [a, b, d] ta) (hs : starEach [a, b, d] X.env = [(false, eval a X.env), (false, eval b X.env), (false, eval d X.env)] := by rfl) (hs2 : starEach [b, d] X.env = [(false, eval b X.env), (false, eval d X.env)] := by rfl) :
    PI X tg (.Call (.Name "range" p) [a, b, d] [] pos) (fun σ H R => ta σ H fun vs H1 => ∃ i j : Int, vs = [.int i, .int j, .int (-1)] /\ (-(2 ^ 62) <= i /\ i < 2 ^ 62 /\ -(2 ^ 62) <= j /\ j < 2 ^ 62) /\ R (Itd i (i - j).toNat) H1) := by
  intro pins s σ H R I h
  refine Call_ (zfm I hg hm boot_range (PyProof.Rows.callWith_type1 (thn (ha pos pins s σ H _ I h) fun us s1 ⟨vs, H1, I1, r1, q1⟩ => ?_) (by rw [hs, hs2]) (by rw [hs2]; rfl)))
  obtain ⟨i, j, rfl, ⟨b1, b2, b3, b4⟩, q⟩ := q1
  cases r1 with
  | cons x1 r2 =>
    cases r2 with
    | cons x2 r3 =>
      cases r3 with
      | cons x3 r4 =>
        cases r4
        obtain ⟨t1, rfl⟩ := x1
        obtain ⟨t2, rfl⟩ := x2
        obtain ⟨t3, rfl⟩ := x3
        refine PySem.call_range_3 (by decide) ?_ (.inl (PyProof.noPylong_small (by decide)))
        refine wpAny_pyIter_range (IsRange.new ..) (zs9 b1 b2 b3 b4) ?_
        have I2 : Inv X pins σ H1 { s1 with heap := s1.heap.push { cls := .type "range", data := .fields #[.int i t1, .int j t2, .int (-1) t3] } } := I1.kept (t' := s1.toks) fun b o e => Heap.get?_push_of_some _ e
        refine ⟨_, [_], _, _, H1, rfl, I2.kept (t' := s1.toks) fun b o e => Heap.get?_push_of_some _ e, ztt _ i (i - j).toNat, ?_, fun b hb => ?_, q⟩
        · have e1 : i + ((0 : Nat) : Int) * (-1) = i := by omega
          have e2 : (((i - j).toNat : Nat) : Int) - ((0 : Nat) : Int) = Builtin.Range.rangeSize i j (-1) := by rw [zn8]; split <;> omega
          show IsRangeIter _ _ (i + ((0 : Nat) : Int) * (-1)) ((((i - j).toNat : Nat) : Int) - ((0 : Nat) : Int)) (-1)
          rw [e1, e2]
          exact Heap.get?_push_size _ rfl
        · cases List.mem_singleton.mp hb
          exact I2.fpOk Nat.le.refl (I2.hok.fresh Nat.le.refl)
noncomputable def zfh (lo : Int) (n : Nat) : List D := (List.range n).map fun (i : Nat) => .int (lo - i)
noncomputable def zf6 (f : List Sl -> Option (List D)) (ρ : List Sl) : Option (List D) := (f ρ).bind fun ds => match ds with
  | [.int i, .int j, .int k] => if k = -1 /\ (-(2 ^ 62) <= i /\ i < 2 ^ 62 /\ -(2 ^ 62) <= j /\ j < 2 ^ 62) then some (zfh i (i - j).toNat) else none
  | _ => none
theorem zuo {G : Gc} {Hf : Hp} {lo : Int} {n : Nat} : zd1 G Hf (Itd lo n) (zfh lo n) := fun Hf' H' f s i => by
  refine ⟨fun d ed => ?_, fun ei => ?_⟩
  · unfold zfh at ed
    rw [List.getElem?_map] at ed
    cases e : (List.range n)[i]? with
    | none => rw [e] at ed; cases ed
    | some j =>
      rw [e] at ed
      obtain ⟨hi, ej⟩ := List.getElem?_eq_some_iff.mp e
      rw [List.length_range] at hi
      rw [List.getElem_range] at ej
      subst ej
      cases ed
      exact ⟨hi, fun x H2 ⟨e2, y⟩ => by subst e2; exact ⟨Hf', Ext.refl s, y⟩⟩
  · unfold zfh at ei
    rw [List.length_map, List.length_range] at ei
    exact Nat.le_of_eq ei.symm
theorem zpz {f : List Sl -> Option (List D)} (hg : Gl X "range") (hm : X.mg "range" = none) (ha : DA c X [a, b, d] f) (hs : starEach [a, b, d] X.env = [(false, eval a X.env), (false, eval b X.env), (false, eval d X.env)] := by rfl) (hs2 : starEach [b, d] X.env = [(false, eval b X.env), (false, eval d X.env)] := by rfl) : DI c X tg (.Call (.Name "range" p) [a, b, d] [] pos) (zf6 f) :=
  PI.imp (zq6 hg hm ha.pa hs hs2) fun σ H R q_ => by
    obtain ⟨Hf0, H0, Hf, ρ, rs, st, ef, k⟩ := q_
    unfold zf6 at ef
    cases e1 : f ρ with
    | none => rw [e1] at ef; cases ef
    | some ds =>
      rw [e1, Option.bind_some] at ef
      split at ef
      · rename_i i j kk
        split at ef
        · rename_i hc
          cases ef
          obtain ⟨rfl, hc⟩ := hc
          refine ⟨Hf0, H0, Hf, ρ, _, st, e1, fun vs Hf' H' x r => ?_⟩
          obtain ⟨v1, _, rfl, r1, v2, _, rfl, r2, v3, _, rfl, r3, rn⟩ := r
          cases (show _ = [] from rn)
          cases (show v1 = V.int i from r1)
          cases (show v2 = V.int j from r2)
          cases (show v3 = V.int (-1) from r3)
          exact ⟨i, j, rfl, hc, k _ Hf' H' x zuo⟩
        · cases ef
      · cases ef
end
end L2
namespace N_k81
open PySem PySem.Spec PyProof.Rows L2
noncomputable def top (i : Nat) : Stmt := PySem.Challenge.pw_standstill_k81_ways.main.body.getD i (.Pass ⟨0, 0, 0, 0⟩)
noncomputable abbrev s_4 : Stmt := top 1
noncomputable abbrev s_0 : Stmt := top 3
noncomputable abbrev s_6 : Stmt := top 4
noncomputable abbrev s_2 : Stmt := top 5
noncomputable abbrev s_5 : Stmt := top 6
noncomputable abbrev s_7 : Stmt := top 7
noncomputable abbrev s_3 : Stmt := top 8
noncomputable abbrev s_1 : Stmt := top 9
theorem zdo : zb3 ["pairs", "kinds", "names_of", "found", "variable", "kind", "longer", "way"] ["pairs", "kinds"] (zas s_4) := ⟨rfl, rfl, rfl, by decide +kernel, rfl, by decide +kernel, by decide +kernel⟩
theorem ztm : zb3 ["_law_state", "_law_many"] ["_law_state", "_law_many"] (zas s_0) := ⟨rfl, rfl, rfl, by decide +kernel, rfl, by decide +kernel, by decide +kernel⟩
theorem zih : zb3 ["_law_script", "_law_seed_here", "_law_cell"] ["_law_script"] (zas s_6) := ⟨rfl, rfl, rfl, by decide +kernel, rfl, by decide +kernel, by decide +kernel⟩
theorem zhm : zb3 ["_law_state", "_law_many", "_law_span", "_law_word", "_law_k"] ["_law_state", "_law_many", "_law_span"] (zas s_2) := ⟨rfl, rfl, rfl, by decide +kernel, rfl, by decide +kernel, by decide +kernel⟩
theorem ze2 : zb3 ["_law_state", "_law_most", "_law_kinds_here", "_law_k", "_law_names", "_law_j", "_law_name"] ["_law_state", "_law_most"] (zas s_5) := ⟨rfl, rfl, rfl, by decide +kernel, rfl, by decide +kernel, by decide +kernel⟩
theorem zun : zb3 ["_law_kinds_here"] ["_law_kinds_here"] (zas s_7) := ⟨rfl, rfl, rfl, by decide +kernel, rfl, by decide +kernel, by decide +kernel⟩
theorem zdl : zb3 ["_law_found", "_law_sizes", "_law_total", "_law_names", "_law_number", "_law_way", "_law_at", "_law_figure"] ["_law_found", "_law_sizes"] (zas s_3) := ⟨rfl, rfl, rfl, by decide +kernel, rfl, by decide +kernel, by decide +kernel⟩
theorem zb8 : zb3 ["_law_script", "_law_state", "_law_many", "_law_kinds_here", "_law_pairs", "_law_sizes", "_law_k", "_law_kind", "_law_handed", "_law_asked", "_law_found", "_law_other"] ["_law_script"] (zas s_1) := ⟨rfl, rfl, rfl, by decide +kernel, rfl, by decide +kernel, by decide +kernel⟩
set_option genInjectivity false
set_option genSizeOf false
structure Wa where
  f_4 : Addr
  fd_4 : FuncData
  f_0 : Addr
  fd_0 : FuncData
  f_6 : Addr
  fd_6 : FuncData
  f_2 : Addr
  fd_2 : FuncData
  f_5 : Addr
  fd_5 : FuncData
  f_7 : Addr
  fd_7 : FuncData
  f_3 : Addr
  fd_3 : FuncData
  f_1 : Addr
  fd_1 : FuncData
structure Wd (K : PySem.W.Frag) (mg : Str -> Option Value) (a : Wa) : Prop where
  F_4 : Fun K "ways" "ways" s_4 a.f_4 a.fd_4
  b_4 : zbe K a.fd_4 ["pairs", "kinds"] []
  g_4 : mg "ways" = some (.ref a.f_4)
  F_0 : Fun K "_law_next" "_law_next" s_0 a.f_0 a.fd_0
  b_0 : zbe K a.fd_0 ["_law_state", "_law_many"] []
  g_0 : mg "_law_next" = some (.ref a.f_0)
  F_6 : Fun K "_law_seed" "_law_seed" s_6 a.f_6 a.fd_6
  b_6 : zbe K a.fd_6 ["_law_script"] []
  g_6 : mg "_law_seed" = some (.ref a.f_6)
  F_2 : Fun K "_law_small" "_law_small" s_2 a.f_2 a.fd_2
  b_2 : zbe K a.fd_2 ["_law_state", "_law_many", "_law_span"] []
  g_2 : mg "_law_small" = some (.ref a.f_2)
  F_5 : Fun K "_law_kinds" "_law_kinds" s_5 a.f_5 a.fd_5
  b_5 : zbe K a.fd_5 ["_law_state", "_law_most"] []
  g_5 : mg "_law_kinds" = some (.ref a.f_5)
  F_7 : Fun K "_law_copied" "_law_copied" s_7 a.f_7 a.fd_7
  b_7 : zbe K a.fd_7 ["_law_kinds_here"] []
  g_7 : mg "_law_copied" = some (.ref a.f_7)
  F_3 : Fun K "_law_right" "_law_right" s_3 a.f_3 a.fd_3
  b_3 : zbe K a.fd_3 ["_law_found", "_law_sizes"] []
  g_3 : mg "_law_right" = some (.ref a.f_3)
  F_1 : Fun K "law" "law" s_1 a.f_1 a.fd_1
  b_1 : zbe K a.fd_1 ["_law_script"] []
  g_1 : mg "law" = some (.ref a.f_1)
  kt_NoneType_list : PySem.W.kitOne K (.type "NoneType") (.type "list") = some false
  kt_bool_list : PySem.W.kitOne K (.type "bool") (.type "list") = some false
  kt_int_list : PySem.W.kitOne K (.type "int") (.type "list") = some false
  kt_str_list : PySem.W.kitOne K (.type "str") (.type "list") = some false
  kt_list_list : PySem.W.kitOne K (.type "list") (.type "list") = some true
  kt_tuple_list : PySem.W.kitOne K (.type "tuple") (.type "list") = some false
  kt_dict_list : PySem.W.kitOne K (.type "dict") (.type "list") = some false
  kt_NoneType_str : PySem.W.kitOne K (.type "NoneType") (.type "str") = some false
  kt_bool_str : PySem.W.kitOne K (.type "bool") (.type "str") = some false
  kt_int_str : PySem.W.kitOne K (.type "int") (.type "str") = some false
  kt_str_str : PySem.W.kitOne K (.type "str") (.type "str") = some true
  kt_list_str : PySem.W.kitOne K (.type "list") (.type "str") = some false
  kt_tuple_str : PySem.W.kitOne K (.type "tuple") (.type "str") = some false
  kt_dict_str : PySem.W.kitOne K (.type "dict") (.type "str") = some false
  z_dict : mg "dict" = none
  z_divmod : mg "divmod" = none
  z_enumerate : mg "enumerate" = none
  z_isinstance : mg "isinstance" = none
  z_len : mg "len" = none
  z_list : mg "list" = none
  z_range : mg "range" = none
  z_str : mg "str" = none
set_option genInjectivity true
set_option genSizeOf true
section
variable {P : Program} {w : World} {K : PySem.W.Frag} {mg : Str -> Option Value} {base : Heap}
noncomputable def cl (a : Wa) : Str -> Addr := fun s => 0
theorem zlo {a : Wa} (W : Wd K mg a) : zki K "list" := fun t ht => by
  simp only [List.mem_cons, List.not_mem_nil, or_false] at ht
  rcases ht with rfl | rfl | rfl | rfl | rfl | rfl | rfl
  · exact W.kt_NoneType_list
  · exact W.kt_bool_list
  · exact W.kt_int_list
  · exact W.kt_str_list
  · exact W.kt_list_list
  · exact W.kt_tuple_list
  · exact W.kt_dict_list
theorem zw5 {a : Wa} (W : Wd K mg a) : zki K "str" := fun t ht => by
  simp only [List.mem_cons, List.not_mem_nil, or_false] at ht
  rcases ht with rfl | rfl | rfl | rfl | rfl | rfl | rfl
  · exact W.kt_NoneType_str
  · exact W.kt_bool_str
  · exact W.kt_int_str
  · exact W.kt_str_str
  · exact W.kt_list_str
  · exact W.kt_tuple_str
  · exact W.kt_dict_str
end
noncomputable def b_7 : List Sl -> Option Fl :=
  (zgj (zfj 2 [] (zb1 (zad 0)) (zes (zc5 (za9 0) (zc5 (za9 1) zf4))) (fun _ => some true) (zeb (zaf (zad 0) (zaf (zbo (zbm 1)) (fun _ => some []))))))
noncomputable def m_7 (as : List D) : Option D := zdk 1 b_7 as
noncomputable def b_0 : List Sl -> Option Fl :=
  (zal (ze5 0 (fun _ => some (.int 0)) (m2 zeu (m2 zbj (m2 zgn (mIx (zh4 0) (fun _ => some (.int 0))) (fun _ => some (.int 1181783497276652981))) (fun _ => some (.int 12345678910987))) (m2 zep (m2 zgv (fun _ => some (.int 2)) (fun _ => some (.int 61))) (fun _ => some (.int 1)))))
    (zea (m2 zeu (m2 zkl (mIx (zh4 0) (fun _ => some (.int 0))) (fun _ => some (.int 65537))) (zad 1))))
noncomputable def m_0 : Addr -> List D -> List D -> List D -> Option (List D × D) := zd5 2 b_0
noncomputable def b_2 : List Sl -> Option Fl :=
  (zal (zbw 3 (fun _ => some (.str "")))
    (zal (zb5 (zfc (zaf (zad 1) (fun _ => some []))) (za9 4) (zfz 3 (mX2 zcp (mX (fun _ => some (.str "abcdefghijklmnopqrstuvwxyz"))) (zbd 0 m_0 (zaj (mX (zad 2)) zau)))))
    (zea (zad 3))))
noncomputable def m_2 : Addr -> List D -> List D -> List D -> Option (List D × D) := zd5 5 b_2
noncomputable def b_5 : List Sl -> Option Fl :=
  (zal (zcs 2 (fun _ => some []))
    (zal (ze0 (zdp (zaj (mX2 zbj (mX (fun _ => some (.int 1))) (zbd 0 m_0 (zaj (mX (fun _ => some (.int 4))) zau))) zau)) (za9 3) (zal (zcs 4 (fun _ => some []))
    (zal (ze0 (zdp (zaj (mX2 zbj (mX (fun _ => some (.int 1))) (zbd 0 m_0 (zaj (mX (zad 1)) zau))) zau)) (za9 5) (zal (zdn 6 (mX2 zbj (mX (fun _ => some (.str "q"))) (zbd 0 m_2 (zaj (mX2 zbj (mX (fun _ => some (.int 1))) (zbd 0 m_0 (zaj (mX (fun _ => some (.int 7))) zau))) (zaj (mX2 zd3 (mX (zbo (zaf (fun _ => some (.int 26)) (zaf (fun _ => some (.int 2)) (fun _ => some []))))) (zbd 0 m_0 (zaj (mX (fun _ => some (.int 2))) zau))) zau)))))
    (zc9 (mB (m2 zfq (zad 6) (zde 4))) (zeo 4 (zad 6)) zdy)))
    (zc8 4 (zfg 2 (zfn (zaj (mX2 zbj (mX2 zbj (zbd 0 m_2 (zaj (mX (zad 3)) (zaj (mX (fun _ => some (.int 26))) zau))) (mX (fun _ => some (.str "k")))) (mX (m2 zcp (fun _ => some (.str "abcd")) (zad 3)))) (zaj (mX (zad 4)) zau))))))))
    (zc8 2 (zea (zad 2)))))
noncomputable def m_5 : Addr -> List D -> List D -> List D -> Option (List D × D) := zd5 7 b_5
noncomputable def b_3 : List Sl -> Option Fl :=
  (zal (zbw 2 (fun _ => some (.int 1)))
    (zal (zb5 (zb1 (zad 1)) (za9 3) (zbw 2 (m2 zgn (zad 2) (za4 za3 (zaf (zad 3) (fun _ => some []))))))
    (zal (zc9 (mOr (zcg (zcd (zdb "list" (zad 0)))) (mB (m2 dNe (za4 za3 (zaf (zad 0) (fun _ => some []))) (zad 2)))) (zcj (fun _ => some (.bl false))) zdy)
    (zal (zb5 (zg0 (zaf (zad 0) (fun _ => some []))) (zes (zc5 (za9 4) (zc5 (za9 5) zf4))) (zal (zc9 (mOr (zcg (zcd (zdb "list" (zad 5)))) (mB (m2 dNe (za4 za3 (zaf (zad 5) (fun _ => some []))) (za4 za3 (zaf (zad 1) (fun _ => some [])))))) (zcj (fun _ => some (.bl false))) zdy)
    (zb5 (zf6 (zaf (m2 zep (za4 za3 (zaf (zad 1) (fun _ => some []))) (fun _ => some (.int 1))) (zaf (m1 zer (fun _ => some (.int 1))) (zaf (m1 zer (fun _ => some (.int 1))) (fun _ => some []))))) (za9 6) (zal (zge (zes (zc5 (za9 4) (zc5 (za9 7) zf4))) (za4 zi5 (zaf (zad 4) (zaf (za4 za3 (zaf (mIx (zbm 1) (zad 6)) (fun _ => some []))) (fun _ => some [])))))
    (zc9 (mOr (zcg (zcd (zdb "str" (mIx (zbm 5) (zad 6))))) (mB (m2 dNe (mIx (zbm 5) (zad 6)) (mIx (zb1 (mIx (zbm 1) (zad 6))) (zad 7))))) (zcj (fun _ => some (.bl false))) zdy)))))
    (zcj (fun _ => some (.bl true)))))))
noncomputable def m_3 (as : List D) : Option D := zdk 8 b_3 as
noncomputable def b_6 : List Sl -> Option Fl :=
  (zal (zbw 1 (fun _ => some (.int 1000003)))
    (zal (zb5 (zb1 (zad 0)) (za9 2) (zbw 1 (m2 zeu (m2 zbj (m2 zbj (m2 zgn (zad 1) (fun _ => some (.int 7368787))) (m2 zeu (zad 2) (m2 zgv (fun _ => some (.int 10)) (fun _ => some (.int 30))))) (fun _ => some (.int 11))) (m2 zep (m2 zgv (fun _ => some (.int 2)) (fun _ => some (.int 61))) (fun _ => some (.int 1))))))
    (ze8 1)))
noncomputable def m_6 (as : List D) : Option D := zdk 3 b_6 as
noncomputable def b_4 : List Sl -> Option Fl :=
  (zal (zh6 2 (zad 1))
    (zal (zfw 2 (zds 3 (zkj (zhv (zdg (fun _ => some [])) (fun _ => some [])))))
    (zal (zb5 (zb1 (zad 0)) (zes (zc5 (za9 4) (zc5 (za9 5) zf4))) (zal (zds 6 (zdg (fun _ => some [])))
    (zal (zfi 3 (zb5 (zb1 (zad 3)) (za9 7) (zgx 6 (zex 1 [7] (zb1 (m2 ziw (zad 2) (zad 5))) (za9 0) (fun _ => some true) (zdg (zh8 (zad 1) (zbo (zaf (zad 0) (fun _ => some [])))))))))
    (zgm 3 6))))
    (zgh (zh1 3)))))
noncomputable def zem (as : List D) : Option O := zff 8 b_4 as
noncomputable def b_1 : List Sl -> Option Fl :=
  (zal (zcs 1 (zaf (za4 m_6 (zaf (zad 0) (fun _ => some []))) (fun _ => some [])))
    (zal (zdn 2 (zbz 1 m_0 (zaj (mX (fun _ => some (.int 4))) zau)))
    (zal (zdn 3 (zbz 1 m_5 (zaj (mX (mIx (zaf (fun _ => some (.int 12)) (zaf (fun _ => some (.int 12)) (zaf (fun _ => some (.int 12)) (zaf (fun _ => some (.int 7)) (fun _ => some []))))) (zad 2))) zau)))
    (zal (zcs 4 (fun _ => some []))
    (zal (zcs 5 (fun _ => some []))
    (zal (zb5 (zfc (zaf (zad 2) (fun _ => some []))) (za9 6) (zal (zdn 7 (mX2 zd3 (mX (zad 3)) (zbz 1 m_0 (zaj (mX (za4 za3 (zaf (zad 3) (fun _ => some [])))) zau))))
    (zal (zfg 4 (zfn (zaj (mX2 zbj (mX (m2 zcp (fun _ => some (.str "XYZ")) (zad 6))) (zbz 1 m_2 (zaj (zbz 1 m_0 (zaj (mX (fun _ => some (.int 8))) zau)) (zaj (mX (fun _ => some (.int 26))) zau)))) (zaj (mX (mIx (zbm 7) (fun _ => some (.int 0)))) zau))))
    (zeo 5 (mIx (zbm 7) (fun _ => some (.int 1)))))))
    (zal (zf2 (zg1 (mTX (mB (m2 dEq (zad 2) (fun _ => some (.int 0))))) (mBX (mX2 dEq (zbz 1 m_0 (zaj (mX (fun _ => some (.int 2))) zau)) (mX (fun _ => some (.int 0)))))) (zbw 3 (zbo (fun _ => some []))) zdy)
    (zal (zbw 8 (za4 m_7 (zaf (zad 3) (fun _ => some []))))
    (zal (zbw 9 (zbo (zbm 4)))
    (zal (zds 10 (zeh zem (zaf (zad 9) (zaf (zad 8) (fun _ => some [])))))
    (zal (zc8 4 (zc8 5 (zc9 (mOr (zcg (zcd (zei m_3 (zaf (zde 10) (zaf (zad 5) (fun _ => some [])))))) (mOr (mB (m2 dNe (zad 8) (zad 3))) (mB (m2 dNe (zad 9) (zad 4))))) (zcj (fun _ => some (.bl false))) zdy)))
    (zal (zgf 10 0 (fun _ => some (.str "x")))
    (zal (zgi 10 (zdg (zaf (fun _ => some (.str "x")) (fun _ => some []))))
    (zal (zds 11 (zeh zem (zaf (zbo (zaf (zeb (zaf (fun _ => some (.str "X")) (zaf (fun _ => some (.str "other")) (fun _ => some [])))) (fun _ => some []))) (zaf (zbo (zaf (zeb (zaf (fun _ => some (.str "other")) (zaf (zbo (zaf (fun _ => some (.str "b")) (zaf (fun _ => some (.str "a")) (fun _ => some [])))) (fun _ => some [])))) (fun _ => some []))) (fun _ => some [])))))
    (zc8 5 (zcj (zgk (m2 dEq (zde 11) (zbo (zaf (zbo (zaf (fun _ => some (.str "b")) (fun _ => some []))) (zaf (zbo (zaf (fun _ => some (.str "a")) (fun _ => some []))) (fun _ => some []))))) (zei m_3 (zaf (zB (zeh zem (zaf (zad 9) (zaf (zad 8) (fun _ => some []))))) (zaf (zad 5) (fun _ => some [])))))))))))))))))))))
noncomputable def m_1 (as : List D) : Option D := zdk 12 b_1 as
section
variable {P : Program} {w : World} {K : PySem.W.Frag} {mg : Str -> Option Value} {base : Heap}
theorem ztf {a : Wa} (W : Wd K mg a) : zax P w K mg base CX0 1 a.f_7 a.fd_7 ["_law_kinds_here"] (spD ⟨K, cl a⟩ ["_law_kinds_here"].length m_7) :=
  zh2 (k := 0) (N := ["_law_kinds_here"]) (F := b_7) W.F_7 zun fun cdv A outer s H E hr => by
    unfold b_7
    exact (za1 (zt6 (zuv 2 [] ["_law_name", "_law_names"] rfl (DI.de (zfx (dv 0))) (fun _ _ _ _ _ => (zhc rfl (zdv (dgc 0 2) (zdv (dgc 1 2) zhi)))) (fun _ _ _ _ _ => zll) (fun _ _ _ _ _ => (zjh (zap (dvc 0) (zap (DO.de (zng boot_list (glc rfl) W.z_list (zr4 1))) zav)))))))
theorem zc7 {a : Wa} (W : Wd K mg a) : zax P w K mg base CX0 1 a.f_0 a.fd_0 ["_law_state", "_law_many"] (spM ⟨K, cl a⟩ 0 ["_law_state", "_law_many"].length m_0) :=
  zk0 (k := 0) (N := ["_law_state", "_law_many"]) (F := b_0) W.F_0 ztm fun cdv A outer s H E hr => by
    unfold b_0
    exact (zar (zrx (pv 0) zak (zbk zhx (zbk zcz (zbk zju (zc0 (zm4 0) zak) zak) zak) (zbk zix (zbk zjw zak zak) zak)))
    (za1 (zjq (zbk zhx (zbk zr1 (zc0 (zm4 0) zak) zak) (dv 1)))))
theorem zkv {a : Wa} (W : Wd K mg a) : zax P w K mg base CX0 2 a.f_2 a.fd_2 ["_law_state", "_law_many", "_law_span"] (spM ⟨K, cl a⟩ 0 ["_law_state", "_law_many", "_law_span"].length m_2) :=
  zk0 (k := 1) (N := ["_law_state", "_law_many", "_law_span", "_law_word", "_law_k"]) (F := b_2) W.F_2 zhm fun cdv A outer s H E hr => by
    unfold b_2
    exact (zar (zdz 3 zhm.nd zbu)
    (zar (zdx PassesOwn.never rfl (zn5 rfl W.z_range (zap (dv 1) zav)) (zbx 4 5 zhm.nd) (za1 (zqa 3 zhm.nd (zv9 (DE.dx zbu) (zel (zc7 W) (hr.mono (by decide)) rfl W.g_0 W.F_0.kp W.b_0 (zb4 0 (za6 (DE.dx (dv 2)) zbl)))))))
    (za1 (zjq (dv 3)))))
theorem zpl {a : Wa} (W : Wd K mg a) : zax P w K mg base CX0 3 a.f_5 a.fd_5 ["_law_state", "_law_most"] (spM ⟨K, cl a⟩ 0 ["_law_state", "_law_most"].length m_5) :=
  zk0 (k := 2) (N := ["_law_state", "_law_most", "_law_kinds_here", "_law_k", "_law_names", "_law_j", "_law_name"]) (F := b_5) W.F_5 ze2 fun cdv A outer s H E hr => by
    unfold b_5
    exact (zar (zgt 2 ze2.nd (zbf zav))
    (zar (zml PassesOwn.never rfl (zl6 rfl W.z_range (za6 (zee zcz (DE.dx zak) (zel (zc7 W) (hr.mono (by decide)) rfl W.g_0 W.F_0.kp W.b_0 (zb4 0 (za6 (DE.dx zak) zbl)))) zbl)) (zbx 3 7 ze2.nd) (zar (zgt 4 ze2.nd (zbf zav))
    (zar (zml PassesOwn.never rfl (zl6 rfl W.z_range (za6 (zee zcz (DE.dx zak) (zel (zc7 W) (hr.mono (by decide)) rfl W.g_0 W.F_0.kp W.b_0 (zb4 0 (za6 (DE.dx (dv 1)) zbl)))) zbl)) (zbx 5 7 ze2.nd) (zar (zio 6 ze2.nd (zee zcz (DE.dx zbu) (zel (zkv W) (hr.mono (by decide)) rfl W.g_2 W.F_2.kp W.b_2 (zb4 0 (za6 (zee zcz (DE.dx zak) (zel (zc7 W) (hr.mono (by decide)) rfl W.g_0 W.F_0.kp W.b_0 (zb4 0 (za6 (DE.dx zak) zbl)))) (za6 (zon (DE.dx (DO.de (zbf (zap zak (zap zak zav))))) (zel (zc7 W) (hr.mono (by decide)) rfl W.g_0 W.F_0.kp W.b_0 (zb4 0 (za6 (DE.dx zak) zbl)))) zbl))))))
    (za1 (zgc (zec zrv zvn (DE.db (dv 6)) (dvB 4)) (za1 (zmz (zek (zeq PySem.F.plainAttrs_list PySem.F.slot_list_append PySem.F.type_list_append zfo (pv 4) (zbr (dv 6) zby))))) zfe))))
    (za1 (zgw 4 (zl8 (zek (zeq PySem.F.plainAttrs_list PySem.F.slot_list_append PySem.F.type_list_append zfo (pv 2) (zbr (znv (za6 (zee zcz (zee zcz (zel (zkv W) (hr.mono (by decide)) rfl W.g_2 W.F_2.kp W.b_2 (zb4 0 (za6 (DE.dx (dv 3)) (za6 (DE.dx zak) zbl)))) (DE.dx zbu)) (DE.dx (zm9 zbu (dv 3)))) (za6 (DE.dx (dv 4)) zbl))) zby)))))))))
    (za1 (zgw 2 (zjq (dv 2))))))
theorem zl4 {a : Wa} (W : Wd K mg a) : zax P w K mg base CX0 1 a.f_3 a.fd_3 ["_law_found", "_law_sizes"] (spD ⟨K, cl a⟩ ["_law_found", "_law_sizes"].length m_3) :=
  zh2 (k := 0) (N := ["_law_found", "_law_sizes", "_law_total", "_law_names", "_law_number", "_law_way", "_law_at", "_law_figure"]) (F := b_3) W.F_3 zdl fun cdv A outer s H E hr => have hu := hr.units; by
    unfold b_3
    exact (zar (zdz 2 zdl.nd zak)
    (zar (zdx PassesOwn.never rfl (zfx (dv 1)) (zbx 3 8 zdl.nd) (za1 (zdz 2 zdl.nd (zbk zju (dv 2) (zd7 zen zd0 rfl W.z_len PySem.boot_len (zcn (DE.db (dv 3)) zdj))))))
    (zar (zgc (DW.dt (zgq (zik (zhf (DE.db (zji (T := "list") (zlo W) rfl W.z_isinstance boot_list rfl W.z_list (DE.db (dv 0)))))) (zig (zec (zg3 hu) zgu (DE.db (zd7 zen zd0 rfl W.z_len PySem.boot_len (zcn (DE.db (dv 0)) zdj))) (DE.db (dv 2)))))) (za1 (zez zgr)) zfe)
    (zar (zdx PassesOwn.never rfl (zp6 rfl W.z_enumerate (zap (dv 0) zav)) (zhc rfl (zdv (zbx 4 8 zdl.nd) (zdv (zbx 5 8 zdl.nd) zhi))) (zar (zgc (DW.dt (zgq (zik (zhf (DE.db (zji (T := "list") (zlo W) rfl W.z_isinstance boot_list rfl W.z_list (DE.db (dv 5)))))) (zig (zec (zg3 hu) zgu (DE.db (zd7 zen zd0 rfl W.z_len PySem.boot_len (zcn (DE.db (dv 5)) zdj))) (DE.db (zd7 zen zd0 rfl W.z_len PySem.boot_len (zcn (DE.db (dv 1)) zdj))))))) (za1 (zez zgr)) zfe)
    (za1 (zdx PassesOwn.never rfl (zpz rfl W.z_range (zap (zbk zix (zd7 zen zd0 rfl W.z_len PySem.boot_len (zcn (DE.db (dv 1)) zdj)) zak) (zap (zoh zak) (zap (zoh zak) zav)))) (zbx 6 8 zdl.nd) (zar (zul (zrp rfl W.z_divmod (zap (dv 4) (zap (zd7 zen zd0 rfl W.z_len PySem.boot_len (zcn (DE.db (zc0 (dvC 1) (dv 6))) zdj)) zav))) (zhc rfl (zdv (zbx 4 8 zdl.nd) (zdv (zbx 7 8 zdl.nd) zhi))))
    (za1 (zgc (DW.dt (zgq (zik (zhf (DE.db (zji (T := "str") (zw5 W) rfl W.z_isinstance boot_str rfl W.z_str (DE.db (zc0 (dvC 5) (dv 6))))))) (zig (zec (zg3 hu) zgu (DE.db (zc0 (dvC 5) (dv 6))) (DE.db (zc0 (DE.dc (zc0 (dvC 1) (dv 6))) (dv 7))))))) (za1 (zez zgr)) zfe)))))))
    (za1 (zez zgr))))))
theorem zvh {a : Wa} (W : Wd K mg a) : zax P w K mg base CX0 1 a.f_6 a.fd_6 ["_law_script"] (spD ⟨K, cl a⟩ ["_law_script"].length m_6) :=
  zh2 (k := 0) (N := ["_law_script", "_law_seed_here", "_law_cell"]) (F := b_6) W.F_6 zih fun cdv A outer s H E hr => by
    unfold b_6
    exact (zar (zdz 1 zih.nd zak)
    (zar (zdx PassesOwn.never rfl (zfx (dv 0)) (zbx 2 3 zih.nd) (za1 (zdz 1 zih.nd (zbk zhx (zbk zcz (zbk zcz (zbk zju (dv 1) zak) (zbk zhx (dv 2) (zbk zjw zak zak))) zak) (zbk zix (zbk zjw zak zak) zak)))))
    (za1 (zqq 1))))
theorem zk6 {a : Wa} (W : Wd K mg a) : zax P w K mg base CX0 1 a.f_4 a.fd_4 ["pairs", "kinds"] (spT ⟨K, cl a⟩ ["pairs", "kinds"].length zem) :=
  zs6 (k := 0) (N := ["pairs", "kinds", "names_of", "found", "variable", "kind", "longer", "way"]) (F := b_4) W.F_4 zdo fun cdv A outer s H E hr => have hu := hr.units; by
    unfold b_4
    exact (zar (zr8 2 rfl zdo.nd rfl W.z_dict (dv 1))
    (zar (zsh 2 (zhn 3 zdo.nd (zqr (zv0 (zha (zbf zav)) zqj))))
    (zar (zdx PassesOwn.never rfl (zfx (dv 0)) (zhc rfl (zdv (zbx 4 8 zdo.nd) (zdv (zbx 5 8 zdo.nd) zhi))) (zar (zhn 6 zdo.nd (zha (zbf zav)))
    (zar (zv5 3 (zdx PassesOwn.never rfl (zfx (dv 3)) (zbx 7 8 zdo.nd) (za1 (zsc (zek (zeq PySem.F.plainAttrs_list PySem.F.slot_list_extend PySem.F.type_list_extend zpr (pv 6) (zbr (zqh 1 [7] ["name", "way"] rfl (DI.de (zfx (zwo hu (dv 2) (dv 5)))) (fun _ _ _ _ _ => (dgc 0 1)) (fun _ _ _ _ _ => zll) (fun _ _ _ _ _ => (zha (zr3 (dvc 1) (DO.de (zbf (zap (dvc 0) zav))))))) zby)))))))
    (za1 (zpj 3 6 zdo.nd)))))
    (za1 (ztd (zs1 3))))))
theorem zo7 {a : Wa} (W : Wd K mg a) : zax P w K mg base CX0 4 a.f_1 a.fd_1 ["_law_script"] (spD ⟨K, cl a⟩ ["_law_script"].length m_1) :=
  zh2 (k := 3) (N := ["_law_script", "_law_state", "_law_many", "_law_kinds_here", "_law_pairs", "_law_sizes", "_law_k", "_law_kind", "_law_handed", "_law_asked", "_law_found", "_law_other"]) (F := b_1) W.F_1 zb8 fun cdv A outer s H E hr => have hu := hr.units; by
    unfold b_1
    exact (zar (zgt 1 zb8.nd (zbf (zap (zoc (zvh W) (hr.mono (by decide)) rfl W.g_6 W.F_6.kp W.b_6 (zap (dv 0) zav)) zav)))
    (zar (zio 2 zb8.nd (zfs (zc7 W) (hr.mono (by decide)) rfl W.g_0 W.F_0.kp W.b_0 (zb4 1 (za6 (DE.dx zak) zbl))))
    (zar (zio 3 zb8.nd (zfs (zpl W) (hr.mono (by decide)) rfl W.g_5 W.F_5.kp W.b_5 (zb4 1 (za6 (DE.dx (zc0 (DO.dc (zbf (zap zak (zap zak (zap zak (zap zak zav)))))) (dv 2))) zbl))))
    (zar (zgt 4 zb8.nd (zbf zav))
    (zar (zgt 5 zb8.nd (zbf zav))
    (zar (zdx PassesOwn.never rfl (zn5 rfl W.z_range (zap (dv 2) zav)) (zbx 6 12 zb8.nd) (zar (zio 7 zb8.nd (zon (DE.dx (dv 3)) (zfs (zc7 W) (hr.mono (by decide)) rfl W.g_0 W.F_0.kp W.b_0 (zb4 1 (za6 (DE.dx (zd7 zen zd0 rfl W.z_len PySem.boot_len (zcn (DE.db (dv 3)) zdj))) zbl)))))
    (zar (zl8 (zek (zeq PySem.F.plainAttrs_list PySem.F.slot_list_append PySem.F.type_list_append zfo (pv 4) (zbr (znv (za6 (zee zcz (DE.dx (zm9 zbu (dv 6))) (zfs (zkv W) (hr.mono (by decide)) rfl W.g_2 W.F_2.kp W.b_2 (zb4 1 (za6 (zfs (zc7 W) (hr.mono (by decide)) rfl W.g_0 W.F_0.kp W.b_0 (zb4 1 (za6 (DE.dx zak) zbl))) (za6 (DE.dx zak) zbl))))) (za6 (DE.dx (zc0 (dvC 7) zak)) zbl))) zby))))
    (za1 (zmz (zek (zeq PySem.F.plainAttrs_list PySem.F.slot_list_append PySem.F.type_list_append zfo (pv 5) (zbr (zc0 (dvC 7) zak) zby))))))))
    (zar (zv3 (DWX.dtx (zq1 (DT.dtx (zec (zk1 hu) zm2 (DE.db (dv 2)) (DE.db zak))) (zt4 (zvs (zk1 hu) (zfs (zc7 W) (hr.mono (by decide)) rfl W.g_0 W.F_0.kp W.b_0 (zb4 1 (za6 (DE.dx zak) zbl))) (DE.dx zak))))) (za1 (zdz 3 zb8.nd (DO.de (zbf zav)))) zfe)
    (zar (zdz 8 zb8.nd (zoc (ztf W) (hr.mono (by decide)) rfl W.g_7 W.F_7.kp W.b_7 (zap (dv 3) zav)))
    (zar (zdz 9 zb8.nd (DO.de (zng boot_list rfl W.z_list (dvC 4))))
    (zar (zhn 10 zb8.nd (zkg (zk6 W) (hr.mono (by decide)) rfl W.g_4 W.F_4.kp W.b_4 (zap (dv 9) (zap (dv 8) zav))))
    (zar (zgw 4 (zgw 5 (zgc (DW.dt (zgq (zik (zhf (DE.db (zmn (zl4 W) (hr.mono (by decide)) rfl W.g_3 W.F_3.kp W.b_3 (zcn (dvB 10) (zcn (DE.db (dv 5)) zdj)))))) (zgq (zec (zg3 hu) zgu (DE.db (dv 8)) (DE.db (dv 3))) (zig (zec (zg3 hu) zgu (DE.db (dv 9)) (DE.db (dv 4))))))) (za1 (zez zgr)) zfe)))
    (zar (zvl (zek (zeq PySem.F.plainAttrs_list PySem.F.slot_list_append PySem.F.type_list_append zfo (zj0 (zku.or zkm) (pv 10) zlb (fun _ _ => rfl)) (zbr zbu zby))))
    (zar (zwy (zek (zeq PySem.F.plainAttrs_list PySem.F.slot_list_append PySem.F.type_list_append zfo (pv 10) (zbr (zha (zbf (zap zbu zav))) zby))))
    (zar (zhn 11 zb8.nd (zkg (zk6 W) (hr.mono (by decide)) rfl W.g_4 W.F_4.kp W.b_4 (zap (DO.de (zbf (zap (zjh (zap zbu (zap zbu zav))) zav))) (zap (DO.de (zbf (zap (zjh (zap zbu (zap (DO.de (zbf (zap zbu (zap zbu zav)))) zav))) zav))) zav))))
    (za1 (zgw 5 (zez (ztn (zqw (zk1 hu) zm2 (dvB 11) (DE.db (DO.de (zbf (zap (DO.de (zbf (zap zbu zav))) (zap (DO.de (zbf (zap zbu zav))) zav)))))) (zpi (zmn (zl4 W) (hr.mono (by decide)) rfl W.g_3 W.F_3.kp W.b_3 (zcn (DZ.db (zkg (zk6 W) (hr.mono (by decide)) rfl W.g_4 W.F_4.kp W.b_4 (zap (dv 9) (zap (dv 8) zav)))) (zcn (DE.db (dv 5)) zdj))))))))))))))))))))))
end
local macro_rules | `(tactic| walk_at "evS") => `(tactic| first | decide | omega | assumption | exact ⟨by decide, by decide⟩ | exact ⟨by omega, by omega⟩ | exact .inl ⟨by decide, by decide⟩ | exact .inr ⟨by decide, by decide⟩ | exact .inl ⟨by omega, by omega⟩ | exact .inr ⟨by omega, by omega⟩ | exact ⟨by decide, by decide, by decide⟩)
local macro_rules | `(tactic| walk_at "evO") => `(tactic| first | with_reducible exact zd4 | with_reducible exact zhy | with_reducible exact ztk | with_reducible exact ztq | with_reducible exact zuk | with_reducible exact zwt | with_reducible exact zjd _ _ | with_reducible exact zka _ _ | ((with_reducible apply zf3); (focus walk_at "evS")) | ((with_reducible apply zoy); (focus walk_at "evS")) | ((with_reducible apply zt1); (focus walk_at "evS")) | ((with_reducible apply zg7); (focus first | assumption | exact .inl (by walk_at "evS") | exact .inr ⟨by omega, by omega⟩)) | ((with_reducible apply zie); (focus walk_at "evS")) | ((with_reducible apply zxa); (focus walk_at "evS")) | with_reducible exact zpd _ _ | with_reducible exact zm8 _ _ | with_reducible exact zsq _ _ | with_reducible exact zu8 | exact zwf _ _ | exact zrc _ _ | assumption | rfl)
local macro_rules | `(tactic| walk_at "ev") => `(tactic| first
  | with_reducible assumption
  | ((with_reducible apply zay); (focus walk_at "ev"); (focus walk_at "ev"); (focus walk_at "evO"))
  | ((with_reducible apply zco); (focus walk_at "ev"))
  | ((with_reducible apply zj9); (focus walk_at "ev"); (focus first | assumption | rfl))
  | ((with_reducible apply zwe); (focus walk_at "ev"); (focus walk_at "ev"))
  | ((with_reducible apply zv8); (focus walk_at "ev"); (focus walk_at "ev"))
  | ((with_reducible apply zje); (focus walk_at "ev"))
  | ((with_reducible apply znk); (focus walk_at "ev"); (focus walk_at "ev"))
  | ((with_reducible apply zw3); (focus walk_at "ev"); (focus walk_at "ev"))
  | ((with_reducible apply zre); (focus walk_at "ev"))
  | ((with_reducible apply za8); (focus walk_at "ev"); (focus walk_at "ev"))
  | ((with_reducible apply zu1); (focus walk_at "ev"))
  | ((with_reducible apply zwm); (focus walk_at "ev"))
  | ((with_reducible apply zcq); (focus walk_at "ev"); (focus first | with_reducible assumption | with_reducible exact zni _ _ | assumption | exact zni _ _ | exact zqf _ _ | rfl))
  | ((with_reducible apply zkr); (focus walk_at "ev"); (focus assumption); (focus rfl))
  | ((with_reducible apply zhb); (focus walk_at "ev"); (focus walk_at "ev"); (focus first | assumption | rfl))
  | ((with_reducible apply zvr); (focus walk_at "ev"); (focus rfl); (focus rfl))
  | ((with_reducible apply zq4); (focus walk_at "ev"); (focus rfl); (focus rfl))
  | ((with_reducible apply zks); (focus walk_at "ev"); (focus rfl))
  | rfl)
local macro_rules | `(tactic| walk_at "nrm") => `(tactic| simp only [zo3, List.set_cons_succ, List.set_cons_zero])
local macro_rules | `(tactic| walk_at "set") => `(tactic| (apply zaq; (first | with_reducible apply zc6 | with_reducible apply zfk); (focus walk_at "ev"); walk_at "nrm"))
local macro_rules | `(tactic| walk_at "if0") => `(tactic| ((with_reducible first | apply zev | apply zk5); (focus walk_at "ev")))
open PySem.Builtin PySem.Builtin.Str
noncomputable abbrev tx (l : List Nat) : Str := ⟨l.toArray⟩
theorem zg2 (l : List Nat) : (tx l).length = l.length := by show l.toArray.size = _; simp
theorem znb (a b : List Nat) : tx a ++ tx b = tx (a ++ b) := by
  apply Str.ext'
  rw [Str.cps_append]
  simp
theorem zs0 (z : Str) : tx z.cps.toList = z := by
  apply Str.ext'
  simp
theorem zl5 {a b : List Nat} (h : tx a = tx b) : a = b := by
  have := congrArg (fun z : Str => z.cps.toList) h
  simpa using this
theorem zba {f : List Sl -> Option D} {ρ : List Sl} {d : D} (h : f ρ = some d) : mX f ρ = some (d, ρ) := by
  unfold mX
  rw [h]
  rfl
theorem zck {m : D -> D -> Option D} {f g : Xe} {ρ ρ1 ρ2 : List Sl} {x y d : D} (h1 : f ρ = some (x, ρ1)) (h2 : g ρ1 = some (y, ρ2)) (h3 : m x y = some d) : mX2 m f g ρ = some (d, ρ2) := by
  unfold mX2
  rw [h1, Option.bind_some, h2, Option.bind_some, h3]
  rfl
theorem zbs {f : Xe} {g : Xa} {ρ ρ1 ρ2 : List Sl} {d : D} {ds : List D} (h1 : f ρ = some (d, ρ1)) (h2 : g ρ1 = some (ds, ρ2)) : zaj f g ρ = some (d :: ds, ρ2) := by
  unfold zaj
  rw [h1, Option.bind_some, h2]
  rfl
theorem zlm {f : Xa} {ρ ρ1 : List Sl} {as ds : List D} (h1 : f ρ = some (as, ρ1)) (h2 : zdr as = some ds) : zdp f ρ = some (ds, ρ1) := by
  unfold zdp
  rw [h1, Option.bind_some, h2]
  rfl
theorem zir {i : Nat} {m : Addr -> List D -> List D -> List D -> Option (List D × D)} {f : Xa} {ρ ρ1 : List Sl} {l l0 : Addr} {xs0 xs ys ds : List D} {d : D} (h0 : ρ[i]? = some (.pin l0 xs0)) (h1 : f ρ = some (ds, ρ1)) (h2 : ρ1[i]? = some (.pin l xs)) (h3 : m l [] ds xs = some (ys, d)) : zbd i m f ρ = some (d, ρ1.set i (.pin l ys)) := by
  unfold zbd
  rw [h0]
  show (f ρ).bind _ = _
  rw [h1, Option.bind_some]
  dsimp only
  rw [h2]
  show (m l [] ds xs).map _ = _
  rw [h3]
  rfl
open Classical in
theorem zja {i : Nat} {m : Addr -> List D -> List D -> List D -> Option (List D × D)} {f : Xa} {ρ ρ1 : List Sl} {xs0 xs ys ds : List D} {d : D} (h0 : ρ[i]? = some (.own xs0)) (h1 : f ρ = some (ds, ρ1)) (h2 : ρ1[i]? = some (.own xs)) (h3 : ∀ l, m l [] ds xs = some (ys, d)) : zbz i m f ρ = some (d, ρ1.set i (.own ys)) := by
  unfold zbz
  rw [h0]
  show (f ρ).bind _ = _
  rw [h1, Option.bind_some]
  dsimp only
  rw [h2]
  show (if h : ∃ q, ∀ l, m l [] ds xs = some q then _ else none) = _
  rw [dif_pos ⟨(ys, d), h3⟩]
  have e : (⟨(ys, d), h3⟩ : ∃ q, ∀ l, m l [] ds xs = some q).choose = (ys, d) := by
    have := (⟨(ys, d), h3⟩ : ∃ q, ∀ l, m l [] ds xs = some q).choose_spec 0
    rw [h3 0] at this
    exact Option.some.inj this.symm
  rw [e]
theorem zhw {i : Nat} {f : Xe} {ρ ρ1 : List Sl} {d : D} {K : Fl -> Prop} (h : f ρ = some (d, ρ1)) (k : K (.nx (ρ1.set i (.im d)))) : wp (zdn i f) ρ K := ⟨_, by unfold zdn; rw [h]; rfl, k⟩
theorem zwp {i : Nat} {f : Xe} {ρ ρ1 : List Sl} {x d z : D} {K : Fl -> Prop} (h0 : ρ[i]? = some (.im x)) (h : f ρ = some (d, ρ1)) (h2 : zho x d = some z) (k : K (.nx (ρ1.set i (.im z)))) : wp (zfz i f) ρ K := ⟨_, by
  unfold zfz
  rw [h0]
  show (f ρ).bind _ = _
  rw [h, Option.bind_some, h2]
  rfl, k⟩
theorem zow {t : Xt} {F F' : List Sl -> Option Fl} {ρ ρ1 : List Sl} {b : Bool} {K : Fl -> Prop} (h : t ρ = some (b, ρ1)) (kT : b = true -> wp F ρ1 K) (kF : b = false -> wp F' ρ1 K) : wp (zf2 t F F') ρ K := by
  unfold wp zf2
  rw [h]
  cases b with
  | true => exact kT rfl
  | false => exact kF rfl
noncomputable def nx (s : Int) : Int := (s * 1181783497276652981 + 12345678910987) % (2 ^ 61 - 1)
noncomputable def okS (s : Int) : Prop := 0 <= s /\ s < 2305843009213693951
theorem zb6 (s : Int) : okS (nx s) := by
  have h1 := Int.emod_nonneg (s * 1181783497276652981 + 12345678910987) (show (2 ^ 61 - 1 : Int) ≠ 0 by decide)
  have h2 := Int.emod_lt_of_pos (s * 1181783497276652981 + 12345678910987) (show (0 : Int) < 2 ^ 61 - 1 by decide)
  unfold okS nx
  omega
noncomputable def dr (s k : Int) : Int := nx s / 65537 % k
theorem zcl (s : Int) {k : Int} (h : 0 < k) : 0 <= dr s k /\ dr s k < k := ⟨Int.emod_nonneg _ (by omega), Int.emod_lt_of_pos _ h⟩
theorem zjl (l : Addr) (s k : Int) (h : okS s) (hk : 0 < k) : m_0 l [] [.int k] [.int s] = some ([.int (nx s)], .int (dr s k)) := by
  obtain ⟨h0, h1⟩ := h
  have w : wp b_0 [.pin l [.int s], .im (.int k)] (fun o => o = .rtS (.int (dr s k)) [.pin l [.int (nx s)], .im (.int k)]) := by
    unfold b_0
    apply zaq
    have hg : zdm s 1181783497276652981 := .inr ⟨by omega, by decide⟩
    refine zrw (d := .int (nx s)) (k := 0) (xs := [.int s]) ?_ rfl rfl (by decide) (by show (0 : Int) < 1; decide) ?_
    · exact zay (zay (zay rfl rfl (zg7 hg)) rfl zd4) (zay (zay rfl rfl (zie (by decide))) rfl zhy) (zf3 (by decide))
    · exact zk7 (zay (zay rfl rfl (zoy (by have := zb6 s; unfold okS at this; walk_at "evS"))) rfl (zf3 hk)) rfl
  obtain ⟨o, e, rfl⟩ := w
  exact zi7 (ρ := [.pin l [.int (nx s)], .im (.int k)]) e rfl
noncomputable def smL : List Nat := ("abcdefghijklmnopqrstuvwxyz" : Str).cps.toList
theorem zod : smL.length = 26 := by decide +kernel
theorem smT : ("abcdefghijklmnopqrstuvwxyz" : Str) = tx smL := (zs0 _).symm
noncomputable def stp (sp : Int) (p : Int × List Nat) : Int × List Nat := (nx p.1, p.2 ++ [smL.getD (dr p.1 sp).toNat 0])
noncomputable def its (sp : Int) : Nat -> Int × List Nat -> Int × List Nat
  | 0, p => p
  | n + 1, p => stp sp (its sp n p)
theorem zla (sp : Int) (p : Int × List Nat) (h : okS p.1) : ∀ n, okS (its sp n p).1 /\ (its sp n p).2.length = p.2.length + n
  | 0 => ⟨h, rfl⟩
  | n + 1 => by
    obtain ⟨a, c⟩ := zla sp p h n
    refine ⟨zb6 _, ?_⟩
    show ((its sp n p).2 ++ [_]).length = _
    rw [List.length_append, c]
    rfl
theorem zhz (a b : List Nat) (h : a.length + b.length <= 2000) : zbj (.str (tx a)) (.str (tx b)) = some (.str (tx (a ++ b))) := by
  show (if (tx a).length + (tx b).length <= 16777216 then some (D.str (tx a ++ tx b)) else none) = _
  rw [zg2, zg2, if_pos (by omega), znb]
theorem zkd (sg : List Nat) (v : Int) (h : 0 <= v /\ v < (sg.length : Nat)) (h1 : sg.length <= 1000) : zcp (.str (tx sg)) (.int v) = some (.str (tx [sg.getD v.toNat 0])) := by
  show (if 0 <= v /\ v < 2 ^ 63 /\ v < ((tx sg).length : Int) then ((tx sg).cps[v.toNat]?).map (fun ch => D.str ⟨#[ch]⟩) else none) = _
  rw [if_pos ⟨h.1, by omega, by rw [zg2]; exact h.2⟩]
  show ((sg.toArray)[v.toNat]?).map _ = _
  have hl : v.toNat < sg.length := by omega
  rw [List.getElem?_toArray, List.getElem?_eq_getElem hl, List.getD_eq_getElem?_getD, List.getElem?_eq_getElem hl]
  rfl
theorem zhr (v : Int) (a : 0 <= v) (b : v <= 500) : zdr [D.int v] = some ((List.range v.toNat).map fun (i : Nat) => D.int i) := by
  show (if -(2 ^ 62) <= v /\ v < 2 ^ 62 then some (rng 0 v.toNat) else none) = _
  rw [if_pos ⟨by omega, by omega⟩, zwq]
  simp
noncomputable def smP (n sp s : Int) : Int × List Nat := its sp n.toNat (s, [])
theorem zh7 (n sp s : Int) (h : okS s) (hn : 0 <= n) : okS (smP n sp s).1 /\ ((smP n sp s).2.length : Int) = n := by
  obtain ⟨a, c⟩ := zla sp (s, []) h n.toNat
  refine ⟨a, ?_⟩
  unfold smP
  rw [c]
  simp only [List.length_nil]
  omega
theorem zk8 (l : Addr) (s n sp : Int) (h : okS s) (hn : 0 <= n /\ n <= 500) (hs : 0 < sp /\ sp <= 26) : m_2 l [] [.int n, .int sp] [.int s] = some ([.int (smP n sp s).1], .str (tx (smP n sp s).2)) := by
  have rk := zla sp (s, []) h
  have w : wp b_2 [.pin l [.int s], .im (.int n), .im (.int sp), .no, .no] (fun o => ∃ a, o = .rtS (.str (tx (smP n sp s).2)) [.pin l [.int (smP n sp s).1], .im (.int n), .im (.int sp), .im (.str (tx (smP n sp s).2)), a]) := by
    unfold b_2
    apply zaq
    refine zc6 (d := .str (tx [])) rfl ?_
    show wp _ [.pin l [.int s], .im (.int n), .im (.int sp), .im (.str (tx [])), .no] _
    apply zaq
    refine zc3 (List.range n.toNat) (fun (i : Nat) => D.int i) (fun pre ρ => ∃ a, ρ = [.pin l [.int (its sp pre.length (s, [])).1], .im (.int n), .im (.int sp), .im (.str (tx (its sp pre.length (s, [])).2)), a]) ?_ ⟨_, rfl⟩ ?_ ?_
    · have ef : zaf (zad 1) (fun _ => some []) [.pin l [.int s], .im (.int n), .im (.int sp), .im (.str (tx [])), .no] = some [.int n] := rfl
      unfold zfc
      rw [ef, Option.bind_some, zhr n hn.1 hn.2]
    · rintro pre x post ρ he ⟨a, rfl⟩
      refine ⟨_, rfl, ?_⟩
      show wp _ [.pin l [.int (its sp pre.length (s, [])).1], .im (.int n), .im (.int sp), .im (.str (tx (its sp pre.length (s, [])).2)), .im (.int x)] _
      obtain ⟨k1, k3⟩ := rk pre.length
      have hpre : pre.length < n.toNat := by
        have := congrArg List.length he
        rw [List.length_range, List.length_append, List.length_cons] at this
        omega
      generalize hp : its sp pre.length (s, []) = p at k1 k3
      have dk := zcl p.1 (k := sp) hs.1
      have ec : zbd 0 m_0 (zaj (mX (zad 2)) zau) [.pin l [.int p.1], .im (.int n), .im (.int sp), .im (.str (tx p.2)), .im (.int x)] = some (.int (dr p.1 sp), [.pin l [.int (nx p.1)], .im (.int n), .im (.int sp), .im (.str (tx p.2)), .im (.int x)]) := zir (i := 0) (ρ1 := [.pin l [.int p.1], .im (.int n), .im (.int sp), .im (.str (tx p.2)), .im (.int x)]) rfl (zbs (zba rfl) rfl) rfl (zjl l p.1 sp k1 hs.1)
      refine zwp (x := .str (tx p.2)) (d := .str (tx [smL.getD (dr p.1 sp).toNat 0])) (z := .str (tx (stp sp p).2)) rfl (zck (zba (d := .str (tx smL)) (by rw [smT])) ec (zkd smL _ (by rw [zod]; omega) (by rw [zod]; decide))) ?_ ?_
      · show (if (tx p.2).length + (tx [_]).length <= 16777216 then some (D.str (tx p.2 ++ tx [_])) else none) = _
        rw [zg2, zg2, if_pos (by rw [k3]; simp only [List.length_nil, List.length_cons]; omega), znb]
        rfl
      · refine ⟨.im (.int x), ?_⟩
        rw [List.length_append, show ([x] : List Nat).length = 1 from rfl]
        show _ = [Sl.pin l [.int (stp sp (its sp pre.length (s, []))).1], .im (.int n), .im (.int sp), .im (.str (tx (stp sp (its sp pre.length (s, []))).2)), .im (.int x)]
        rw [hp]
        rfl
    · rintro ρ ⟨a, rfl⟩
      rw [List.length_range]
      exact zk7 rfl ⟨a, rfl⟩
  obtain ⟨o, e, a, rfl⟩ := w
  exact zi7 (ρ := [.pin l [.int (smP n sp s).1], .im (.int n), .im (.int sp), .im (.str (tx (smP n sp s).2)), a]) e rfl
theorem zii (l : Addr) (s k : Int) (r : List Sl) {f : List Sl -> Option D} (hf : f (.pin l [.int s] :: r) = some (.int k)) (h : okS s) (hk : 0 < k) : zbd 0 m_0 (zaj (mX f) zau) (.pin l [.int s] :: r) = some (.int (dr s k), .pin l [.int (nx s)] :: r) := zir (i := 0) (ρ1 := .pin l [.int s] :: r) rfl (zbs (zba hf) rfl) rfl (zjl l s k h hk)
noncomputable def zbi {α : Type} (F : List (List α)) (ns : List α) : List (List α) := F.flatMap fun w => ns.map fun n => w ++ [n]
noncomputable def zaz {α : Type} (S : List (List α)) : List (List α) := S.foldl zbi [[]]
noncomputable def zcf {α : Type} (d : α) : List (List α) -> Nat -> List α
  | [], _ => []
  | ns :: R, i => zcf d R (i / ns.length) ++ [ns.getD (i % ns.length) d]
noncomputable def tot {α : Type} (S : List (List α)) : Nat := S.foldl (fun t ns => t * ns.length) 1
theorem zko {α : Type} (ns : List α) : ∀ F : List (List α), (zbi F ns).length = F.length * ns.length
  | [] => by simp [zbi]
  | w :: F => by
    have ih := zko ns F
    unfold zbi at ih ⊢
    rw [List.flatMap_cons, List.length_append, ih, List.length_map, List.length_cons, Nat.succ_mul, Nat.add_comm]
theorem zmm {α : Type} (d : α) (ns : List α) (hn : 0 < ns.length) : ∀ (F : List (List α)) (i : Nat) (w : List α), F[i / ns.length]? = some w -> (zbi F ns)[i]? = some (w ++ [ns.getD (i % ns.length) d])
  | [], i, w, h => by simp at h
  | v :: F, i, w, h => by
    unfold zbi
    rw [List.flatMap_cons]
    by_cases hi : i < ns.length
    · rw [List.getElem?_append_left (by rw [List.length_map]; exact hi), List.getElem?_map, List.getElem?_eq_getElem hi, Nat.mod_eq_of_lt hi]
      rw [Nat.div_eq_of_lt hi] at h
      cases h
      rw [List.getD_eq_getElem?_getD, List.getElem?_eq_getElem hi]
      rfl
    · have hi' : ns.length <= i := Nat.le_of_not_lt hi
      rw [List.getElem?_append_right (by rw [List.length_map]; exact hi'), List.length_map]
      have ih := zmm d ns hn F (i - ns.length) w
      unfold zbi at ih
      rw [<- Nat.mod_eq_sub_mod hi'] at ih
      apply ih
      have : i / ns.length = (i - ns.length) / ns.length + 1 := by rw [Nat.div_eq_sub_div hn hi']
      rw [this] at h
      exact h
theorem zhh {α : Type} (S : List (List α)) (ns : List α) : zaz (S ++ [ns]) = zbi (zaz S) ns := by unfold zaz; rw [List.foldl_append]; rfl
theorem zgy {α : Type} (S : List (List α)) (ns : List α) : tot (S ++ [ns]) = tot S * ns.length := by unfold tot; rw [List.foldl_append]; rfl
theorem zhs {α : Type} (R : List (List α)) : (zaz R.reverse).length = tot R.reverse := by
  induction R with
  | nil => rfl
  | cons ns R ih => rw [List.reverse_cons, zhh, zgy, zko, ih]
theorem zlf {α : Type} (d : α) (R : List (List α)) (hR : ∀ ns ∈ R, 0 < ns.length) : ∀ i, i < tot R.reverse -> (zaz R.reverse)[i]? = some (zcf d R i) := by
  induction R with
  | nil =>
    intro i hi
    have : i = 0 := by unfold tot at hi; simp at hi; exact hi
    subst this
    rfl
  | cons ns R ih =>
    intro i hi
    rw [List.reverse_cons, zgy] at hi
    have hn := hR ns List.mem_cons_self
    rw [List.reverse_cons, zhh]
    exact zmm d ns hn _ i _ (ih (fun m hm => hR m (List.mem_cons_of_mem _ hm)) (i / ns.length) ((Nat.div_lt_iff_lt_mul hn).mpr hi))
noncomputable def wD (xs : List (List Nat)) : List D := xs.map fun w => .str (tx w)
noncomputable def zgz (i : Nat) (R : List (List (List Nat))) : Nat := R.foldl (fun x ns => x / ns.length) i
theorem zf1 (R : List (List (List Nat))) : ∀ i, (zcf [] R i).length = R.length := by
  induction R with
  | nil => intro i; rfl
  | cons ns R ih => intro i; unfold zcf; rw [List.length_append, ih]; rfl
theorem znd : ∀ (R : List (List (List Nat))) (i k : Nat), k < R.length -> (zcf [] R i)[R.length - 1 - k]? = some ((R.getD k []).getD (zgz i (R.take k) % (R.getD k []).length) [])
  | [], _, _, h => by simp at h
  | ns :: R, i, 0, _ => by
    unfold zcf
    rw [List.length_cons, Nat.add_sub_cancel, Nat.sub_zero, List.getElem?_append_right (by rw [zf1]; exact Nat.le_refl _), zf1, Nat.sub_self]
    rfl
  | ns :: R, i, k + 1, h => by
    have h' : k < R.length := by simpa using h
    unfold zcf
    rw [List.length_cons, List.getElem?_append_left (by rw [zf1]; omega)]
    have ih := znd R (i / ns.length) k h'
    rw [show R.length + 1 - 1 - (k + 1) = R.length - 1 - k by omega, ih]
    rfl
theorem zib (R : List (List (List Nat))) (h : ∀ ns ∈ R, ns.length <= 12) : tot R.reverse <= 12 ^ R.length := by
  induction R with
  | nil => exact Nat.le_refl _
  | cons ns R ih =>
    rw [List.reverse_cons, zgy, List.length_cons, Nat.pow_succ]
    exact Nat.mul_le_mul (ih fun m hm => h m (List.mem_cons_of_mem _ hm)) (h ns List.mem_cons_self)
theorem zd2 {α : Type} {xs : List α} {i : Int} {x : α} (h : 0 <= i) (e : xs[i.toNat]? = some x) : atI xs i = some x := by
  have hl := (List.getElem?_eq_some_iff.mp e).1
  unfold atI ixN
  rw [if_pos h, if_pos (by omega), Option.bind_some, e]
theorem zqs (R : List (List (List Nat))) (hl : R.length <= 3) (h0 : ∀ ns ∈ R, 0 < ns.length) (h1 : ∀ ns ∈ R, ns.length <= 12) : m_3 [.lst ((zaz R.reverse).map fun w => .lst (wD w)), .lst (R.reverse.map fun ns => .lst (wD ns))] = some (.bl true) := by
  have h12 : (12 : Nat) ^ R.length <= 12 ^ 3 := Nat.pow_le_pow_right (by decide) hl
  have ht := zib R h1
  apply zi3
  unfold b_3
  generalize hF : D.lst ((zaz R.reverse).map fun w => .lst (wD w)) = F
  generalize hS : D.lst (R.reverse.map fun ns => .lst (wD ns)) = S
  show wp _ [.im F, .im S, .no, .no, .no, .no, .no, .no] _
  apply zaq
  refine zc6 (d := .int ((tot ([] : List (List (List Nat))) : Nat) : Int)) rfl ?_
  show wp _ [.im F, .im S, .im (.int ((tot ([] : List (List (List Nat))) : Nat) : Int)), .no, .no, .no, .no, .no] _
  apply zaq
  refine zc3 R.reverse (fun ns => D.lst (wD ns)) (fun pre ρ => ∃ a, ρ = [.im F, .im S, .im (.int ((tot pre : Nat) : Int)), a, .no, .no, .no, .no]) (by subst hS; rfl) ⟨_, rfl⟩ ?_ ?_
  · rintro pre ns post ρ he ⟨a, rfl⟩
    refine ⟨_, rfl, ?_⟩
    show wp _ [.im F, .im S, .im (.int ((tot pre : Nat) : Int)), .im (.lst (wD ns)), .no, .no, .no, .no] _
    have hns : ns.length <= 12 := h1 ns (by rw [<- List.mem_reverse, he]; simp)
    have hp : tot pre <= 12 ^ 3 := by
      have h2 := zib pre.reverse fun m hm => h1 m (by rw [<- List.mem_reverse, he]; rw [List.mem_reverse] at hm; simp [hm])
      rw [List.reverse_reverse, List.length_reverse] at h2
      have h3 : pre.length <= 3 := by have := congrArg List.length he; rw [List.length_reverse, List.length_append] at this; omega
      exact Nat.le_trans h2 (Nat.pow_le_pow_right (by decide) h3)
    refine zc6 (d := .int ((tot (pre ++ [ns]) : Nat) : Int)) (zay rfl (zcq rfl (show za3 [.lst (wD ns)] = some (.int (ns.length : Nat)) by show some (D.int ((wD ns).length : Int)) = _; rw [show (wD ns).length = ns.length by unfold wD; rw [List.length_map]])) ?_) ⟨_, rfl⟩
    rw [zgy]
    exact (zg7 (.inl (.inl ⟨by omega, by omega⟩))).trans (by rw [Int.natCast_mul])
  · rintro ρ ⟨a, rfl⟩
    apply zaq
    have hlenF : za3 [F] = some (.int ((tot R.reverse : Nat) : Int)) := by
      subst hF
      show some (D.int (((zaz R.reverse).map _).length : Int)) = _
      rw [List.length_map, zhs]
    refine zev (b := false) ?_ (fun e => by cases e) fun _ => zd6 ?_
    · have e1 : zcg (zcd (zdb "list" (zad 0))) [.im F, .im S, .im (.int ((tot R.reverse : Nat) : Int)), a, .no, .no, .no, .no] = some false := by subst hF; rfl
      have e2 : mB (m2 dNe (za4 za3 (zaf (zad 0) (fun _ => some []))) (zad 2)) [.im F, .im S, .im (.int ((tot R.reverse : Nat) : Int)), a, .no, .no, .no, .no] = some false := zco (zay (zcq rfl hlenF) rfl (by rw [zka, beq_self_eq_true]; rfl))
      unfold mOr
      rw [e1, Option.bind_some]
      exact e2
    show wp _ [.im F, .im S, .im (.int ((tot R.reverse : Nat) : Int)), a, .no, .no, .no, .no] _
    generalize D.int ((tot R.reverse : Nat) : Int) = T
    apply zaq
    refine zc3 (List.range (zaz R.reverse).length) (fun i => D.tup [.int (i : Nat), .lst (wD ((zaz R.reverse).getD i []))]) (fun _ ρ => ∃ a4 a5 a6 a7, ρ = [.im F, .im S, .im T, a, a4, a5, a6, a7]) (by subst hF; exact zo8 (g := fun w => D.lst (wD w)) (xs := zaz R.reverse) [] rfl) ⟨_, _, _, _, rfl⟩ ?_ ?_
    · rintro pre i post ρ he ⟨a4, a5, a6, a7, rfl⟩
      refine ⟨_, rfl, ?_⟩
      have hi : i < tot R.reverse := by
        have : i ∈ List.range (zaz R.reverse).length := by rw [he]; simp
        rw [List.mem_range, zhs] at this
        exact this
      have hw : (zaz R.reverse).getD i [] = zcf [] R i := by rw [List.getD_eq_getElem?_getD, zlf [] R h0 i hi]; rfl
      rw [hw]
      have hlw : za3 [.lst (wD (zcf [] R i))] = some (.int (R.length : Nat)) := by
        show some (D.int ((wD (zcf [] R i)).length : Int)) = _
        unfold wD
        rw [List.length_map, zf1]
      have hlS : za3 [S] = some (.int (R.length : Nat)) := by
        subst hS
        show some (D.int ((R.reverse.map _).length : Int)) = _
        rw [List.length_map, List.length_reverse]
      generalize hW : D.lst (wD (zcf [] R i)) = W at hlw
      show wp _ [.im F, .im S, .im T, a, .im (.int ((i : Nat) : Int)), .im W, a6, a7] _
      apply zaq
      refine zev (b := false) ?_ (fun e => by cases e) fun _ => zd6 ?_
      · have e1 : zcg (zcd (zdb "list" (zad 5))) [.im F, .im S, .im T, a, .im (.int ((i : Nat) : Int)), .im W, a6, a7] = some false := by subst hW; rfl
        have e2 : mB (m2 dNe (za4 za3 (zaf (zad 5) (fun _ => some []))) (za4 za3 (zaf (zad 1) (fun _ => some [])))) [.im F, .im S, .im T, a, .im (.int ((i : Nat) : Int)), .im W, a6, a7] = some false := zco (zay (zcq rfl hlw) (zcq rfl hlS) (by rw [zka, beq_self_eq_true]; rfl))
        unfold mOr
        rw [e1, Option.bind_some]
        exact e2
      show wp _ [.im F, .im S, .im T, a, .im (.int ((i : Nat) : Int)), .im W, a6, a7] _
      have hr : zf6 (zaf (m2 zep (za4 za3 (zaf (zad 1) (fun _ => some []))) (fun _ => some (.int 1))) (zaf (m1 zer (fun _ => some (.int 1))) (zaf (m1 zer (fun _ => some (.int 1))) (fun _ => some [])))) [.im F, .im S, .im T, a, .im (.int ((i : Nat) : Int)), .im W, a6, a7] = some ((List.range R.length).map fun (k : Nat) => D.int ((R.length : Int) - 1 - k)) := by
        have ea : zaf (m2 zep (za4 za3 (zaf (zad 1) (fun _ => some []))) (fun _ => some (.int 1))) (zaf (m1 zer (fun _ => some (.int 1))) (zaf (m1 zer (fun _ => some (.int 1))) (fun _ => some []))) [.im F, .im S, .im T, a, .im (.int ((i : Nat) : Int)), .im W, a6, a7] = some [.int ((R.length : Int) - 1), .int (-1), .int (-1)] := za8 (zay (zcq rfl hlS) rfl zhy) (za8 rfl (za8 rfl rfl))
        unfold zf6
        rw [ea, Option.bind_some]
        generalize hv : (R.length : Int) - 1 = v
        show (if (-1 : Int) = -1 /\ (-(2 ^ 62) <= v /\ v < 2 ^ 62 /\ -(2 ^ 62) <= (-1 : Int) /\ (-1 : Int) < 2 ^ 62) then some (zfh v (v - -1).toNat) else none) = _
        rw [if_pos ⟨rfl, by omega, by omega, by decide, by decide⟩]
        unfold zfh
        rw [show (v - -1).toNat = R.length by omega]
      refine zc3 (List.range R.length) (fun (k : Nat) => D.int ((R.length : Int) - 1 - k)) (fun pre ρ => ∃ b6 b7, ρ = [.im F, .im S, .im T, a, .im (.int ((zgz i (R.take pre.length) : Nat) : Int)), .im W, b6, b7]) hr ⟨_, _, rfl⟩ ?_ ?_
      · rintro pre' k post' ρ he' ⟨b6, b7, rfl⟩
        have hk : k = pre'.length /\ k < R.length := by
          have h2 : (List.range R.length)[pre'.length]? = some k := by rw [he', List.getElem?_append_right (Nat.le_refl _), Nat.sub_self]; rfl
          obtain ⟨hlt, e⟩ := List.getElem?_eq_some_iff.mp h2
          rw [List.getElem_range] at e
          rw [List.length_range] at hlt
          omega
        obtain ⟨hk1, hk2⟩ := hk
        rw [<- hk1]
        generalize hx : zgz i (R.take k) = x
        have hRk : R[k]? = some (R.getD k []) := by rw [List.getD_eq_getElem?_getD, List.getElem?_eq_getElem hk2]; rfl
        have hmem : R.getD k [] ∈ R := List.mem_of_getElem? hRk
        have hnx : zgz i (R.take (k + 1)) = x / (R.getD k []).length := by
          unfold zgz at hx ⊢
          rw [List.take_add_one, hRk, List.foldl_append, hx]
          rfl
        have hwk := znd R i k hk2
        rw [hx] at hwk
        have p0 := h0 _ hmem
        have p1 := h1 _ hmem
        generalize hns : R.getD k [] = ns at *
        refine ⟨_, rfl, ?_⟩
        show wp _ [.im F, .im S, .im T, a, .im (.int ((x : Nat) : Int)), .im W, .im (.int ((R.length : Int) - 1 - k)), b7] _
        have hat : ((R.length : Int) - 1 - k).toNat = R.length - 1 - k := by omega
        have eS : ∀ c4 c7, mIx (zbm 1) (zad 6) [.im F, .im S, .im T, a, c4, .im W, .im (.int ((R.length : Int) - 1 - k)), c7] = some (.lst (wD ns)) := fun c4 c7 => by
          subst hS
          refine zhb (ds := R.reverse.map fun ns => D.lst (wD ns)) rfl rfl (zd2 (by omega) ?_)
          rw [hat, List.getElem?_map, List.getElem?_reverse (by omega), show R.length - 1 - (R.length - 1 - k) = k by omega, hRk]
          rfl
        have eW : ∀ c4 c7, mIx (zbm 5) (zad 6) [.im F, .im S, .im T, a, c4, .im W, .im (.int ((R.length : Int) - 1 - k)), c7] = some (.str (tx (ns.getD (x % ns.length) []))) := fun c4 c7 => by
          subst hW
          refine zhb (ds := wD (zcf [] R i)) rfl rfl (zd2 (by omega) ?_)
          rw [hat]
          unfold wD
          rw [List.getElem?_map, hwk]
          rfl
        apply zaq
        refine zwx (d := .tup [.int ((x / ns.length : Nat) : Int), .int ((x % ns.length : Nat) : Int)]) (ρ' := [.im F, .im S, .im T, a, .im (.int ((x / ns.length : Nat) : Int)), .im W, .im (.int ((R.length : Int) - 1 - k)), .im (.int ((x % ns.length : Nat) : Int))]) ?_ rfl ?_
        · refine zcq (ds := [.int (x : Nat), .int (ns.length : Nat)]) (za8 rfl (za8 (zcq (za8 (eS _ _) rfl) ?_) rfl)) ?_
          · show some (D.int ((wD ns).length : Int)) = _
            unfold wD
            rw [List.length_map]
          · show (if 0 < ((ns.length : Nat) : Int) /\ ((ns.length : Nat) : Int) < 1073741824 then some (D.tup [.int (((x : Nat) : Int) / (ns.length : Nat)), .int (((x : Nat) : Int) % (ns.length : Nat))]) else none) = _
            rw [if_pos ⟨by omega, by omega⟩, Int.natCast_ediv, Int.natCast_emod]
        · show wp _ [.im F, .im S, .im T, a, .im (.int ((x / ns.length : Nat) : Int)), .im W, .im (.int ((R.length : Int) - 1 - k)), .im (.int ((x % ns.length : Nat) : Int))] _
          refine zev (b := false) ?_ (fun e => by cases e) fun _ => zd6 ?_
          · have e1 : zcg (zcd (zdb "str" (mIx (zbm 5) (zad 6)))) [.im F, .im S, .im T, a, .im (.int ((x / ns.length : Nat) : Int)), .im W, .im (.int ((R.length : Int) - 1 - k)), .im (.int ((x % ns.length : Nat) : Int))] = some false := by
              refine zje (b := true) (zj9 (d := .bl true) ?_ rfl)
              unfold zdb
              rw [eW]
              rfl
            have e2 : mB (m2 dNe (mIx (zbm 5) (zad 6)) (mIx (zb1 (mIx (zbm 1) (zad 6))) (zad 7))) [.im F, .im S, .im T, a, .im (.int ((x / ns.length : Nat) : Int)), .im W, .im (.int ((R.length : Int) - 1 - k)), .im (.int ((x % ns.length : Nat) : Int))] = some false := by
              refine zco (zay (eW _ _) (zhb (ds := wD ns) (zks (eS _ _) rfl) rfl (zd2 (x := .str (tx (ns.getD (x % ns.length) []))) (by omega) ?_)) (by rw [zm8, beq_self_eq_true]; rfl))
              have hm : x % ns.length < ns.length := Nat.mod_lt _ p0
              rw [Int.toNat_natCast]
              unfold wD
              rw [List.getElem?_map, List.getD_eq_getElem?_getD, List.getElem?_eq_getElem hm]
              rfl
            unfold mOr
            rw [e1, Option.bind_some]
            exact e2
          · refine ⟨.im (.int ((R.length : Int) - 1 - k)), .im (.int ((x % ns.length : Nat) : Int)), ?_⟩
            rw [List.length_append, show ([k] : List Nat).length = 1 from rfl, <- hk1, hnx]
      · rintro ρ ⟨b6, b7, rfl⟩
        exact ⟨_, _, _, _, rfl⟩
    · rintro ρ ⟨a4, a5, a6, a7, rfl⟩
      exact zk5 rfl (ziy rfl)
theorem zsp {f : List Sl -> Option (List D)} {ρ : List Sl} {ds : List D} (h : f ρ = some ds) : zdg f ρ = some (.lst (ds.map .fz)) := by
  unfold zdg
  rw [h]
  rfl
theorem zu9 {g : D -> List Sl -> Option (List Sl)} {ft : List Sl -> Option Bool} {fe : List Sl -> Option O} {ρ ρ1 : List Sl} {d : D} {y : O} (h1 : g d ρ = some ρ1) (h2 : ft ρ1 = some true) (h3 : fe ρ1 = some y) : zdq g ft fe ρ d = some (some y) := by
  unfold zdq
  rw [h1, Option.bind_some, h2, Option.bind_some, if_pos rfl, h3]
  rfl
theorem zuu {α : Type} {k : Nat} {js : List Nat} {fi : List Sl -> Option (List D)} {g : D -> List Sl -> Option (List Sl)} {ft : List Sl -> Option Bool} {fe : List Sl -> Option O} {ρ : List Sl} (xs : List α) (f : α -> D) (φ : α -> O) (hi : fi ρ = some (xs.map f)) (hl : xs.length <= 16777216)
    (ht : ∀ x ∈ xs, zdq g ft fe (za2 k js ρ) (f x) = some (some (φ x))) : zex k js fi g ft fe ρ = some (.lst (xs.map φ)) := by
  unfold zex
  rw [hi, Option.bind_some, if_pos (by rw [List.length_map]; exact hl), zmy f φ ht]
  rfl
theorem zjj {m : List D -> Option O} {f : List Sl -> Option (List D)} {ρ : List Sl} {ds : List D} {o : O} (h : f ρ = some ds) (h' : m ds = some o) : zeh m f ρ = some o := by
  unfold zeh
  rw [h, Option.bind_some, h']
theorem zs5 {f : List Sl -> Option O} {ρ : List Sl} {o : O} (h : f ρ = some o) (hk : o.kn = true) : zB f ρ = some o.toD := by
  unfold zB
  rw [h, Option.bind_some, if_pos hk]
theorem zoo {i : Nat} {ρ : List Sl} {o : O} (h : ρ[i]? = some (.deep o)) (hk : o.kn = true) : zde i ρ = some o.toD := by
  unfold zde
  rw [h]
  exact if_pos hk
theorem zru {n : Nat} {F : List Sl -> Option Fl} {ds : List D} {o : O} (h : wp F (zcb n ds) (znm fun t => t = o)) : zff n F ds = some o := by
  obtain ⟨t, e, rfl⟩ := zqz h
  exact e
theorem zmk : ∀ (ds : List D), O.kns (ds.map .fz) = true
  | [] => rfl
  | d :: ds => by rw [List.map_cons, O.kns, O.kn, zmk ds]; rfl
theorem zn0 {α : Type} (φ : α -> O) : ∀ (xs : List α), (∀ x ∈ xs, (φ x).kn = true) -> O.kns (xs.map φ) = true
  | [], _ => rfl
  | x :: xs, h => by rw [List.map_cons, O.kns, h x List.mem_cons_self, zn0 φ xs fun y hy => h y (List.mem_cons_of_mem _ hy)]; rfl
theorem zly {α : Type} (φ : α -> O) (f : α -> D) : ∀ (xs : List α), (∀ x ∈ xs, (φ x).toD = f x) -> O.toDs (xs.map φ) = xs.map f
  | [], _ => rfl
  | x :: xs, h => by rw [List.map_cons, O.toDs, h x List.mem_cons_self, zly φ f xs fun y hy => h y (List.mem_cons_of_mem _ hy)]; rfl
noncomputable abbrev Kd := List Nat × List (List Nat)
noncomputable def kdD (k : Kd) : D := .tup [.str (tx k.1), .lst (wD k.2)]
noncomputable def zct (kds : List Kd) : List Key := kds.map fun k => Sum.inr (tx k.1)
noncomputable def zdc (kds : List Kd) : List D := kds.map fun k => .lst (wD k.2)
theorem zn4 : ∀ kds : List Kd, zdh (kds.map kdD) = some (zct kds, zdc kds)
  | [] => rfl
  | k :: kds => by
    rw [List.map_cons]
    show ((zey (.str (tx k.1))).bind fun y => (zdh (kds.map kdD)).map fun r => (y :: r.1, D.lst (wD k.2) :: r.2)) = _
    rw [zn4 kds]
    rfl
theorem zuz {a b : List Nat} (h : a ≠ b) : (Sum.inr (tx a) : Key) ≠ Sum.inr (tx b) := fun e => h (zl5 (Sum.inr.inj e))
theorem znq : ∀ kds : List Kd, (kds.map (·.1)).Nodup -> (zct kds).Nodup
  | [], _ => List.nodup_nil
  | k :: kds, h => by
    rw [List.map_cons] at h
    obtain ⟨h1, h2⟩ := List.nodup_cons.mp h
    refine List.nodup_cons.mpr ⟨fun hm => ?_, znq kds h2⟩
    obtain ⟨q, hq, e⟩ := List.mem_map.mp hm
    exact h1 (List.mem_map.mpr ⟨q, hq, zl5 (Sum.inr.inj e)⟩)
theorem zl1 : ∀ (kds : List Kd) (q : Kd), (kds.map (·.1)).Nodup -> q ∈ kds -> zfp (zct kds) (zdc kds) (.inr (tx q.1)) = some (.lst (wD q.2))
  | [], q, _, h => (List.not_mem_nil h).elim
  | k :: kds, q, nd, h => by
    rw [List.map_cons] at nd
    obtain ⟨h1, h2⟩ := List.nodup_cons.mp nd
    have hz : (zct (k :: kds)).zip (zdc (k :: kds)) = (Sum.inr (tx k.1), D.lst (wD k.2)) :: (zct kds).zip (zdc kds) := rfl
    unfold zfp
    rw [hz, List.find?_cons]
    rcases List.mem_cons.mp h with e | e
    · subst e
      simp
    · have hne : k.1 ≠ q.1 := fun z => h1 (List.mem_map.mpr ⟨q, e, z.symm⟩)
      rw [decide_eq_false (zuz hne)]
      exact zl1 kds q h2 e
noncomputable def zo (w : List (List Nat)) : O := .lst ((wD w).map .fz)
theorem zj7 : ∀ ds : List D, O.toDs (ds.map .fz) = ds
  | [] => rfl
  | d :: ds => by rw [List.map_cons, O.toDs, O.toD, zj7 ds]
theorem allFz : ∀ ds : List D, (ds.map O.fz).all O.isFz = true
  | [] => rfl
  | d :: ds => by rw [List.map_cons, List.all_cons, allFz ds]; rfl
theorem znw : ∀ F : List (List (List Nat)), zce (F.map zo) = some (F.map fun w => .lst (wD w))
  | [] => rfl
  | w :: F => by
    have e : ze3 (zo w) = some (.lst (wD w)) := by
      show (if ((wD w).map O.fz).all O.isFz then some (D.lst (O.toDs ((wD w).map .fz))) else none) = _
      rw [if_pos (allFz _), zj7]
    rw [List.map_cons, zce, e, Option.bind_some, znw F]
    rfl
theorem zuq (R : List (List (List Nat))) : ∀ w ∈ zaz R.reverse, w.length = R.length := by
  induction R with
  | nil => intro w hw; cases List.mem_singleton.mp hw; rfl
  | cons ns R ih =>
    intro w hw
    rw [List.reverse_cons, zhh] at hw
    obtain ⟨v, hv, h2⟩ := List.mem_flatMap.mp hw
    obtain ⟨n, _, rfl⟩ := List.mem_map.mp h2
    rw [List.length_append, ih v hv]
    rfl
theorem zmi (kds : List Kd) (nd : (kds.map (·.1)).Nodup) (hk : kds.length <= 1000) (q : List (List Nat × Kd)) (hq : ∀ p ∈ q, p.2 ∈ kds) (h12 : ∀ p ∈ q, p.2.2.length <= 12) (hl : q.length <= 3) :
    zem [.lst (q.map fun p => .tup [.str (tx p.1), .str (tx p.2.1)]), .lst (kds.map kdD)] = some (.lst ((zaz (q.map (·.2.2))).map zo)) := by
  apply zru
  unfold b_4
  generalize hP : D.lst (q.map fun p => .tup [.str (tx p.1), .str (tx p.2.1)]) = P
  generalize hK : D.lst (kds.map kdD) = Kk
  show wp _ [.im P, .im Kk, .no, .no, .no, .no, .no, .no] _
  apply zaq
  have hs : zh6 2 (zad 1) [.im P, .im Kk, .no, .no, .no, .no, .no, .no] = some (.nx [.im P, .im Kk, .ownd (zct kds) (zdc kds), .no, .no, .no, .no, .no]) := by
    subst hK
    show ((zdh (kds.map kdD)).bind fun r => if r.1.Nodup /\ r.1.length <= 1000 then some (Fl.nx [.im P, .im (.lst (kds.map kdD)), .ownd r.1 r.2, .no, .no, .no, .no, .no]) else none) = _
    rw [zn4, Option.bind_some, if_pos ⟨znq kds nd, by unfold zct; rw [List.length_map]; exact hk⟩]
  refine zug hs ?_
  apply zaq
  refine zsx (ks := zct kds) (xs := zdc kds) rfl ?_
  refine zg5 (o := .lst ((zaz ([] : List (List (List Nat)))).map zo)) rfl ?_
  show wp _ [.im P, .im Kk, .im (.kd (zct kds) (zdc kds)), .deep (.lst ((zaz ([] : List (List (List Nat)))).map zo)), .no, .no, .no, .no] _
  generalize hN : Sl.im (.kd (zct kds) (zdc kds)) = N
  apply zaq
  refine zc3 q (fun p => D.tup [.str (tx p.1), .str (tx p.2.1)]) (fun pre ρ => ∃ a4 a5 a6 a7, ρ = [.im P, .im Kk, N, .deep (.lst ((zaz (pre.map (·.2.2))).map zo)), a4, a5, a6, a7]) (by subst hP; rfl) ⟨_, _, _, _, rfl⟩ ?_ ?_
  · rintro pre p post ρ he ⟨a4, a5, a6, a7, rfl⟩
    have hp : p ∈ q := by rw [he]; simp
    have hFl : (zaz (pre.map (·.2.2))).length <= 12 ^ 3 := by
      have h2 := zib (pre.map (·.2.2)).reverse fun m hm => by
        rw [List.mem_reverse] at hm
        obtain ⟨z, hz, e⟩ := List.mem_map.mp hm
        rw [<- e]
        exact h12 z (by rw [he]; simp [hz])
      have h3 := zhs (pre.map (·.2.2)).reverse
      rw [List.reverse_reverse] at h2 h3
      rw [h3]
      have h4 : pre.length <= 3 := by have := congrArg List.length he; rw [List.length_append] at this; omega
      rw [List.length_reverse, List.length_map] at h2
      exact Nat.le_trans h2 (Nat.pow_le_pow_right (by decide) h4)
    have hFm : ∀ w ∈ zaz (pre.map (·.2.2)), w.length <= 1000 := fun w hw => by
      have := zuq (pre.map (·.2.2)).reverse w (by rw [List.reverse_reverse]; exact hw)
      rw [this, List.length_reverse, List.length_map]
      have := congrArg List.length he
      rw [List.length_append] at this
      omega
    have hns := h12 p hp
    have hv := zl1 kds p.2 nd (hq p hp)
    rw [List.map_append, show [p].map (fun x => x.2.2) = [p.2.2] from rfl, zhh]
    generalize zaz (pre.map (·.2.2)) = F at hFl hFm
    generalize hnm : p.2.2 = ns at hns hv
    refine ⟨_, rfl, ?_⟩
    show wp _ [.im P, .im Kk, N, .deep (.lst (F.map zo)), .im (.str (tx p.1)), .im (.str (tx p.2.1)), a6, a7] _
    apply zaq
    refine zg5 (o := .lst ((zbi [] ns).map zo)) rfl ?_
    show wp _ [.im P, .im Kk, N, .deep (.lst (F.map zo)), .im (.str (tx p.1)), .im (.str (tx p.2.1)), .deep (.lst ((zbi [] ns).map zo)), a7] _
    apply zaq
    refine zsf rfl (znw F) ?_
    show wp _ [.im P, .im Kk, N, .im (.lst (F.map fun w => .lst (wD w))), .im (.str (tx p.1)), .im (.str (tx p.2.1)), .deep (.lst ((zbi [] ns).map zo)), a7] _
    refine zc3 F (fun w => D.lst (wD w)) (fun pre2 ρ => ∃ b7, ρ = [.im P, .im Kk, N, .im (.lst (F.map fun w => .lst (wD w))), .im (.str (tx p.1)), .im (.str (tx p.2.1)), .deep (.lst ((zbi pre2 ns).map zo)), b7]) rfl ⟨_, rfl⟩ ?_ ?_
    · rintro pre2 w post2 ρ he2 ⟨b7, rfl⟩
      refine ⟨_, rfl, ?_⟩
      show wp _ [.im P, .im Kk, N, .im (.lst (F.map fun w => .lst (wD w))), .im (.str (tx p.1)), .im (.str (tx p.2.1)), .deep (.lst ((zbi pre2 ns).map zo)), .im (.lst (wD w))] _
      have hpl : pre2.length <= F.length := by rw [he2, List.length_append]; omega
      refine zrh (os := (zbi pre2 ns).map zo) (ps := ns.map fun n => zo (w ++ [n])) ?_ rfl ?_ ?_
      · refine zuu ns (fun n => D.str (tx n)) (fun n => zo (w ++ [n])) (zks (d := .lst (wD ns)) (zay (x := .kd (zct kds) (zdc kds)) (y := .str (tx p.2.1)) (by subst hN; rfl) rfl hv) rfl) (by omega) fun n _ => zu9 rfl rfl ?_
        show zdg _ _ = _
        refine (zsp (ds := wD w ++ [.str (tx n)]) ?_).trans ?_
        · show (if (wD w).length + 1 <= 16777216 then some (wD w ++ [D.str (tx n)]) else none) = _
          have := hFm w (by rw [he2]; simp)
          rw [if_pos (by unfold wD; rw [List.length_map]; omega)]
        · unfold zo wD
          simp
      · rw [List.length_map, List.length_map, zko]
        have : pre2.length * ns.length <= 12 ^ 3 * 12 := Nat.mul_le_mul (Nat.le_trans hpl hFl) hns
        omega
      · refine ⟨.im (.lst (wD w)), ?_⟩
        have e : (zbi (pre2 ++ [w]) ns).map zo = (zbi pre2 ns).map zo ++ ns.map fun n => zo (w ++ [n]) := by
          unfold zbi
          rw [List.flatMap_append, List.map_append]
          simp [Function.comp_def]
        rw [e]
        rfl
    · rintro ρ ⟨b7, rfl⟩
      refine zqp rfl ?_
      exact ⟨_, _, _, _, rfl⟩
  · rintro ρ ⟨a4, a5, a6, a7, rfl⟩
    exact zrr rfl ⟨_, rfl, rfl⟩
theorem zo9 (kds : List Kd) (hk : kds.length <= 1000) : m_7 [.lst (kds.map kdD)] = some (.lst (kds.map kdD)) := by
  apply zi3
  unfold b_7
  show wp _ [.im (.lst (kds.map kdD))] _
  exact zpq (d := kds.map kdD) (zwh kds kdD kdD rfl (by omega) fun k _ => ztc rfl rfl rfl) (zq3 rfl)
noncomputable def inW (w : List Nat) (xs : List (List Nat)) : Bool := xs.any fun x => eqX (.str (tx x)) (.str (tx w))
theorem zuw (w : List Nat) (xs : List (List Nat)) : zfq (.str (tx w)) (.lst (wD xs)) = some (.bl (!inW w xs)) := by
  unfold zfq inD
  show Option.map _ (if ((D.str (tx w)).scalar && (wD xs).all D.scalar) = true then some ((wD xs).any fun d => eqX d (.str (tx w))) else none) = _
  unfold wD
  rw [if_pos (by rw [List.all_map]; exact (Bool.and_eq_true _ _).mpr ⟨rfl, List.all_eq_true.mpr fun _ _ => rfl⟩), List.any_map]
  rfl
noncomputable def spn (v : Int) : Int := if v = 0 then 26 else 2
theorem zux (v : Int) : 0 < spn v /\ spn v <= 26 := by unfold spn; split <;> decide
noncomputable def nmQ (s : Int) : Int × List Nat := smP (1 + dr s 7) (spn (dr (nx s) 2)) (nx (nx s))
noncomputable def zdw (p : Int × List (List Nat)) : Int × List (List Nat) := ((nmQ p.1).1, if inW (113 :: (nmQ p.1).2) p.2 then p.2 else p.2 ++ [113 :: (nmQ p.1).2])
noncomputable def nms : Nat -> Int × List (List Nat) -> Int × List (List Nat)
  | 0, p => p
  | n + 1, p => zdw (nms n p)
theorem zms (s : Int) : okS (nmQ s).1 /\ (nmQ s).2.length <= 7 := by
  have d7 := zcl s (k := 7) (by decide)
  obtain ⟨a, b⟩ := zh7 (1 + dr s 7) (spn (dr (nx s) 2)) (nx (nx s)) (zb6 _) (by omega)
  exact ⟨a, by unfold nmQ; omega⟩
theorem zjg (s : Int) (h : okS s) : ∀ n, okS (nms n (s, [])).1 /\ (nms n (s, [])).2.length <= n /\ (0 < n -> 0 < (nms n (s, [])).2.length)
  | 0 => ⟨h, Nat.le_refl _, fun h => absurd h (Nat.lt_irrefl _)⟩
  | n + 1 => by
    obtain ⟨a, b, c⟩ := zjg s h n
    show okS (zdw (nms n (s, []))).1 /\ (zdw (nms n (s, []))).2.length <= n + 1 /\ (0 < n + 1 -> 0 < (zdw (nms n (s, []))).2.length)
    refine ⟨(zms _).1, ?_, fun _ => ?_⟩
    · unfold zdw
      dsimp only
      split
      · omega
      · rw [List.length_append, List.length_singleton]; omega
    · unfold zdw
      dsimp only
      split
      · rename_i hi
        cases hx : (nms n (s, [])).2 with
        | nil => rw [hx] at hi; cases hi
        | cons y ys => simp
      · rw [List.length_append, List.length_singleton]; omega
noncomputable def abL : List Nat := [97, 98, 99, 100]
theorem abT : ("abcd" : Str) = tx abL := by decide +kernel
theorem qT : ("q" : Str) = tx [113] := by decide +kernel
theorem kT : ("k" : Str) = tx [107] := by decide +kernel
noncomputable def kNs (most s : Int) : Int × List (List Nat) := nms (1 + dr s most).toNat (nx s, [])
noncomputable def kSm (most : Int) (k : Nat) (s : Int) : Int × List Nat := smP k 26 (kNs most s).1
noncomputable def zej (most : Int) (k : Nat) (p : Int × List Kd) : Int × List Kd := ((kSm most k p.1).1, p.2 ++ [((kSm most k p.1).2 ++ [107] ++ [abL.getD k 0], (kNs most p.1).2)])
noncomputable def kIt (most s : Int) : Nat -> Int × List Kd
  | 0 => (s, [])
  | n + 1 => zej most n (kIt most s n)
theorem zm6 (most s : Int) (h : 0 < most /\ most <= 12) : okS (kNs most s).1 /\ (kNs most s).2.length <= 12 /\ 0 < (kNs most s).2.length := by
  have d := zcl s (k := most) h.1
  obtain ⟨a, b, c⟩ := zjg (nx s) (zb6 _) (1 + dr s most).toNat
  exact ⟨a, by unfold kNs; omega, c (by omega)⟩
theorem zj4 (most s : Int) (hm : 0 < most /\ most <= 12) (h : okS s) : ∀ n, okS (kIt most s n).1 /\ (kIt most s n).2.length = n /\ (∀ k ∈ (kIt most s n).2, 0 < k.2.length /\ k.2.length <= 12) /\ (kIt most s n).2.map (fun k => k.1.getLast?) = (List.range n).map fun i => some (abL.getD i 0)
  | 0 => ⟨h, rfl, fun k hk => (List.not_mem_nil hk).elim, rfl⟩
  | n + 1 => by
    obtain ⟨a, b, c, d⟩ := zj4 most s hm h n
    obtain ⟨e, f, g⟩ := zm6 most (kIt most s n).1 hm
    show okS (zej most n (kIt most s n)).1 /\ (zej most n (kIt most s n)).2.length = n + 1 /\ (∀ k ∈ (zej most n (kIt most s n)).2, 0 < k.2.length /\ k.2.length <= 12) /\ (zej most n (kIt most s n)).2.map (fun k => k.1.getLast?) = (List.range (n + 1)).map fun i => some (abL.getD i 0)
    refine ⟨(zh7 _ _ _ e (by omega)).1, ?_, ?_, ?_⟩
    · show ((kIt most s n).2 ++ [_]).length = n + 1
      rw [List.length_append, b]
      rfl
    · intro k hk
      rcases List.mem_append.mp (show k ∈ (kIt most s n).2 ++ [_] from hk) with h1 | h1
      · exact c k h1
      · rw [List.mem_singleton] at h1
        rw [h1]
        exact ⟨g, f⟩
    · show ((kIt most s n).2 ++ [_]).map _ = _
      rw [List.map_append, d, List.range_succ, List.map_append]
      congr 1
      show [(_ ++ [abL.getD n 0]).getLast?] = [some (abL.getD n 0)]
      rw [List.getLast?_append]
      rfl
noncomputable def zbc (most s : Int) : Int × List Kd := kIt most (nx s) (1 + dr s 4).toNat
theorem zvd (most s : Int) (hm : 0 < most /\ most <= 12) : okS (zbc most s).1 /\ (0 < (zbc most s).2.length /\ (zbc most s).2.length <= 4) /\ (∀ k ∈ (zbc most s).2, 0 < k.2.length /\ k.2.length <= 12) /\ ((zbc most s).2.map (·.1)).Nodup := by
  have d4 := zcl s (k := 4) (by decide)
  obtain ⟨a, b, c, d⟩ := zj4 most (nx s) hm (zb6 _) (1 + dr s 4).toNat
  refine ⟨a, by unfold zbc; omega, c, ?_⟩
  have hn : ∀ n, n <= 4 -> ((List.range n).map fun i => some (abL.getD i 0)).Nodup := by decide
  have h2 := hn (1 + dr s 4).toNat (by omega)
  rw [<- d] at h2
  have e : (kIt most (nx s) (1 + dr s 4).toNat).2.map (fun k => k.1.getLast?) = ((zbc most s).2.map (·.1)).map List.getLast? := by rw [List.map_map]; rfl
  rw [e] at h2
  exact List.Pairwise.imp (fun hne he => hne (congrArg _ he)) (List.pairwise_map.mp h2)
theorem zmh {i : Nat} {f : Xe} {ρ ρ1 : List Sl} {d : D} {xs0 xs : List D} {K : Fl -> Prop} (h0 : ρ[i]? = some (.own xs0)) (h : f ρ = some (d, ρ1)) (h1 : ρ1[i]? = some (.own xs)) (hl : xs.length < 16777216) (k : K (.nx (ρ1.set i (.own (xs ++ [d]))))) : wp (zfg i f) ρ K := ⟨_, by
  unfold zfg
  rw [h0]
  show (f ρ).bind _ = _
  rw [h, Option.bind_some]
  dsimp only
  rw [h1]
  exact if_pos hl, k⟩
theorem zlx {f : Xa} {ρ ρ1 : List Sl} {ds : List D} (h : f ρ = some (ds, ρ1)) : zfn f ρ = some (.tup ds, ρ1) := by
  unfold zfn
  rw [h]
  rfl
theorem zut (l : Addr) (most s : Int) (hs : okS s) (hm : 0 < most /\ most <= 12) : m_5 l [] [.int most] [.int s] = some ([.int (zbc most s).1], .lst ((zbc most s).2.map kdD)) := by
  have rk := zj4 most (nx s) hm (zb6 _)
  have d4 := zcl s (k := 4) (by decide)
  have w : wp b_5 [.pin l [.int s], .im (.int most), .no, .no, .no, .no, .no] (fun o => ∃ a3 a4 a5 a6, o = .rtS (.lst ((zbc most s).2.map kdD)) [.pin l [.int (zbc most s).1], .im (.int most), .im (.lst ((zbc most s).2.map kdD)), a3, a4, a5, a6]) := by
    unfold b_5
    apply zaq
    refine zfk (d := []) rfl ?_
    show wp _ [.pin l [.int s], .im (.int most), .own [], .no, .no, .no, .no] _
    apply zaq
    have hr : zdp (zaj (mX2 zbj (mX (fun _ => some (.int 1))) (zbd 0 m_0 (zaj (mX (fun _ => some (.int 4))) zau))) zau) [.pin l [.int s], .im (.int most), .own [], .no, .no, .no, .no] = some ((List.range (1 + dr s 4).toNat).map (fun (i : Nat) => D.int i), [.pin l [.int (nx s)], .im (.int most), .own [], .no, .no, .no, .no]) :=
      zlm (zbs (zck (zba rfl) (zii l s 4 _ rfl hs (by decide)) zd4) rfl) (zhr _ (by omega) (by omega))
    refine zov hr ?_
    refine zc3 (List.range (1 + dr s 4).toNat) (fun (i : Nat) => D.int i) (fun pre ρ => ∃ a3 a4 a5 a6, ρ = [.pin l [.int (kIt most (nx s) pre.length).1], .im (.int most), .own ((kIt most (nx s) pre.length).2.map kdD), a3, a4, a5, a6]) rfl ⟨_, _, _, _, rfl⟩ ?_ ?_
    · rintro pre k post ρ he ⟨a3, a4, a5, a6, rfl⟩
      have hk : k = pre.length /\ k < 4 := by
        have h2 : (List.range (1 + dr s 4).toNat)[pre.length]? = some k := by rw [he, List.getElem?_append_right (Nat.le_refl _), Nat.sub_self]; rfl
        obtain ⟨hlt, e⟩ := List.getElem?_eq_some_iff.mp h2
        rw [List.getElem_range] at e
        rw [List.length_range] at hlt
        omega
      obtain ⟨hk1, hk2⟩ := hk
      obtain ⟨r1, r2, _, _⟩ := rk pre.length
      rw [<- hk1] at r1 r2
      have hst : kIt most (nx s) (pre ++ [k]).length = zej most k (kIt most (nx s) k) := by
        rw [List.length_append, show ([k] : List Nat).length = 1 from rfl, <- hk1]
        rfl
      rw [hst, <- hk1]
      generalize hp : kIt most (nx s) k = p at r1 r2
      have dm := zcl p.1 (k := most) hm.1
      refine ⟨_, rfl, ?_⟩
      show wp _ [.pin l [.int p.1], .im (.int most), .own (p.2.map kdD), .im (.int k), a4, a5, a6] _
      apply zaq
      refine zfk (d := []) rfl ?_
      show wp _ [.pin l [.int p.1], .im (.int most), .own (p.2.map kdD), .im (.int k), .own [], a5, a6] _
      apply zaq
      have hr2 : zdp (zaj (mX2 zbj (mX (fun _ => some (.int 1))) (zbd 0 m_0 (zaj (mX (zad 1)) zau))) zau) [.pin l [.int p.1], .im (.int most), .own (p.2.map kdD), .im (.int k), .own [], a5, a6] = some ((List.range (1 + dr p.1 most).toNat).map (fun (i : Nat) => D.int i), [.pin l [.int (nx p.1)], .im (.int most), .own (p.2.map kdD), .im (.int k), .own [], a5, a6]) :=
        zlm (zbs (zck (zba rfl) (zii l p.1 most _ rfl r1 hm.1) zd4) rfl) (zhr _ (by omega) (by omega))
      refine zov hr2 ?_
      have nk := zjg (nx p.1) (zb6 _)
      refine zc3 (List.range (1 + dr p.1 most).toNat) (fun (i : Nat) => D.int i) (fun pre ρ => ∃ a5 a6, ρ = [.pin l [.int (nms pre.length (nx p.1, [])).1], .im (.int most), .own (p.2.map kdD), .im (.int k), .own (wD (nms pre.length (nx p.1, [])).2), a5, a6]) rfl ⟨_, _, rfl⟩ ?_ ?_
      · rintro pre2 j post2 ρ he2 ⟨b5, b6, rfl⟩
        have hj : pre2.length < 12 := by
          have := congrArg List.length he2
          rw [List.length_range, List.length_append, List.length_cons] at this
          omega
        obtain ⟨n1, n2, _⟩ := nk pre2.length
        have hst2 : nms (pre2 ++ [j]).length (nx p.1, []) = zdw (nms pre2.length (nx p.1, [])) := by
          rw [List.length_append]
          rfl
        rw [hst2]
        generalize nms pre2.length (nx p.1, []) = q at n1 n2
        have d7 := zcl q.1 (k := 7) (by decide)
        have d2 := zcl (nx q.1) (k := 2) (by decide)
        obtain ⟨g1, g2⟩ := zms q.1
        refine ⟨_, rfl, ?_⟩
        show wp _ [.pin l [.int q.1], .im (.int most), .own (p.2.map kdD), .im (.int k), .own (wD q.2), .im (.int j), b6] _
        apply zaq
        have e26 : zd3 (.lst [.int 26, .int 2]) (.int (dr (nx q.1) 2)) = some (.int (spn (dr (nx q.1) 2))) := by
          have : dr (nx q.1) 2 = 0 \/ dr (nx q.1) 2 = 1 := by omega
          rcases this with e | e <;> (rw [e]; rfl)
        have ec : zbd 0 m_2 (zaj (mX2 zbj (mX (fun _ => some (.int 1))) (zbd 0 m_0 (zaj (mX (fun _ => some (.int 7))) zau))) (zaj (mX2 zd3 (mX (zbo (zaf (fun _ => some (.int 26)) (zaf (fun _ => some (.int 2)) (fun _ => some []))))) (zbd 0 m_0 (zaj (mX (fun _ => some (.int 2))) zau))) zau)) [.pin l [.int q.1], .im (.int most), .own (p.2.map kdD), .im (.int k), .own (wD q.2), .im (.int j), b6] = some (.str (tx (nmQ q.1).2), [.pin l [.int (nmQ q.1).1], .im (.int most), .own (p.2.map kdD), .im (.int k), .own (wD q.2), .im (.int j), b6]) :=
          zir (i := 0) (ρ1 := [.pin l [.int (nx (nx q.1))], .im (.int most), .own (p.2.map kdD), .im (.int k), .own (wD q.2), .im (.int j), b6]) rfl (zbs (zck (zba rfl) (zii l q.1 7 _ rfl n1 (by decide)) zd4) (zbs (zck (zba rfl) (zii l (nx q.1) 2 _ rfl (zb6 _) (by decide)) e26) rfl)) rfl (zk8 l (nx (nx q.1)) (1 + dr q.1 7) (spn (dr (nx q.1) 2)) (zb6 _) ⟨by omega, by omega⟩ (zux _))
        refine zhw (d := .str (tx (113 :: (nmQ q.1).2))) (zck (zba (d := .str (tx [113])) (by rw [qT])) ec (zhz [113] (nmQ q.1).2 (by rw [List.length_singleton]; omega))) ?_
        show wp _ [.pin l [.int (nmQ q.1).1], .im (.int most), .own (p.2.map kdD), .im (.int k), .own (wD q.2), .im (.int j), .im (.str (tx (113 :: (nmQ q.1).2)))] _
        unfold zdw
        refine zev (b := !inW (113 :: (nmQ q.1).2) q.2) (zco (zay rfl rfl (zuw _ _))) (fun e => ?_) (fun e => ?_)
        · rw [Bool.not_eq_true'] at e
          rw [e]
          refine zna (xs := wD q.2) rfl rfl (by unfold wD; rw [List.length_map]; omega) ?_
          refine ⟨.im (.int j), .im (.str (tx (113 :: (nmQ q.1).2))), ?_⟩
          rw [if_neg Bool.false_ne_true]
          unfold wD
          rw [List.map_append]
          rfl
        · rw [Bool.not_eq_false'] at e
          rw [e]
          exact zd6 ⟨_, _, rfl⟩
      · rintro ρ ⟨b5, b6, rfl⟩
        rw [List.length_range]
        obtain ⟨n1, n2, n3⟩ := zm6 most p.1 hm
        show wp _ [.pin l [.int (kNs most p.1).1], .im (.int most), .own (p.2.map kdD), .im (.int k), .own (wD (kNs most p.1).2), b5, b6] _
        refine zgp (i := 4) (ρ' := [.pin l [.int (kNs most p.1).1], .im (.int most), .own (p.2.map kdD), .im (.int k), .im (.lst (wD (kNs most p.1).2)), b5, b6]) rfl ?_
        obtain ⟨g1, g2⟩ := zh7 k 26 (kNs most p.1).1 n1 (by omega)
        have ec : zbd 0 m_2 (zaj (mX (zad 3)) (zaj (mX (fun _ => some (.int 26))) zau)) [.pin l [.int (kNs most p.1).1], .im (.int most), .own (p.2.map kdD), .im (.int k), .im (.lst (wD (kNs most p.1).2)), b5, b6] = some (.str (tx (kSm most k p.1).2), [.pin l [.int (kSm most k p.1).1], .im (.int most), .own (p.2.map kdD), .im (.int k), .im (.lst (wD (kNs most p.1).2)), b5, b6]) :=
          zir (i := 0) (ρ1 := [.pin l [.int (kNs most p.1).1], .im (.int most), .own (p.2.map kdD), .im (.int k), .im (.lst (wD (kNs most p.1).2)), b5, b6]) rfl (zbs (zba rfl) (zbs (zba rfl) rfl)) rfl (zk8 l (kNs most p.1).1 k 26 n1 ⟨by omega, by omega⟩ (by decide))
        have g3 : (kSm most k p.1).2.length <= 4 := by unfold kSm; omega
        have ea : zcp (.str "abcd") (.int (k : Int)) = some (.str (tx [abL.getD k 0])) := by
          have : k = 0 \/ k = 1 \/ k = 2 \/ k = 3 := by omega
          rw [abT]
          exact zkd abL k ⟨by omega, by show (k : Int) < 4; omega⟩ (by decide)
        refine zmh (xs := p.2.map kdD) (d := kdD ((kSm most k p.1).2 ++ [107] ++ [abL.getD k 0], (kNs most p.1).2)) rfl (zlx (zbs (zck (zck ec (zba (d := .str (tx [107])) (by rw [kT])) (zhz _ _ (by rw [List.length_singleton]; omega))) (zba (zay rfl rfl ea)) (zhz _ _ (by rw [List.length_append, List.length_singleton, List.length_singleton]; omega))) (zbs (zba rfl) rfl))) rfl (by rw [List.length_map]; omega) ?_
        refine ⟨.im (.int k), .im (.lst (wD (kNs most p.1).2)), b5, b6, ?_⟩
        unfold zej
        rw [List.map_append]
        rfl
    · rintro ρ ⟨a3, a4, a5, a6, rfl⟩
      rw [List.length_range]
      show wp _ [.pin l [.int (zbc most s).1], .im (.int most), .own ((zbc most s).2.map kdD), a3, a4, a5, a6] _
      refine zgp (i := 2) (ρ' := [.pin l [.int (zbc most s).1], .im (.int most), .im (.lst ((zbc most s).2.map kdD)), a3, a4, a5, a6]) rfl ?_
      exact zk7 rfl ⟨a3, a4, a5, a6, rfl⟩
  obtain ⟨o, e, a3, a4, a5, a6, rfl⟩ := w
  exact zi7 (ρ := [.pin l [.int (zbc most s).1], .im (.int most), .im (.lst ((zbc most s).2.map kdD)), a3, a4, a5, a6]) e rfl
theorem ztv (ns : List Int) : ∃ s, okS s /\ m_6 [.kl (ns.map D.int)] = some (.int s) := by
  have w : wp b_6 [.im (.kl (ns.map D.int)), .no, .no] (zgd fun d => ∃ s, d = .int s /\ okS s) := by
    unfold b_6
    apply zaq
    refine zc6 (d := .int 1000003) rfl ?_
    show wp _ [.im (.kl (ns.map D.int)), .im (.int 1000003), .no] _
    apply zaq
    refine zc3 ns D.int (fun _ ρ => ∃ s a, okS s /\ ρ = [.im (.kl (ns.map D.int)), .im (.int s), a]) rfl ⟨_, _, ⟨by decide, by decide⟩, rfl⟩ ?_ ?_
    · rintro pre c post ρ he ⟨s, a, hs, rfl⟩
      refine ⟨_, rfl, ?_⟩
      show wp _ [.im (.kl (ns.map D.int)), .im (.int s), .im (.int c)] _
      have hs0 := hs.1
      have hs1 := hs.2
      refine zc6 (d := .int ((s * 7368787 + c % 10 ^ 30 + 11) % (2 ^ 61 - 1))) (zay (zay (zay (zay rfl rfl (zg7 (.inr ⟨by omega, by decide⟩))) (zay rfl (zay rfl rfl (zie (by decide))) (zf3 (by decide))) zd4) rfl zd4) (zay (zay rfl rfl (zie (by decide))) rfl zhy) (zf3 (by decide))) ?_
      refine ⟨_, _, ?_, rfl⟩
      have h1 := Int.emod_nonneg (s * 7368787 + c % 10 ^ 30 + 11) (show (2 ^ 61 - 1 : Int) ≠ 0 by decide)
      have h2 := Int.emod_lt_of_pos (s * 7368787 + c % 10 ^ 30 + 11) (show (0 : Int) < 2 ^ 61 - 1 by decide)
      exact ⟨h1, h2⟩
    · rintro ρ ⟨s, a, hs, rfl⟩
      exact zpx rfl (ziy ⟨s, rfl, hs⟩)
  obtain ⟨d, e, s, rfl, hs⟩ := zmu (n := 3) (ds := [.kl (ns.map D.int)]) w
  exact ⟨s, hs, e⟩
theorem zt0 (R : List (List (List Nat))) (h : ∀ ns ∈ R, 0 < ns.length) : 0 < tot R.reverse := by
  induction R with
  | nil => exact Nat.one_pos
  | cons ns R ih =>
    rw [List.reverse_cons, zgy]
    exact Nat.mul_pos (ih fun m hm => h m (List.mem_cons_of_mem _ hm)) (h ns List.mem_cons_self)
noncomputable def pD (p : List Nat × Kd) : D := .tup [.str (tx p.1), .str (tx p.2.1)]
theorem zld (w : List (List Nat)) : za5 2 (.lst (wD w)) := fun x hx => by
  obtain ⟨z, _, rfl⟩ := List.mem_map.mp hx
  rfl
theorem zr5 (k : Kd) : za5 3 (kdD k) := fun x hx => by
  rcases List.mem_cons.mp hx with e | e
  · rw [e]; rfl
  · rw [List.mem_singleton] at e
    rw [e]
    exact zld k.2
theorem zu5 (ks : List Kd) : za5 20 (.lst (ks.map kdD)) := za5.le (n := 4) (fun x hx => by
  obtain ⟨k, _, rfl⟩ := List.mem_map.mp hx
  exact zr5 k) (by decide)
theorem zpt (q : List (List Nat × Kd)) : za5 20 (.lst (q.map pD)) := za5.le (n := 3) (fun x hx => by
  obtain ⟨p, _, rfl⟩ := List.mem_map.mp hx
  intro y hy
  rcases List.mem_cons.mp hy with e | e
  · rw [e]; rfl
  · rw [List.mem_singleton] at e
    rw [e]
    rfl) (by decide)
theorem zrb (F : List (List (List Nat))) : za5 20 (.lst (F.map fun w => .lst (wD w))) := za5.le (n := 3) (fun x hx => by
  obtain ⟨p, _, rfl⟩ := List.mem_map.mp hx
  exact zld p) (by decide)
theorem znh (F : List (List (List Nat))) : (O.lst (F.map zo)).kn = true := by
  show O.kns (F.map zo) = true
  exact zn0 zo F fun w _ => by show O.kns ((wD w).map .fz) = true; exact zmk _
theorem zol (F : List (List (List Nat))) : (O.lst (F.map zo)).toD = .lst (F.map fun w => .lst (wD w)) := by
  show D.lst (O.toDs (F.map zo)) = _
  rw [zly zo (fun w => D.lst (wD w)) F fun w _ => by show D.lst (O.toDs ((wD w).map .fz)) = _; rw [zj7]]
theorem zhj {i : Nat} (s k : Int) {ρ : List Sl} {f : List Sl -> Option D} (h0 : ρ[i]? = some (.own [.int s])) (hf : f ρ = some (.int k)) (h : okS s) (hk : 0 < k) : zbz i m_0 (zaj (mX f) zau) ρ = some (.int (dr s k), ρ.set i (.own [.int (nx s)])) := zja (i := i) (ρ1 := ρ) h0 (zbs (zba hf) rfl) h0 fun l => zjl l s k h hk
noncomputable def xyL : List Nat := [88, 89, 90]
theorem xyT : ("XYZ" : Str) = tx xyL := by decide +kernel
theorem XT : ("X" : Str) = tx [88] := by decide +kernel
theorem oT : ("other" : Str) = tx [111, 116, 104, 101, 114] := by decide +kernel
theorem aT : ("a" : Str) = tx [97] := by decide +kernel
theorem bT : ("b" : Str) = tx [98] := by decide +kernel
noncomputable def oK : Kd := ([111, 116, 104, 101, 114], [[98], [97]])
theorem zrz : zem [.lst [.tup [.str "X", .str "other"]], .lst [.tup [.str "other", .lst [.str "b", .str "a"]]]] = some (.lst ([[[98]], [[97]]].map zo)) := by
  rw [XT, oT, aT, bT]
  exact zmi [oK] (List.nodup_cons.mpr ⟨fun h => (List.not_mem_nil h).elim, List.nodup_nil⟩) (by decide) [([88], oK)] (fun p hp => by rw [List.mem_singleton] at hp; rw [hp]; exact List.mem_singleton.mpr rfl) (fun p hp => by rw [List.mem_singleton] at hp; rw [hp]; decide) (by decide)
theorem zvq (ns : List Int) (h : ns.length <= 63) : m_1 [.kl (ns.map D.int)] = some (.bl true) := by
  apply zi3
  unfold b_1
  generalize hSc : D.kl (ns.map D.int) = Sc
  show wp _ [.im Sc, .no, .no, .no, .no, .no, .no, .no, .no, .no, .no, .no] _
  obtain ⟨s0, hs0, eseed⟩ := ztv ns
  rw [hSc] at eseed
  apply zaq
  refine zfk (d := [.int s0]) (za8 (zcq (za8 rfl rfl) eseed) rfl) ?_
  show wp _ [.im Sc, .own [.int s0], .no, .no, .no, .no, .no, .no, .no, .no, .no, .no] _
  apply zaq
  refine zhw (zhj (i := 1) s0 4 rfl rfl hs0 (by decide)) ?_
  have hmany := zcl s0 (k := 4) (by decide)
  have hs1 := zb6 s0
  generalize nx s0 = s1 at hs1
  generalize dr s0 4 = many at hmany
  show wp _ [.im Sc, .own [.int s1], .im (.int many), .no, .no, .no, .no, .no, .no, .no, .no, .no] _
  obtain ⟨most, hmost, emost⟩ : ∃ most, (0 < most /\ most <= 12) /\ mIx (zaf (fun _ => some (.int 12)) (zaf (fun _ => some (.int 12)) (zaf (fun _ => some (.int 12)) (zaf (fun _ => some (.int 7)) (fun _ => some []))))) (zad 2) [.im Sc, .own [.int s1], .im (.int many), .no, .no, .no, .no, .no, .no, .no, .no, .no] = some (.int most) := by
    have : many = 0 \/ many = 1 \/ many = 2 \/ many = 3 := by omega
    rcases this with e | e | e | e <;> subst e
    · exact ⟨12, by decide, rfl⟩
    · exact ⟨12, by decide, rfl⟩
    · exact ⟨12, by decide, rfl⟩
    · exact ⟨7, by decide, rfl⟩
  apply zaq
  refine zhw (zja (i := 1) (ρ1 := [.im Sc, .own [.int s1], .im (.int many), .no, .no, .no, .no, .no, .no, .no, .no, .no]) rfl (zbs (zba emost) rfl) rfl fun l => zut l most s1 hs1 hmost) ?_
  obtain ⟨hs2, hK1, hK2, hK3⟩ := zvd most s1 hmost
  generalize (zbc most s1).1 = s2 at hs2
  generalize (zbc most s1).2 = K0 at hK1 hK2 hK3
  clear emost
  show wp _ [.im Sc, .own [.int s2], .im (.int many), .im (.lst (K0.map kdD)), .no, .no, .no, .no, .no, .no, .no, .no] _
  apply zaq
  refine zfk (d := []) rfl ?_
  apply zaq
  refine zfk (d := []) rfl ?_
  show wp _ [.im Sc, .own [.int s2], .im (.int many), .im (.lst (K0.map kdD)), .own [], .own [], .no, .no, .no, .no, .no, .no] _
  apply zaq
  refine zc3 (List.range many.toNat) (fun (i : Nat) => D.int i) (fun pre ρ => ∃ s q a6 a7, okS s /\ q.length = pre.length /\ (∀ p ∈ q, p.2 ∈ K0) /\ ρ = [.im Sc, .own [.int s], .im (.int many), .im (.lst (K0.map kdD)), .own (q.map pD), .own (q.map fun p => .lst (wD p.2.2)), a6, a7, .no, .no, .no, .no]) ?_ ⟨s2, [], _, _, hs2, rfl, fun p hp => (List.not_mem_nil hp).elim, rfl⟩ ?_ ?_
  · have ef : zaf (zad 2) (fun _ => some []) [.im Sc, .own [.int s2], .im (.int many), .im (.lst (K0.map kdD)), .own [], .own [], .no, .no, .no, .no, .no, .no] = some [.int many] := rfl
    unfold zfc
    rw [ef, Option.bind_some, zhr many (by omega) (by omega)]
  · rintro pre k post ρ he ⟨s, q, a6, a7, hs, hq, hm, rfl⟩
    have hk : k = pre.length /\ k < 3 := by
      have h2 : (List.range many.toNat)[pre.length]? = some k := by rw [he, List.getElem?_append_right (Nat.le_refl _), Nat.sub_self]; rfl
      obtain ⟨hlt, e⟩ := List.getElem?_eq_some_iff.mp h2
      rw [List.getElem_range] at e
      rw [List.length_range] at hlt
      omega
    obtain ⟨hk1, hk2⟩ := hk
    refine ⟨_, rfl, ?_⟩
    show wp _ [.im Sc, .own [.int s], .im (.int many), .im (.lst (K0.map kdD)), .own (q.map pD), .own (q.map fun p => .lst (wD p.2.2)), .im (.int k), a7, .no, .no, .no, .no] _
    have dk := zcl s (k := (K0.length : Int)) (by omega)
    obtain ⟨kd, hkd⟩ : ∃ kd, K0[(dr s K0.length).toNat]? = some kd := ⟨_, List.getElem?_eq_getElem (by omega)⟩
    have hkm : kd ∈ K0 := List.mem_of_getElem? hkd
    have eix : zd3 (.lst (K0.map kdD)) (.int (dr s K0.length)) = some (kdD kd) := by
      show atI (K0.map kdD) (dr s K0.length) = _
      refine zd2 dk.1 ?_
      rw [List.getElem?_map, hkd]
      rfl
    apply zaq
    refine zhw (d := kdD kd) (ρ1 := [.im Sc, .own [.int (nx s)], .im (.int many), .im (.lst (K0.map kdD)), .own (q.map pD), .own (q.map fun p => .lst (wD p.2.2)), .im (.int k), a7, .no, .no, .no, .no]) (zck (zba rfl) (zhj (i := 1) s (K0.length : Int) rfl (zcq rfl (show za3 [.lst (K0.map kdD)] = some (.int (K0.length : Nat)) by show some (D.int ((K0.map kdD).length : Int)) = _; rw [List.length_map])) hs (by omega)) eix) ?_
    have hs3 := zb6 s
    clear eix
    walk_at "nrm"
    generalize nx s = s3 at hs3
    have d8 := zcl s3 (k := 8) (by decide)
    obtain ⟨g1, g2⟩ := zh7 (dr s3 8) 26 (nx s3) (zb6 _) d8.1
    have ec : zbz 1 m_2 (zaj (zbz 1 m_0 (zaj (mX (fun _ => some (.int 8))) zau)) (zaj (mX (fun _ => some (.int 26))) zau)) [.im Sc, .own [.int s3], .im (.int many), .im (.lst (K0.map kdD)), .own (q.map pD), .own (q.map fun p => .lst (wD p.2.2)), .im (.int k), .im (kdD kd), .no, .no, .no, .no] = some (.str (tx (smP (dr s3 8) 26 (nx s3)).2), [.im Sc, .own [.int (smP (dr s3 8) 26 (nx s3)).1], .im (.int many), .im (.lst (K0.map kdD)), .own (q.map pD), .own (q.map fun p => .lst (wD p.2.2)), .im (.int k), .im (kdD kd), .no, .no, .no, .no]) :=
      zja (i := 1) (ρ1 := [.im Sc, .own [.int (nx s3)], .im (.int many), .im (.lst (K0.map kdD)), .own (q.map pD), .own (q.map fun p => .lst (wD p.2.2)), .im (.int k), .im (kdD kd), .no, .no, .no, .no]) rfl (zbs (zhj (i := 1) s3 8 rfl rfl hs3 (by decide)) (zbs (zba rfl) rfl)) rfl fun l => zk8 l (nx s3) (dr s3 8) 26 (zb6 _) ⟨by omega, by omega⟩ (by decide)
    generalize smP (dr s3 8) 26 (nx s3) = u at g1 g2 ec
    have ex : zcp (.str "XYZ") (.int (k : Int)) = some (.str (tx [xyL.getD k 0])) := by
      rw [xyT]
      exact zkd xyL k ⟨by omega, by show (k : Int) < 3; omega⟩ (by decide)
    apply zaq
    refine zmh (xs := q.map pD) (d := pD (xyL.getD k 0 :: u.2, kd)) rfl (zlx (zbs (zck (zba (zay rfl rfl ex)) ec (zhz _ _ (by rw [List.length_singleton]; omega))) (zbs (zba rfl) rfl))) rfl (by rw [List.length_map]; omega) ?_
    refine zna (d := .lst (wD kd.2)) (xs := q.map fun p => .lst (wD p.2.2)) rfl rfl (by rw [List.length_map]; omega) ?_
    refine ⟨u.1, q ++ [(xyL.getD k 0 :: u.2, kd)], .im (.int k), .im (kdD kd), g1, ?_, ?_, ?_⟩
    · rw [List.length_append, List.length_append, hq]
      rfl
    · intro p hp
      rcases List.mem_append.mp hp with e | e
      · exact hm p e
      · rw [List.mem_singleton] at e
        rw [e]
        exact hkm
    · rw [List.map_append, List.map_append]
      rfl
  · rintro ρ ⟨s, q, a6, a7, hs, hq, hm, rfl⟩
    rw [List.length_range] at hq
    have hq3 : q.length <= 3 := by omega
    refine zrt (fun ρ => ∃ (s : Int) (KK : List Kd), KK.length <= 1000 /\ (KK.map (·.1)).Nodup /\ (∀ p ∈ q, p.2 ∈ KK) /\ (∀ k ∈ KK, 0 < k.2.length /\ k.2.length <= 12) /\ ρ = [.im Sc, .own [.int s], .im (.int many), .im (.lst (KK.map kdD)), .own (q.map pD), .own (q.map fun p => .lst (wD p.2.2)), a6, a7, .no, .no, .no, .no]) ?_ ?_
    · have et : mTX (mB (m2 dEq (zad 2) (fun _ => some (.int 0)))) [.im Sc, .own [.int s], .im (.int many), .im (.lst (K0.map kdD)), .own (q.map pD), .own (q.map fun p => .lst (wD p.2.2)), a6, a7, .no, .no, .no, .no] = some (many == 0, [.im Sc, .own [.int s], .im (.int many), .im (.lst (K0.map kdD)), .own (q.map pD), .own (q.map fun p => .lst (wD p.2.2)), a6, a7, .no, .no, .no, .no]) := by
        unfold mTX
        rw [zco (zay rfl rfl (zjd _ _))]
        rfl
      have eb : mBX (mX2 dEq (zbz 1 m_0 (zaj (mX (fun _ => some (.int 2))) zau)) (mX (fun _ => some (.int 0)))) [.im Sc, .own [.int s], .im (.int many), .im (.lst (K0.map kdD)), .own (q.map pD), .own (q.map fun p => .lst (wD p.2.2)), a6, a7, .no, .no, .no, .no] = some (dr s 2 == 0, [.im Sc, .own [.int (nx s)], .im (.int many), .im (.lst (K0.map kdD)), .own (q.map pD), .own (q.map fun p => .lst (wD p.2.2)), a6, a7, .no, .no, .no, .no]) := by
        unfold mBX
        rw [zck (zhj (i := 1) s 2 rfl rfl hs (by decide)) (zba rfl) (zjd _ _)]
        rfl
      have hK1000 : K0.length <= 1000 := by omega
      cases hz : many == 0 with
      | false =>
        refine zow (b := false) (ρ1 := [.im Sc, .own [.int s], .im (.int many), .im (.lst (K0.map kdD)), .own (q.map pD), .own (q.map fun p => .lst (wD p.2.2)), a6, a7, .no, .no, .no, .no]) ?_ (fun e => by cases e) fun _ => zd6 (k_J ⟨s, K0, hK1000, hK3, hm, hK2, rfl⟩)
        unfold zg1
        rw [et, Option.bind_some, hz]
        rfl
      | true =>
        have hm0 : many = 0 := by simpa using hz
        have hq0 : q = [] := List.eq_nil_of_length_eq_zero (by rw [hq, hm0]; rfl)
        refine zow (b := dr s 2 == 0) (ρ1 := [.im Sc, .own [.int (nx s)], .im (.int many), .im (.lst (K0.map kdD)), .own (q.map pD), .own (q.map fun p => .lst (wD p.2.2)), a6, a7, .no, .no, .no, .no]) ?_ (fun _ => ?_) fun _ => zd6 (k_J ⟨_, K0, hK1000, hK3, hm, hK2, rfl⟩)
        · unfold zg1
          rw [et, Option.bind_some, hz]
          exact eb
        · refine zc6 (d := .lst []) rfl (k_J ⟨nx s, [], by decide, List.nodup_nil, ?_, fun k hk => (List.not_mem_nil hk).elim, rfl⟩)
          rw [hq0]
          exact fun p hp => (List.not_mem_nil hp).elim
    · rintro ρ ⟨s, KK, hKl, hKn, hqK, hKs, rfl⟩
      have h12 : ∀ p ∈ q, p.2.2.length <= 12 := fun p hp => (hKs _ (hqK p hp)).2
      have ew : zem [.lst (q.map pD), .lst (KK.map kdD)] = some (.lst ((zaz (q.map (·.2.2))).map zo)) := zmi KK hKn hKl q hqK h12 hq3
      have er : m_3 [.lst ((zaz (q.map (·.2.2))).map fun w => .lst (wD w)), .lst (q.map fun p => .lst (wD p.2.2))] = some (.bl true) := by
        have := zqs (q.map (·.2.2)).reverse (by rw [List.length_reverse, List.length_map]; exact hq3) (fun ns hn => by
          rw [List.mem_reverse] at hn
          obtain ⟨p, hp, e⟩ := List.mem_map.mp hn
          rw [<- e]
          exact (hKs _ (hqK p hp)).1) (fun ns hn => by
          rw [List.mem_reverse] at hn
          obtain ⟨p, hp, e⟩ := List.mem_map.mp hn
          rw [<- e]
          exact h12 p hp)
        rw [List.reverse_reverse, List.map_map] at this
        exact this
      obtain ⟨w0, hw0, hwl⟩ : ∃ w0, (zaz (q.map (·.2.2)))[0]? = some w0 /\ w0.length <= 3 := by
        have hR : ∀ ns ∈ (q.map (·.2.2)).reverse, 0 < ns.length := fun ns hn => by
          rw [List.mem_reverse] at hn
          obtain ⟨p, hp, e⟩ := List.mem_map.mp hn
          rw [<- e]
          exact (hKs _ (hqK p hp)).1
        have h1 := zlf [] (q.map (·.2.2)).reverse hR 0 (zt0 _ hR)
        rw [List.reverse_reverse] at h1
        refine ⟨_, h1, ?_⟩
        rw [zf1, List.length_reverse, List.length_map]
        exact hq3
      have hFl : (zaz (q.map (·.2.2))).length <= 12 ^ 3 := by
        have h2 := zib (q.map (·.2.2)).reverse fun m hm => by
          rw [List.mem_reverse] at hm
          obtain ⟨z, hz, e⟩ := List.mem_map.mp hm
          rw [<- e]
          exact h12 z hz
        have h3 := zhs (q.map (·.2.2)).reverse
        rw [List.reverse_reverse] at h2 h3
        rw [h3]
        rw [List.length_reverse, List.length_map] at h2
        exact Nat.le_trans h2 (Nat.pow_le_pow_right (by decide) hq3)
      have pq := zpt q
      have pk := zu5 KK
      have ecp := zo9 KK hKl
      generalize zaz (q.map (·.2.2)) = F at *
      have pF := zol F
      have kF := znh F
      generalize hPd : q.map pD = Pd at *
      generalize hSz : (q.map fun p => D.lst (wD p.2.2)) = Sz at *
      generalize hKd : D.lst (KK.map kdD) = Kd at *
      apply zaq
      refine zc6 (d := Kd) (zcq (za8 rfl rfl) ecp) ?_
      apply zaq
      refine zc6 (d := .lst Pd) rfl ?_
      show wp _ [.im Sc, .own [.int s], .im (.int many), .im Kd, .own Pd, .own Sz, a6, a7, .im Kd, .im (.lst Pd), .no, .no] _
      apply zaq
      refine zg5 (o := .lst (F.map zo)) (zjj (za8 rfl (za8 rfl rfl)) ew) ?_
      show wp _ [.im Sc, .own [.int s], .im (.int many), .im Kd, .own Pd, .own Sz, a6, a7, .im Kd, .im (.lst Pd), .deep (.lst (F.map zo)), .no] _
      apply zaq
      refine zgp (i := 4) (ρ' := [.im Sc, .own [.int s], .im (.int many), .im Kd, .im (.lst Pd), .own Sz, a6, a7, .im Kd, .im (.lst Pd), .deep (.lst (F.map zo)), .no]) rfl ?_
      refine zgp (i := 5) (ρ' := [.im Sc, .own [.int s], .im (.int many), .im Kd, .im (.lst Pd), .im (.lst Sz), a6, a7, .im Kd, .im (.lst Pd), .deep (.lst (F.map zo)), .no]) rfl ?_
      refine zev (b := false) ?_ (fun e => by cases e) fun _ => zd6 ?_
      · have e1 : zcg (zcd (zei m_3 (zaf (zde 10) (zaf (zad 5) (fun _ => some []))))) [.im Sc, .own [.int s], .im (.int many), .im Kd, .im (.lst Pd), .im (.lst Sz), a6, a7, .im Kd, .im (.lst Pd), .deep (.lst (F.map zo)), .no] = some false :=
          zje (b := true) (zj9 (d := .bl true) (zkr (za8 (zoo rfl kF) (za8 rfl rfl)) (by rw [pF]; exact er) rfl) rfl)
        have e2 : mB (m2 dNe (zad 8) (zad 3)) [.im Sc, .own [.int s], .im (.int many), .im Kd, .im (.lst Pd), .im (.lst Sz), a6, a7, .im Kd, .im (.lst Pd), .deep (.lst (F.map zo)), .no] = some false := zco (zay rfl rfl (zma pk))
        have e3 : mB (m2 dNe (zad 9) (zad 4)) [.im Sc, .own [.int s], .im (.int many), .im Kd, .im (.lst Pd), .im (.lst Sz), a6, a7, .im Kd, .im (.lst Pd), .deep (.lst (F.map zo)), .no] = some false := zco (zay rfl rfl (zma pq))
        unfold mOr
        rw [e1, Option.bind_some, if_neg Bool.false_ne_true, e2, Option.bind_some, if_neg Bool.false_ne_true]
        exact e3
      show wp _ [.im Sc, .own [.int s], .im (.int many), .im Kd, .im (.lst Pd), .im (.lst Sz), a6, a7, .im Kd, .im (.lst Pd), .deep (.lst (F.map zo)), .no] _
      apply zaq
      refine zs4 (o := zo w0) (o' := .lst ((wD w0).map .fz ++ [.fz (.str "x")])) rfl rfl (by rw [List.getElem?_map, hw0]; rfl) (by
        show (if ((wD w0).map O.fz).length < 16777216 then some (O.lst ((wD w0).map .fz ++ [.fz (.str "x")])) else none) = _
        rw [if_pos]
        unfold wD
        rw [List.length_map, List.length_map]
        omega) ?_
      have hol : ((F.map zo).set 0 (.lst ((wD w0).map .fz ++ [.fz (.str "x")]))).length <= 12 ^ 3 := by rw [List.length_set, List.length_map]; exact hFl
      generalize (F.map zo).set 0 (.lst ((wD w0).map .fz ++ [.fz (.str "x")])) = os at hol
      show wp _ [.im Sc, .own [.int s], .im (.int many), .im Kd, .im (.lst Pd), .im (.lst Sz), a6, a7, .im Kd, .im (.lst Pd), .deep (.lst os), .no] _
      apply zaq
      refine zve (o := .lst [.fz (.str "x")]) (os := os) rfl rfl (by omega) ?_
      generalize os ++ [O.lst [.fz (.str "x")]] = os2
      show wp _ [.im Sc, .own [.int s], .im (.int many), .im Kd, .im (.lst Pd), .im (.lst Sz), a6, a7, .im Kd, .im (.lst Pd), .deep (.lst os2), .no] _
      apply zaq
      refine zg5 (zjj (za8 rfl (za8 rfl rfl)) zrz) ?_
      show wp _ [.im Sc, .own [.int s], .im (.int many), .im Kd, .im (.lst Pd), .im (.lst Sz), a6, a7, .im Kd, .im (.lst Pd), .deep (.lst os2), .deep (.lst ([[[98]], [[97]]].map zo))] _
      refine zgp (i := 5) (ρ' := [.im Sc, .own [.int s], .im (.int many), .im Kd, .im (.lst Pd), .im (.lst Sz), a6, a7, .im Kd, .im (.lst Pd), .deep (.lst os2), .deep (.lst ([[[98]], [[97]]].map zo))]) rfl ?_
      refine zk5 (d := .bl true) (znk (a := true) (b := true) ?_ ?_) (ziy rfl)
      · refine zay (x := .lst ([[[98]], [[97]]].map fun w => .lst (wD w))) (y := .lst ([[[98]], [[97]]].map fun w => .lst (wD w))) ?_ ?_ (zth (zrb _))
        · rw [<- zol]
          exact zoo rfl (znh _)
        · rw [aT, bT]
          rfl
      · exact zkr (za8 (zs5 (zjj (za8 rfl (za8 rfl rfl)) ew) kF) (za8 rfl rfl)) (by rw [pF]; exact er) rfl
section
variable {P : Program} {w : World} {K : PySem.W.Frag} {mg : Str -> Option Value} {base : Heap}
noncomputable def sp_law (K : PySem.W.Frag) : Sp := fun vs H Q _ => ∃ (a : Addr) (ns : List Int), vs = [.ref a] /\ SqL K H a (ns.map V.int) /\ ns.length <= 63 /\ ∀ H', Q (.bl true) H'
theorem sp_law_of {K : PySem.W.Frag} {H : Hp} {a : Addr} {ns : List Int} {E : XK} (hl : ns.length <= 63) (hS : SqL K H a (ns.map V.int)) : sp_law K [.ref a] H (fun v _ => v = .bl true) E := ⟨a, ns, rfl, hS, hl, fun _ => rfl⟩
theorem law_ok {a : Wa} (W : Wd K mg a) : zax P w K mg base CX0 4 a.f_1 a.fd_1 ["_law_script"] (sp_law K) := (zo7 W).imp fun vs H Q E ⟨a, ns, ev, hS, hl, k⟩ =>
  ⟨H, [.kl (ns.map D.int)], .bl true, zac.refl _, ⟨.ref a, [], ev, ⟨a, _, rfl, hS, zaa.ints ns⟩, rfl⟩, rfl, zvq ns hl, fun v Hf' H' x r => by rw [show v = V.bl true from r]; exact k H'⟩
end
section
variable {K : PySem.W.Frag} {mg : Str -> Option Value}
theorem zke {P : List Value -> Prop} (h : P []) : ∀ us : List Value, us.length = 0 -> P us := fun us e => by
  rw [List.eq_nil_of_length_eq_zero e]
  exact h
theorem ze6 {n : Nat} {P : List Value -> Prop} (h : ∀ a (us : List Value), us.length = n -> P (a :: us)) : ∀ us : List Value, us.length = n + 1 -> P us := fun us e => by
  cases us with
  | nil => cases e
  | cons a us => exact h a us (Nat.succ.inj e)
theorem zi1 {P : List Value -> Prop} (h : ∀ a0 : Value, P [a0]) : ∀ us : List Value, us.length = 1 -> P us := ze6 (P := fun us => P (us)) fun a0 => zke (h a0)
theorem zid {P : List Value -> Prop} (h : ∀ a0 a1 : Value, P [a0, a1]) : ∀ us : List Value, us.length = 2 -> P us := ze6 (P := fun us => P (us)) fun a0 => ze6 (P := fun us => P (a0 :: us)) fun a1 => zke (h a0 a1)
theorem ztw {P : List Value -> Prop} (h : ∀ a0 a1 a2 : Value, P [a0, a1, a2]) : ∀ us : List Value, us.length = 3 -> P us := ze6 (P := fun us => P (us)) fun a0 => ze6 (P := fun us => P (a0 :: us)) fun a1 => ze6 (P := fun us => P (a0 :: a1 :: us)) fun a2 => zke (h a0 a1 a2)
theorem all_mk {l : PySem.W.OpenLaw} {w : World} {h : Heap} {f_4 : Addr} {od_4 an_4 : Option Addr} {sl_4 : Array (Option Value)} {oc_4 kV_4 dc_4 pm_4 cd_4 ct_4 : Value} {f_0 : Addr} {od_0 an_0 : Option Addr} {sl_0 : Array (Option Value)} {oc_0 kV_0 dc_0 pm_0 cd_0 ct_0 : Value} {f_6 : Addr} {od_6 an_6 : Option Addr} {sl_6 : Array (Option Value)} {oc_6 kV_6 dc_6 pm_6 cd_6 ct_6 : Value} {f_2 : Addr} {od_2 an_2 : Option Addr} {sl_2 : Array (Option Value)} {oc_2 kV_2 dc_2 pm_2 cd_2 ct_2 : Value} {f_5 : Addr} {od_5 an_5 : Option Addr} {sl_5 : Array (Option Value)} {oc_5 kV_5 dc_5 pm_5 cd_5 ct_5 : Value} {f_7 : Addr} {od_7 an_7 : Option Addr} {sl_7 : Array (Option Value)} {oc_7 kV_7 dc_7 pm_7 cd_7 ct_7 : Value} {f_3 : Addr} {od_3 an_3 : Option Addr} {sl_3 : Array (Option Value)} {oc_3 kV_3 dc_3 pm_3 cd_3 ct_3 : Value} {f_1 : Addr} {od_1 an_1 : Option Addr} {sl_1 : Array (Option Value)} {oc_1 kV_1 dc_1 pm_1 cd_1 ct_1 : Value} {fa : Addr} (X : K.In h) (G : h.Ns mainGlobals mg) (hfa : mg "law" = some (.ref fa))
    (a_4 : PySem.W.nsIn K mainGlobals "ways" = some (some (.ref f_4)))
    (l_4 : K.lookup f_4 = some ⟨oc_4, od_4, .func (PySem.W.fnOf "ways" "ways" (zca s_4) (zbn s_4) (zas s_4) .none kV_4 dc_4 pm_4 an_4 cd_4 ct_4), sl_4⟩)
    (c_4 : PySem.W.codeIn K cd_4 "ways" = true)
    (k_4 : PySem.W.keepIn K (.ref f_4) = true)
    (a_0 : PySem.W.nsIn K mainGlobals "_law_next" = some (some (.ref f_0)))
    (l_0 : K.lookup f_0 = some ⟨oc_0, od_0, .func (PySem.W.fnOf "_law_next" "_law_next" (zca s_0) (zbn s_0) (zas s_0) .none kV_0 dc_0 pm_0 an_0 cd_0 ct_0), sl_0⟩)
    (c_0 : PySem.W.codeIn K cd_0 "_law_next" = true)
    (k_0 : PySem.W.keepIn K (.ref f_0) = true)
    (a_6 : PySem.W.nsIn K mainGlobals "_law_seed" = some (some (.ref f_6)))
    (l_6 : K.lookup f_6 = some ⟨oc_6, od_6, .func (PySem.W.fnOf "_law_seed" "_law_seed" (zca s_6) (zbn s_6) (zas s_6) .none kV_6 dc_6 pm_6 an_6 cd_6 ct_6), sl_6⟩)
    (c_6 : PySem.W.codeIn K cd_6 "_law_seed" = true)
    (k_6 : PySem.W.keepIn K (.ref f_6) = true)
    (a_2 : PySem.W.nsIn K mainGlobals "_law_small" = some (some (.ref f_2)))
    (l_2 : K.lookup f_2 = some ⟨oc_2, od_2, .func (PySem.W.fnOf "_law_small" "_law_small" (zca s_2) (zbn s_2) (zas s_2) .none kV_2 dc_2 pm_2 an_2 cd_2 ct_2), sl_2⟩)
    (c_2 : PySem.W.codeIn K cd_2 "_law_small" = true)
    (k_2 : PySem.W.keepIn K (.ref f_2) = true)
    (a_5 : PySem.W.nsIn K mainGlobals "_law_kinds" = some (some (.ref f_5)))
    (l_5 : K.lookup f_5 = some ⟨oc_5, od_5, .func (PySem.W.fnOf "_law_kinds" "_law_kinds" (zca s_5) (zbn s_5) (zas s_5) .none kV_5 dc_5 pm_5 an_5 cd_5 ct_5), sl_5⟩)
    (c_5 : PySem.W.codeIn K cd_5 "_law_kinds" = true)
    (k_5 : PySem.W.keepIn K (.ref f_5) = true)
    (a_7 : PySem.W.nsIn K mainGlobals "_law_copied" = some (some (.ref f_7)))
    (l_7 : K.lookup f_7 = some ⟨oc_7, od_7, .func (PySem.W.fnOf "_law_copied" "_law_copied" (zca s_7) (zbn s_7) (zas s_7) .none kV_7 dc_7 pm_7 an_7 cd_7 ct_7), sl_7⟩)
    (c_7 : PySem.W.codeIn K cd_7 "_law_copied" = true)
    (k_7 : PySem.W.keepIn K (.ref f_7) = true)
    (a_3 : PySem.W.nsIn K mainGlobals "_law_right" = some (some (.ref f_3)))
    (l_3 : K.lookup f_3 = some ⟨oc_3, od_3, .func (PySem.W.fnOf "_law_right" "_law_right" (zca s_3) (zbn s_3) (zas s_3) .none kV_3 dc_3 pm_3 an_3 cd_3 ct_3), sl_3⟩)
    (c_3 : PySem.W.codeIn K cd_3 "_law_right" = true)
    (k_3 : PySem.W.keepIn K (.ref f_3) = true)
    (a_1 : PySem.W.nsIn K mainGlobals "law" = some (some (.ref f_1)))
    (l_1 : K.lookup f_1 = some ⟨oc_1, od_1, .func (PySem.W.fnOf "law" "law" (zca s_1) (zbn s_1) (zas s_1) .none kV_1 dc_1 pm_1 an_1 cd_1 ct_1), sl_1⟩)
    (c_1 : PySem.W.codeIn K cd_1 "law" = true)
    (k_1 : PySem.W.keepIn K (.ref f_1) = true)
    (kt_NoneType_list : PySem.W.kitOne K (.type "NoneType") (.type "list") = some false)
    (kt_bool_list : PySem.W.kitOne K (.type "bool") (.type "list") = some false)
    (kt_int_list : PySem.W.kitOne K (.type "int") (.type "list") = some false)
    (kt_str_list : PySem.W.kitOne K (.type "str") (.type "list") = some false)
    (kt_list_list : PySem.W.kitOne K (.type "list") (.type "list") = some true)
    (kt_tuple_list : PySem.W.kitOne K (.type "tuple") (.type "list") = some false)
    (kt_dict_list : PySem.W.kitOne K (.type "dict") (.type "list") = some false)
    (kt_NoneType_str : PySem.W.kitOne K (.type "NoneType") (.type "str") = some false)
    (kt_bool_str : PySem.W.kitOne K (.type "bool") (.type "str") = some false)
    (kt_int_str : PySem.W.kitOne K (.type "int") (.type "str") = some false)
    (kt_str_str : PySem.W.kitOne K (.type "str") (.type "str") = some true)
    (kt_list_str : PySem.W.kitOne K (.type "list") (.type "str") = some false)
    (kt_tuple_str : PySem.W.kitOne K (.type "tuple") (.type "str") = some false)
    (kt_dict_str : PySem.W.kitOne K (.type "dict") (.type "str") = some false)
    (z_dict : PySem.W.nsIn K mainGlobals "dict" = some none)
    (z_divmod : PySem.W.nsIn K mainGlobals "divmod" = some none)
    (z_enumerate : PySem.W.nsIn K mainGlobals "enumerate" = some none)
    (z_isinstance : PySem.W.nsIn K mainGlobals "isinstance" = some none)
    (z_len : PySem.W.nsIn K mainGlobals "len" = some none)
    (z_list : PySem.W.nsIn K mainGlobals "list" = some none)
    (z_range : PySem.W.nsIn K mainGlobals "range" = some none)
    (z_str : PySem.W.nsIn K mainGlobals "str" = some none)
    : ∃ fd : FuncData, (∀ (s : Shared) (v : Value), BindsTo s fd ⟨[v], []⟩ [("_law_script", v)]) /\ ∃ a : Wa, ∃ W : Wd K mg a, a.f_1 = fa /\ a.fd_1 = fd := by
  have e := hfa.symm.trans (PySem.W.mg_of X G a_1)
  cases e
  have F_4 := zdt (st := s_4) l_4 c_4 k_4
  have F_0 := zdt (st := s_0) l_0 c_0 k_0
  have F_6 := zdt (st := s_6) l_6 c_6 k_6
  have F_2 := zdt (st := s_2) l_2 c_2 k_2
  have F_5 := zdt (st := s_5) l_5 c_5 k_5
  have F_7 := zdt (st := s_7) l_7 c_7 k_7
  have F_3 := zdt (st := s_3) l_3 c_3 k_3
  have F_1 := zdt (st := s_1) l_1 c_1 k_1
  exact ⟨PySem.W.fnOf "law" "law" (zca s_1) (zbn s_1) (zas s_1) .none kV_1 dc_1 pm_1 an_1 cd_1 ct_1, fun s v => .of_eq rfl, {
    f_4 := f_4,
    fd_4 := _,
    f_0 := f_0,
    fd_0 := _,
    f_6 := f_6,
    fd_6 := _,
    f_2 := f_2,
    fd_2 := _,
    f_5 := f_5,
    fd_5 := _,
    f_7 := f_7,
    fd_7 := _,
    f_3 := f_3,
    fd_3 := _,
    f_1 := f_1,
    fd_1 := _ }, {
    F_4 := F_4,
    b_4 := F_4.binds fun _ _ _ _ _ _ us hl => by
      revert us hl
      exact zid fun _ _ => rfl,
    g_4 := PySem.W.mg_of X G a_4,
    F_0 := F_0,
    b_0 := F_0.binds fun _ _ _ _ _ _ us hl => by
      revert us hl
      exact zid fun _ _ => rfl,
    g_0 := PySem.W.mg_of X G a_0,
    F_6 := F_6,
    b_6 := F_6.binds fun _ _ _ _ _ _ us hl => by
      revert us hl
      exact zi1 fun _ => rfl,
    g_6 := PySem.W.mg_of X G a_6,
    F_2 := F_2,
    b_2 := F_2.binds fun _ _ _ _ _ _ us hl => by
      revert us hl
      exact ztw fun _ _ _ => rfl,
    g_2 := PySem.W.mg_of X G a_2,
    F_5 := F_5,
    b_5 := F_5.binds fun _ _ _ _ _ _ us hl => by
      revert us hl
      exact zid fun _ _ => rfl,
    g_5 := PySem.W.mg_of X G a_5,
    F_7 := F_7,
    b_7 := F_7.binds fun _ _ _ _ _ _ us hl => by
      revert us hl
      exact zi1 fun _ => rfl,
    g_7 := PySem.W.mg_of X G a_7,
    F_3 := F_3,
    b_3 := F_3.binds fun _ _ _ _ _ _ us hl => by
      revert us hl
      exact zid fun _ _ => rfl,
    g_3 := PySem.W.mg_of X G a_3,
    F_1 := F_1,
    b_1 := F_1.binds fun _ _ _ _ _ _ us hl => by
      revert us hl
      exact zi1 fun _ => rfl,
    g_1 := PySem.W.mg_of X G a_1,
    kt_NoneType_list := kt_NoneType_list,
    kt_bool_list := kt_bool_list,
    kt_int_list := kt_int_list,
    kt_str_list := kt_str_list,
    kt_list_list := kt_list_list,
    kt_tuple_list := kt_tuple_list,
    kt_dict_list := kt_dict_list,
    kt_NoneType_str := kt_NoneType_str,
    kt_bool_str := kt_bool_str,
    kt_int_str := kt_int_str,
    kt_str_str := kt_str_str,
    kt_list_str := kt_list_str,
    kt_tuple_str := kt_tuple_str,
    kt_dict_str := kt_dict_str,
    z_dict := PySem.W.mg_none_of X G z_dict,
    z_divmod := PySem.W.mg_none_of X G z_divmod,
    z_enumerate := PySem.W.mg_none_of X G z_enumerate,
    z_isinstance := PySem.W.mg_none_of X G z_isinstance,
    z_len := PySem.W.mg_none_of X G z_len,
    z_list := PySem.W.mg_none_of X G z_list,
    z_range := PySem.W.mg_none_of X G z_range,
    z_str := PySem.W.mg_none_of X G z_str }, rfl, rfl⟩
end
end N_k81
theorem PySem.W.Fast.te6436154984410153146 : True := trivial
theorem PySem.W.Fast.te17421255127684591830 : True := trivial
open PySem PySem.W PyProof.Rows
set_option maxRecDepth 100000 in
set_option maxHeartbeats 0 in
theorem PySem.Challenge.cw_standstill_k81_ways_holds : PySem.Challenge.rw_standstill_k81_ways.Holds := by
  w_on; o_law; k_head; (case hw => w_witness2)
  k_fill
  refine L2.walk_ofK (l := PySem.Challenge.rw_standstill_k81_ways) (n := 63) (k := 4) (x := "_law_script") (CX := L2.CX0) (sp := N_k81.sp_law) rfl (by decide) rfl ⟨rfl, by decide, by decide⟩ (fun w h Y => PySem.W.kIn_of Y) ?F (fun _ _ a ns hl _ hS => N_k81.sp_law_of hl hS) (fun _ _ _ _ z => z)
  case F =>
    intro w mg fa h KX G hmg
    have TT : ∃ fd : FuncData, (∀ (s : Shared) (v : Value), BindsTo s fd ⟨[v], []⟩ [("_law_script", v)]) /\ ∃ a : N_k81.Wa, ∃ W : N_k81.Wd (L2.KOf KX) mg a, a.f_1 = fa /\ a.fd_1 = fd := by
      dsimp only [L2.KOf]
      refine' N_k81.all_mk (l := PySem.Challenge.rw_standstill_k81_ways) (w := w) KX G hmg ..
      all_goals first | k_is | kit_is | skip
    obtain ⟨fd, hb, a, W, e1, e2⟩ := TT
    subst e1 e2
    exact ⟨_, hb, fun base kb nb => N_k81.law_ok W⟩
